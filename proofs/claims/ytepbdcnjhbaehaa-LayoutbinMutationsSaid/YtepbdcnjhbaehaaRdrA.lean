/-
  Contracts of the document's reader: numbers and names.
  What of the document's Decode stands in memory while it reads: the result, the reader, the layout that is read so far; what keeps it.
-/
import Derived.Test.YtepbdcnjhbaehaaCurA
import Derived.IntWalk
import Derived.Test.YtepbdcnjhbaehaaPDec
namespace Go.Proofs.Ytepbdcnjhbaehaa.Rdr
open Go.ChangeShapes Go.WideShapes Go.ChangeAt Go.RowKit Wd Bin Lay LayT Recs PEnds _root_.Go.Proofs.Ytepbdcnjhbaehaa.Cur Crd _root_.Go.Proofs.Ytepbdcnjhbaehaa.Reach
set_option linter.unusedVariables false

/-- a byte laid below the bytes that are read so far -/
theorem or_low (v : Nat) (b : UInt8) (hv : v < 256 ^ 6) : bits .or .i64 ((v : Int) * 256) (wrap64 (b.toNat : Int)) = ((b.toNat + 256 * v : Nat) : Int) := by
  have hb := b.toNat_lt
  have hx : v * 256 < 2 ^ 63 := by omega
  have hc : ((v : Int) * 256) = ((v * 256 : Nat) : Int) := by simp
  rw [IntWalk.wrap64_in _ ⟨by omega, by omega⟩, hc]
  obtain ⟨_, h2⟩ := bits_nat .i64 63 (by decide) (fun n h1 h2 => wraps_i64 n h1 h2) (v * 256) b.toNat hx (by omega)
  rw [h2]
  have := Nat.two_pow_add_eq_or_of_lt (i := 8) (b := b.toNat) (by omega) v
  rw [show v * 256 = 2 ^ 8 * v by omega, ← this]
  congr 1
  omega
theorem val_cons_drop {s : Bs} {j : Nat} {b : UInt8} (h : s[j]? = some b) : val (s.drop j) = b.toNat + 256 * val (s.drop (j + 1)) := by
  obtain ⟨hj, e⟩ := List.getElem?_eq_some_iff.1 h
  rw [List.drop_eq_getElem_cons hj, e, val]

set_option maxRecDepth 100000 in
set_option maxHeartbeats 2000000 in
theorem r_number (b n : Nat) (s : ByteArray) (c : Bin.Cur) (w : World) (h : Cu 110 b s c w) (hc : c.1 ≤ s.size) (hn : n ≤ 6) (hs : s.size ≤ 9223372036854775807) :
    Calls Try.prog 63 #[.pointer (some ⟨b, 0, none⟩), .int .i64 n] w (Rds 110 b s (.int .i64 (rdNum n (bs s) c).1) (rdNum n (bs s) c).2 w) := by
  obtain ⟨p, st⟩ := c
  simp only at hc
  obtain ⟨c0, c1, c2⟩ := h.cells
  simp only at c1 c2
  have H := Lib.hid h
  have hfz2 := h.free 2
  have hfz1 := h.free 1
  have hfz0 := h.free 0
  clear h
  have HR : Hid (∀ it c', item n (bs s) (p, st) = (it, c') → rdNum n (bs s) (p, st) = (val it, c')) := fun it c' e => by unfold rdNum; rw [e]
  cases st with
  | true =>
    have HE := Lib.hid (HR.out _ _ (item_stuck n (bs s) p))
    go_enter Try.func63, Try.ntmps63
    go_wp2
    go_quiet (fail)
    go_wp2
    go_ret
    exact ⟨by rw [HE.out]; rfl, by rw [HE.out]; exact (H.out.drewN _).stop, grown_set (grown_draws (World.grownBy.refl w _) _) _⟩
  | false =>
    by_cases hsh : s.size - p < n
    · have HE := Lib.hid (HR.out _ _ (item_short (n := n) (s := bs s) (p := p) (by rw [bs_length]; exact hsh) false))
      have h1 : (s.size : Int) - (p : Int) < (n : Int) := by omega
      clear hsh
      go_enter Try.func63, Try.ntmps63
      go_wp2
      go_quiet (fail)
      go_wp2
      go_ret
      exact ⟨by rw [HE.out]; rfl, by rw [HE.out]; exact (H.out.drewN _).stop, grown_set (grown_draws (World.grownBy.refl w _) _) _⟩
    · have HE := Lib.hid (HR.out _ _ (item_yes (n := n) (s := bs s) (p := p) (by rw [bs_length]; exact hsh)))
      obtain ⟨it, hit⟩ : ∃ it, ((bs s).drop p).take n = it := ⟨_, rfl⟩
      have hil : it.length = n := by rw [← hit, List.length_take, List.length_drop, bs_length]; omega
      have hib : ∀ j (hj : p + j < s.size), j < n → it[j]? = some s[p + j] := fun j hj hjn => by
        rw [← hit, List.getElem?_take_of_lt hjn, List.getElem?_drop]; exact bs_get s _ hj
      rw [hit] at HE
      have h1 : ¬ (s.size : Int) - (p : Int) < (n : Int) := by omega
      have h2 : (p : Int) + (n : Int) ≤ (s.size : Int) := by omega
      have h3 : (0 : Int) ≤ p := by omega
      have HIB := Lib.hid hib
      have HIL := Lib.hid hil
      have HIN : Hid (val (it.drop n) = 0) := by rw [Hid, List.drop_of_length_le (by omega)]; rfl
      clear hsh hit hib hil
      go_enter Try.func63, Try.ntmps63
      go_wp2
      go_quiet (fail)
      go_wp2
      go_loopw [5, 6] (fun v i wr => ∃ m : Nat, m ≤ n ∧ i = .int .i64 ((m : Int) - 1) ∧ v = .int .i64 (val (it.drop m)) ∧ ∃ q, wr = w.drewN q) (fun _ i _ => (intOf i + 1).toNat)
      case atStart => exact ⟨n, Nat.le_refl _, rfl, by rw [HIN.out]; rfl, _, rfl⟩
      case round =>
        obtain ⟨m, hm, rfl, rfl, q, rfl⟩ := hrel
        by_cases h0 : 0 < m
        · obtain ⟨j, rfl⟩ : ∃ j, m = j + 1 := ⟨m - 1, by omega⟩
          rw [show ((j + 1 : Nat) : Int) - 1 = (j : Int) by omega]
          have hj0 : (0 : Int) ≤ (j : Int) := by omega
          have hjs : p + j < s.size := by omega
          have HV := Lib.hid (val_cons_drop (HIB.out j hjs (by omega)))
          have hvl : val (it.drop (j + 1)) < 256 ^ 6 := Nat.lt_of_lt_of_le (val_lt _) (Nat.pow_le_pow_right (by decide) (by have := HIL.out; rw [List.length_drop]; omega))
          have HO := Lib.hid (or_low _ s[p + j] hvl)
          have hwp : IntKind.i64.wrap ((p : Int) + (j : Int)) = (p : Int) + (j : Int) := IntWalk.i64_in _ (by omega)
          have hpj0 : (0 : Int) ≤ (p : Int) + (j : Int) := by omega
          have hpj1 : (p : Int) + (j : Int) < (s.size : Int) := by omega
          have htn : ((p : Int) + (j : Int)).toNat = p + j := by omega
          go_wp2
          go_quiet (fail)
          go_wp2_with fail
          go_roundw
          case rel => exact ⟨j, by omega, by go_num, by rw [HO.out, HV.out], _, rfl⟩
          case measure => simp [intOf]
        · obtain rfl : m = 0 := by omega
          have h00 : ((0 : Nat) : Int) - 1 = -1 := by omega
          rw [h00]
          have HX : Hid (val (it.drop 0) = val it) := rfl
          rw [HX.out]
          clear h00
          go_wp2
          go_ret
          exact ⟨by rw [HE.out]; rfl, by rw [HE.out]; exact (H.out.drewN _).go (p + n), grown_set (grown_draws (World.grownBy.refl w _) _) _⟩

theorem rname_stuck (s : Bs) (p : Nat) : rdName s (p, true) = ([], p, true) := by unfold rdName; rw [item_stuck]; rfl
theorem rname_end {s : Bs} {p : Nat} (h : s.length ≤ p) : rdName s (p, false) = ([], p, true) := by
  unfold rdName
  have hz := size_pos s p
  rw [item_short (n := size s p) (s := s) (p := p) (by omega)]; rfl
theorem rname_short {s : Bs} {p : Nat} {b : UInt8} (hb : s[p]? = some b) (h : s.length - p - 1 < b.toNat) : rdName s (p, false) = ([], p, true) := by
  have hz : size s p = 1 + b.toNat := by unfold size; rw [hb]; rfl
  unfold rdName
  rw [hz, item_short (by omega)]; rfl
theorem rname_yes {s : Bs} {p : Nat} {b : UInt8} (hb : s[p]? = some b) (h : ¬ s.length - p - 1 < b.toNat) : rdName s (p, false) = ((s.drop (p + 1)).take b.toNat, p + (1 + b.toNat), false) := by
  have hz : size s p = 1 + b.toNat := by unfold size; rw [hb]; rfl
  have hl : p < s.length := (List.getElem?_eq_some_iff.1 hb).1
  unfold rdName
  rw [hz, item_yes (by omega)]
  simp only
  rw [List.drop_take, List.drop_drop, show 1 + b.toNat - 1 = b.toNat by omega]

set_option maxRecDepth 100000 in
set_option maxHeartbeats 4000000 in
theorem r_name (b : Nat) (s : ByteArray) (c : Bin.Cur) (w : World) (h : Cu 110 b s c w) (hc : c.1 ≤ s.size) (hs : s.size ≤ 9223372036854775807) :
    Calls Try.prog 64 #[.pointer (some ⟨b, 0, none⟩)] w (Rds 110 b s (.string (str (rdName (bs s) c).1)) (rdName (bs s) c).2 w) := by
  obtain ⟨p, st⟩ := c
  simp only at hc
  obtain ⟨c0, c1, c2⟩ := h.cells
  simp only at c1 c2
  have H := Lib.hid h
  have hfz2 := h.free 2
  have hfz1 := h.free 1
  clear h
  cases st with
  | true =>
    have HE := Lib.hid (rname_stuck (bs s) p)
    go_enter Try.func64, Try.ntmps64
    go_wp2
    go_quiet (fail)
    go_wp2
    go_ret
    exact ⟨by rw [HE.out]; rfl, by rw [HE.out]; exact (H.out.drewN _).stop, grown_set (grown_draws (World.grownBy.refl w _) _) _⟩
  | false =>
    by_cases hp : p < s.size
    · have hg := bs_get s p hp
      have hp1 : decide ((s.size : Int) ≤ (p : Int)) = false := by simp; omega
      have hp2 : (p : Int) < (s.size : Int) := by omega
      have hp3 : (0 : Int) ≤ (p : Int) := by omega
      have hbt := s[p].toNat_lt
      have hwb : IntKind.i64.wrap (s[p].toNat : Int) = (s[p].toNat : Int) := IntWalk.i64_in _ (by omega)
      have hpn : decide (s.size ≤ p) = false := by simp; omega
      have hw1 : IntKind.i64.wrap ((s.size : Int) - (p : Int)) = (s.size : Int) - (p : Int) := IntWalk.i64_in _ (by omega)
      have hw2 : IntKind.i64.wrap ((s.size : Int) - (p : Int) - 1) = (s.size : Int) - (p : Int) - 1 := IntWalk.i64_in _ (by omega)
      by_cases hsh : s.size - p - 1 < s[p].toNat
      · have HE := Lib.hid (rname_short hg (by rw [bs_length]; exact hsh))
        have h1 : (s.size : Int) - (p : Int) - 1 < (s[p].toNat : Int) := by omega
        have h1d : decide ((s.size : Int) - (p : Int) - 1 < (s[p].toNat : Int)) = true := decide_eq_true h1
        clear hg hsh
        go_enter Try.func64, Try.ntmps64
        go_wp2
        go_quiet (fail)
        go_wp2
        go_ret
        exact ⟨by rw [HE.out]; rfl, by rw [HE.out]; exact (H.out.drewN _).stop, grown_set (grown_draws (World.grownBy.refl w _) _) _⟩
      · have HE := Lib.hid (rname_yes hg (by rw [bs_length]; exact hsh))
        have h1 : ¬ (s.size : Int) - (p : Int) - 1 < (s[p].toNat : Int) := by omega
        have h1d : decide ((s.size : Int) - (p : Int) - 1 < (s[p].toNat : Int)) = false := decide_eq_false h1
        have h2 : (p : Int) + 1 + (s[p].toNat : Int) ≤ (s.size : Int) := by omega
        have HX : Hid (s.extract (p + 1) (p + 1 + s[p].toNat) = str (((bs s).drop (p + 1)).take s[p].toNat)) := extract_str s (p + 1) s[p].toNat
        have hw3 : IntKind.i64.wrap ((p : Int) + 1) = (p : Int) + 1 := IntWalk.i64_in _ (by omega)
        have hw4 : IntKind.i64.wrap ((p : Int) + 1 + (s[p].toNat : Int)) = (p : Int) + 1 + (s[p].toNat : Int) := IntWalk.i64_in _ (by omega)
        have hn3 : ((p : Int) + 1).toNat = p + 1 := by omega
        have hn4 : ((p : Int) + 1 + (s[p].toNat : Int)).toNat = p + 1 + s[p].toNat := by omega
        have h03 : (0 : Int) ≤ (p : Int) + 1 := by omega
        have h34 : (p : Int) + 1 ≤ (p : Int) + 1 + (s[p].toNat : Int) := by omega
        clear hg hsh
        go_enter Try.func64, Try.ntmps64
        go_wp2
        go_quiet (fail)
        go_wp2
        go_quiet (fail)
        go_wp2
        go_quiet (fail)
        go_wp2
        go_ret
        have hcast : ((p + (1 + s[p].toNat) : Nat) : Int) = (p : Int) + (1 + (s[p].toNat : Int)) := by omega
        rw [← hcast]
        exact ⟨by rw [HE.out]; simp only [← HX.out]; rfl, by rw [HE.out]; exact (H.out.drewN _).go (p + (1 + s[p].toNat)), grown_set (grown_draws (World.grownBy.refl w _) _) _⟩
    · have HE := Lib.hid (rname_end (s := bs s) (p := p) (by rw [bs_length]; omega))
      have hp1 : decide ((s.size : Int) ≤ (p : Int)) = true := by simp; omega
      have hpn : decide (s.size ≤ p) = true := by simp; omega
      have hp2 : (s.size : Int) ≤ (p : Int) := by omega
      clear hp
      go_enter Try.func64, Try.ntmps64
      go_wp2
      go_quiet (fail)
      go_wp2
      go_ret
      exact ⟨by rw [HE.out]; rfl, by rw [HE.out]; exact (H.out.drewN _).stop, grown_set (grown_draws (World.grownBy.refl w _) _) _⟩
end Go.Proofs.Ytepbdcnjhbaehaa.Rdr

namespace Go.Proofs.Ytepbdcnjhbaehaa.RSt
open Go.ChangeShapes Go.WideShapes Go.ChangeAt Go.RowKit Wd Bin Lay LayT Recs PEnds Bldr _root_.Go.Proofs.Ytepbdcnjhbaehaa.Cur _root_.Go.Proofs.Ytepbdcnjhbaehaa.Reach PDec
set_option linter.unusedVariables false

def nils : Array Value := #[.slice none 0 0, .slice none 0 0, .slice none 0 0, .slice none 0 0]
/-- w: the world of the call; g: the block of the result; b: the reader; m: the layout; from block B1 on its lists; from B2 on the list of points -/
structure St (w : World) (g b m B1 B2 : Nat) (s : ByteArray) (wr : World) (v : LV) (l : Lay) (c : Bin.Cur) : Prop where
  res : wr.heap[g]? = some (.cells #[.slice none 0 0, .slice none 0 0, .slice none 0 0, .slice none 0 0] 29 (0, 0))
  cu : Cu 110 b s c wr
  lay : wr.heap[m]? = some (.cells #[.slice v.A1 v.n1 v.c1, .slice v.A2 v.n2 v.c2, .slice v.A3 v.n3 v.c3, .slice v.A4 v.n4 v.c4] 29 (0, 0))
  st : Own sR wr B1 (.slice v.A1 v.n1 v.c1) v.n1 l.stations
  pt : Own sR wr B2 (.slice v.A2 v.n2 v.c2) v.n2 l.points
  sec : Own secR wr B1 (.slice v.A3 v.n3 v.c3) v.n3 l.sections
  lnk : Own lnkR wr B1 (.slice v.A4 v.n4 v.c4) v.n4 l.links
  part : ∀ k, (Value.slice v.A1 v.n1 v.c1).ownBlock = some k → k < B2
  blw : Below w.heap.size w wr
  big : B2 ≤ wr.heap.size
/-- the order of the blocks -/
structure Ord (w : World) (g b m B1 B2 : Nat) : Prop where
  o1 : w.heap.size ≤ g
  o2 : g < b
  o3 : b < m
  o4 : m < B1
  o5 : B1 ≤ B2
section
variable {w wr w' : World} {g b m B1 B2 : Nat} {s : ByteArray} {v : LV} {l : Lay} {c c' : Bin.Cur}
theorem St.mlt (h : St w g b m B1 B2 s wr v l c) : m < wr.heap.size := (Array.getElem?_eq_some_iff.1 h.lay).1
theorem St.glt (h : St w g b m B1 B2 s wr v l c) : g < wr.heap.size := (Array.getElem?_eq_some_iff.1 h.res).1
theorem St.draws (h : St w g b m B1 B2 s wr v l c) (n : Nat) : St w g b m B1 B2 s (wr.drewN n) v l c :=
  ⟨h.res, h.cu, h.lay, h.st, h.pt, h.sec, h.lnk, h.part, Mem.below_draws h.blw n, h.big⟩
theorem St.read (h : St w g b m B1 B2 s wr v l c) (o : Ord w g b m B1 B2) (hc : Cu 110 b s c' w') (hg : wr.grownBy w' (some b)) : St w g b m B1 B2 s w' v l c' := by
  have o1 := o.o1; have o2 := o.o2; have o3 := o.o3; have o4 := o.o4; have o5 := o.o5
  exact ⟨(hg.block g h.glt (fun e => by injection e with e; omega)).trans h.res, hc, (hg.block m h.mlt (fun e => by injection e with e; omega)).trans h.lay,
    h.st.grown hg (own_ne h.st (by omega)), h.pt.grown hg (own_ne h.pt (by omega)), h.sec.grown hg (own_ne h.sec (by omega)), h.lnk.grown hg (own_ne h.lnk (by omega)), h.part,
    h.blw.grown hg h.blw.size (fun k hk => by injection hk with hk; omega), Nat.le_trans h.big hg.size⟩
theorem St.alloc (h : St w g b m B1 B2 s wr v l c) (ob : Obj) : St w g b m B1 B2 s (wr.alloc ob) v l c := by
  have hb : Below wr.heap.size wr (wr.alloc ob) := (Below.refl _ _).alloc (Nat.le_refl _) _
  exact ⟨(hb.block g h.glt).trans h.res, h.cu.kept (row := none) (below_grown hb) (by simp), (hb.block m h.mlt).trans h.lay, h.st.alloc _, h.pt.alloc _, h.sec.alloc _, h.lnk.alloc _, h.part, h.blw.trans (hb.mono h.blw.size), Nat.le_trans h.big hb.size⟩
/-- a cell that is no one's is written -/
theorem St.past (h : St w g b m B1 B2 s wr v l c) {x j : Nat} {u : Value} (hx : wr.heap.size ≤ x) : St w g b m B1 B2 s (wr.setCell ⟨x, j, none⟩ u) v l c := by
  have hb : Below wr.heap.size wr (wr.setCell ⟨x, j, none⟩ u) := (Below.refl _ _).setCell (p := ⟨x, j, none⟩) hx _
  exact ⟨(hb.block g h.glt).trans h.res, h.cu.kept (row := none) (below_grown hb) (by simp), (hb.block m h.mlt).trans h.lay, h.st.below hb (Nat.le_refl _), h.pt.below hb (Nat.le_refl _), h.sec.below hb (Nat.le_refl _), h.lnk.below hb (Nat.le_refl _), h.part, h.blw.trans (hb.mono h.blw.size), Nat.le_trans h.big hb.size⟩
theorem St.same (h : St w g b m B1 B2 s wr v l c) (hb : Below wr.heap.size wr w') : St w g b m B1 B2 s w' v l c :=
  ⟨(hb.block g h.glt).trans h.res, h.cu.kept (row := none) (below_grown hb) (by simp), (hb.block m h.mlt).trans h.lay, h.st.below hb (Nat.le_refl _), h.pt.below hb (Nat.le_refl _), h.sec.below hb (Nat.le_refl _), h.lnk.below hb (Nat.le_refl _), h.part, h.blw.trans (hb.mono h.blw.size), Nat.le_trans h.big hb.size⟩
theorem ne_types {α β : Type} {R : Rec α} {S : Rec β} {base base' n k : Nat} {v u : Value} {L : List α} {M : List β} (he : R.e ≠ S.e) (h : Own R wr base v n L) (h' : Own S wr base' u k M) : v.ownBlock = none ∨ v.ownBlock ≠ u.ownBlock := by
  cases hu : u.ownBlock with
  | none => cases hv : v.ownBlock with
    | none => exact .inl rfl
    | some x => exact .inr (by simp)
  | some x => exact .inr (ne_row he h h' hu)
theorem ne_bases {α : Type} {R : Rec α} {base base' n k : Nat} {v u : Value} {L M : List α} (h : Own R wr base v n L) (h' : Own R wr base' u k M) (hp : ∀ x, v.ownBlock = some x → x < base') : v.ownBlock = none ∨ v.ownBlock ≠ u.ownBlock := by
  cases hv : v.ownBlock with
  | none => exact .inl rfl
  | some x => exact .inr (fun e => by have := hp x hv; have := (h'.2.lt x e.symm).1; omega)
/-- the cells of the layout -/
theorem St.cells (h : St w g b m B1 B2 s wr v l c) : (wr.cell? ⟨m, 0, none⟩ = some (.slice v.A1 v.n1 v.c1) ∧ wr.cell? ⟨m, 1, none⟩ = some (.slice v.A2 v.n2 v.c2) ∧ wr.cell? ⟨m, 2, none⟩ = some (.slice v.A3 v.n3 v.c3) ∧ wr.cell? ⟨m, 3, none⟩ = some (.slice v.A4 v.n4 v.c4)) := by simp [World.cell?, h.lay]
theorem St.free (h : St w g b m B1 B2 s wr v l c) (j : Nat) : wr.frozen? ⟨m, j, none⟩ = false := by simp [World.frozen?, h.lay]
/-- what of the row's growth is enough for all but the row itself -/
theorem rows_left {ob : Obj} {w7 : World} {row : Option Nat} (h : St w g b m B1 B2 s wr v l c) (o : Ord w g b m B1 B2) (hg : (wr.alloc ob).grownBy w7 row) (hr : ∀ k, row = some k → B1 ≤ k) :
    w7.heap[g]? = some (.cells #[.slice none 0 0, .slice none 0 0, .slice none 0 0, .slice none 0 0] 29 (0, 0)) ∧ Cu 110 b s c w7 ∧ w7.heap[m]? = some (.cells #[.slice v.A1 v.n1 v.c1, .slice v.A2 v.n2 v.c2, .slice v.A3 v.n3 v.c3, .slice v.A4 v.n4 v.c4] 29 (0, 0)) ∧ Below w.heap.size w w7 := by
  have o1 := o.o1; have o2 := o.o2; have o3 := o.o3; have o4 := o.o4
  have h1 := h.alloc ob
  exact ⟨(hg.block g h1.glt (fun e => by have := hr g e.symm; omega)).trans h1.res, h1.cu.kept hg (fun e => by have := hr b e.symm; omega), (hg.block m h1.mlt (fun e => by have := hr m e.symm; omega)).trans h1.lay,
    h1.blw.grown hg h1.blw.size (fun k hk => by have := hr k hk; omega)⟩
theorem set_lay {w7 : World} {x0 x1 x2 x3 : Value} {t : TypeId} (h : w7.heap[m]? = some (.cells #[x0, x1, x2, x3] t (0, 0))) (u : Value) :
    (w7.setCell ⟨m, 0, none⟩ u).heap[m]? = some (.cells #[u, x1, x2, x3] t (0, 0)) ∧ (w7.setCell ⟨m, 1, none⟩ u).heap[m]? = some (.cells #[x0, u, x2, x3] t (0, 0)) ∧ (w7.setCell ⟨m, 2, none⟩ u).heap[m]? = some (.cells #[x0, x1, u, x3] t (0, 0)) ∧ (w7.setCell ⟨m, 3, none⟩ u).heap[m]? = some (.cells #[x0, x1, x2, u] t (0, 0)) := by
  simp [World.setCell, Array.getElem?_modify, h]
theorem set_else {w7 : World} {x j : Nat} {u : Value} (hx : x ≠ m) : (w7.setCell ⟨m, j, none⟩ u).heap[x]? = w7.heap[x]? := Below.heap_setCell w7 ⟨m, j, none⟩ u x (fun e => hx e)

theorem St.put1 {ob : Obj} {w7 : World} {A' : Option Addr} {c7 : Nat} {x : Bs} (h : St w g b m B1 B2 s wr v l c) (o : Ord w g b m B1 B2) (hp : v.A2 = none ∧ v.n2 = 0 ∧ v.c2 = 0 ∧ l.points = [])
    (hg : (wr.alloc ob).grownBy w7 (Value.slice v.A1 v.n1 v.c1).ownBlock) (hO : Own sR w7 B1 (.slice A' (v.n1 + 1) c7) (v.n1 + 1) (l.stations ++ [x])) :
    St w g b m B1 (w7.heap.size) s (w7.setCell ⟨m, 0, none⟩ (.slice A' (v.n1 + 1) c7)) ⟨A', v.n1 + 1, c7, v.A2, v.n2, v.c2, v.A3, v.n3, v.c3, v.A4, v.n4, v.c4⟩ ⟨l.stations ++ [x], l.points, l.sections, l.links⟩ c := by
  have o1 := o.o1; have o2 := o.o2; have o3 := o.o3; have o4 := o.o4
  obtain ⟨k1, k2, k3, k4⟩ := rows_left h o hg (fun k hk => (h.st.2.lt k hk).1)
  have h1 := h.alloc ob
  refine ⟨(set_else (by omega)).trans k1, Crd.Cu.past k2 (by omega) _, (set_lay k3 _).1, own_set hO (by omega), ?_, own_set (h1.sec.grown hg (ne_types (by decide) h1.sec h1.st)) (by omega), own_set (h1.lnk.grown hg (ne_types (by decide) h1.lnk h1.st)) (by omega), fun k hk => (hO.2.lt k hk).2, k4.setCell (p := ⟨m, 0, none⟩) (by show w.heap.size ≤ m; omega) _, by simp⟩
  obtain ⟨e1, e2, e3, e4⟩ := hp
  simp only [e1, e2, e3, e4]
  exact Own.nil _ _
theorem St.put2 {ob : Obj} {w7 : World} {A' : Option Addr} {c7 : Nat} {x : Bs} (h : St w g b m B1 B2 s wr v l c) (o : Ord w g b m B1 B2)
    (hg : (wr.alloc ob).grownBy w7 (Value.slice v.A2 v.n2 v.c2).ownBlock) (hO : Own sR w7 B2 (.slice A' (v.n2 + 1) c7) (v.n2 + 1) (l.points ++ [x])) :
    St w g b m B1 B2 s (w7.setCell ⟨m, 1, none⟩ (.slice A' (v.n2 + 1) c7)) ⟨v.A1, v.n1, v.c1, A', v.n2 + 1, c7, v.A3, v.n3, v.c3, v.A4, v.n4, v.c4⟩ ⟨l.stations, l.points ++ [x], l.sections, l.links⟩ c := by
  have o1 := o.o1; have o2 := o.o2; have o3 := o.o3; have o4 := o.o4; have o5 := o.o5
  obtain ⟨k1, k2, k3, k4⟩ := rows_left h o hg (fun k hk => by have := (h.pt.2.lt k hk).1; omega)
  have h1 := h.alloc ob
  exact ⟨(set_else (by omega)).trans k1, Crd.Cu.past k2 (by omega) _, (set_lay k3 _).2.1, own_set (h1.st.grown hg (ne_bases h1.st h1.pt h1.part)) (by omega), own_set hO (by omega), own_set (h1.sec.grown hg (ne_types (by decide) h1.sec h1.pt)) (by omega), own_set (h1.lnk.grown hg (ne_types (by decide) h1.lnk h1.pt)) (by omega), h.part, k4.setCell (p := ⟨m, 1, none⟩) (by show w.heap.size ≤ m; omega) _, by have := hg.size; have := h1.big; simp; omega⟩
theorem St.put3 {ob : Obj} {w7 : World} {A' : Option Addr} {c7 : Nat} {x : Sec} (h : St w g b m B1 B2 s wr v l c) (o : Ord w g b m B1 B2)
    (hg : (wr.alloc ob).grownBy w7 (Value.slice v.A3 v.n3 v.c3).ownBlock) (hO : Own secR w7 B1 (.slice A' (v.n3 + 1) c7) (v.n3 + 1) (l.sections ++ [x])) :
    St w g b m B1 B2 s (w7.setCell ⟨m, 2, none⟩ (.slice A' (v.n3 + 1) c7)) ⟨v.A1, v.n1, v.c1, v.A2, v.n2, v.c2, A', v.n3 + 1, c7, v.A4, v.n4, v.c4⟩ ⟨l.stations, l.points, l.sections ++ [x], l.links⟩ c := by
  have o1 := o.o1; have o2 := o.o2; have o3 := o.o3; have o4 := o.o4; have o5 := o.o5
  obtain ⟨k1, k2, k3, k4⟩ := rows_left h o hg (fun k hk => (h.sec.2.lt k hk).1)
  have h1 := h.alloc ob
  exact ⟨(set_else (by omega)).trans k1, Crd.Cu.past k2 (by omega) _, (set_lay k3 _).2.2.1, own_set (h1.st.grown hg (ne_types (by decide) h1.st h1.sec)) (by omega), own_set (h1.pt.grown hg (ne_types (by decide) h1.pt h1.sec)) (by omega), own_set hO (by omega), own_set (h1.lnk.grown hg (ne_types (by decide) h1.lnk h1.sec)) (by omega), h.part, k4.setCell (p := ⟨m, 2, none⟩) (by show w.heap.size ≤ m; omega) _, by have := hg.size; have := h1.big; simp; omega⟩
theorem St.put4 {ob : Obj} {w7 : World} {A' : Option Addr} {c7 : Nat} {x : Lnk} (h : St w g b m B1 B2 s wr v l c) (o : Ord w g b m B1 B2)
    (hg : (wr.alloc ob).grownBy w7 (Value.slice v.A4 v.n4 v.c4).ownBlock) (hO : Own lnkR w7 B1 (.slice A' (v.n4 + 1) c7) (v.n4 + 1) (l.links ++ [x])) :
    St w g b m B1 B2 s (w7.setCell ⟨m, 3, none⟩ (.slice A' (v.n4 + 1) c7)) ⟨v.A1, v.n1, v.c1, v.A2, v.n2, v.c2, v.A3, v.n3, v.c3, A', v.n4 + 1, c7⟩ ⟨l.stations, l.points, l.sections, l.links ++ [x]⟩ c := by
  have o1 := o.o1; have o2 := o.o2; have o3 := o.o3; have o4 := o.o4; have o5 := o.o5
  obtain ⟨k1, k2, k3, k4⟩ := rows_left h o hg (fun k hk => (h.lnk.2.lt k hk).1)
  have h1 := h.alloc ob
  exact ⟨(set_else (by omega)).trans k1, Crd.Cu.past k2 (by omega) _, (set_lay k3 _).2.2.2, own_set (h1.st.grown hg (ne_types (by decide) h1.st h1.lnk)) (by omega), own_set (h1.pt.grown hg (ne_types (by decide) h1.pt h1.lnk)) (by omega), own_set (h1.sec.grown hg (ne_types (by decide) h1.sec h1.lnk)) (by omega), own_set hO (by omega), h.part, k4.setCell (p := ⟨m, 3, none⟩) (by show w.heap.size ≤ m; omega) _, by have := hg.size; have := h1.big; simp; omega⟩
/-- the blocks of the lists lie below e -/
def Low (v : LV) (e : Nat) : Prop := (∀ k, (Value.slice v.A1 v.n1 v.c1).ownBlock = some k → k < e) ∧ (∀ k, (Value.slice v.A2 v.n2 v.c2).ownBlock = some k → k < e) ∧ (∀ k, (Value.slice v.A3 v.n3 v.c3).ownBlock = some k → k < e) ∧ (∀ k, (Value.slice v.A4 v.n4 v.c4).ownBlock = some k → k < e)
theorem St.low (h : St w g b m B1 B2 s wr v l c) : Low v wr.heap.size := ⟨fun k hk => (h.st.2.lt k hk).2, fun k hk => (h.pt.2.lt k hk).2, fun k hk => (h.sec.2.lt k hk).2, fun k hk => (h.lnk.2.lt k hk).2⟩
theorem own_low {α : Type} {R : Rec α} {base n e j : Nat} {x u : Value} {L : List α} (h : Own R wr base x n L) (hl : ∀ k, x.ownBlock = some k → k < e) : Own R (wr.setCell ⟨e, j, none⟩ u) base x n L :=
  h.grown (row := some e) (grown_set (World.grownBy.refl wr _) _) (by
    cases hx : x.ownBlock with
    | none => exact .inl rfl
    | some k => exact .inr (fun e2 => by injection e2 with e2; have := hl k hx; omega))
/-- a cell of a block behind the lists is written -/
theorem St.setE {e j : Nat} {u : Value} (h : St w g b m B1 B2 s wr v l c) (o : Ord w g b m B1 B2) (hl : Low v e) (he : m < e) : St w g b m B1 B2 s (wr.setCell ⟨e, j, none⟩ u) v l c := by
  have o1 := o.o1; have o2 := o.o2; have o3 := o.o3
  exact ⟨(set_else (m := e) (by omega)).trans h.res, Crd.Cu.past h.cu (by omega) _, (set_else (m := e) (by omega)).trans h.lay, own_low h.st hl.1, own_low h.pt hl.2.1, own_low h.sec hl.2.2.1, own_low h.lnk hl.2.2.2, h.part, h.blw.setCell (p := ⟨e, j, none⟩) (by show w.heap.size ≤ e; omega) _, by have := h.big; simpa using this⟩
/-- the layout, as a call reads it -/
theorem St.owns (h : St w g b m B1 B2 s wr v l c) (o : B1 ≤ B2) : OwnL wr B1 v l := ⟨h.st, h.pt.base_ o, h.sec, h.lnk⟩
end
theorem many_stuck {α : Type} {A : Rdr α} (hA : Fine A) (s : Bs) (c : Bin.Cur) : ∀ (n k : Nat), k ≤ n → (many A k s c).2.2 = true → (many A n s c).2 = (many A k s c).2
  | 0, k, hk, _ => by obtain rfl : k = 0 := by omega
                      rfl
  | n + 1, k, hk, h => by
    by_cases e : k = n + 1
    · subst e; rfl
    · have ih := many_stuck hA s c n k (by omega) h
      rw [many_succ]
      simp only
      rw [ih]
      obtain ⟨p, st⟩ : ∃ p st, (many A k s c).2 = (p, st) := ⟨_, _, rfl⟩
      rcases ‹∃ st, (many A k s c).2 = (p, st)› with ⟨st, e2⟩
      rw [e2] at h ⊢
      simp only at h
      subst h
      exact hA.stuck s p
end Go.Proofs.Ytepbdcnjhbaehaa.RSt
