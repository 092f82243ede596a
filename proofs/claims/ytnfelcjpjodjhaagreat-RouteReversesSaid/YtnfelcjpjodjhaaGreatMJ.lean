/-
  The layout that the document's own reader declares line by line, in memory; its small functions. Contract of the document's own function that declares a section. Contract of the document's own function that declares a link. Contract of the document's own function that takes a line into the layout.
  Contract of the program's function that reads the text of a layout.
  Contract of the document's own function that reads the text of a layout.
-/
import Derived.Test.YtnfelcjpjodjhaaGreatMF
import Derived.Test.YtnfelcjpjodjhaaGreatMB
import Derived.Deep.RegionLaw
import Derived.Deep.AppendLies
import Derived.Deep.RegionHeld3
import Derived.Deep.Cut
import Derived.Deep.CutRange
import Derived.Test.YtnfelcjpjodjhaaGreatMG
import Derived.Test.YtnfelcjpjodjhaaGreatMC
import Derived.Test.YtnfelcjpjodjhaaGreatMI
import Derived.Carry
import Derived.Test.YtnfelcjpjodjhaaGreatMH
namespace Go.Proofs.YtnfelcjpjodjhaaGreat.RDft
open Go.ChangeShapes Go.WideShapes Go.ChangeAt Go.RowKit Wd Small Mem Lay LayT Recs Keep Names PNames PSecs PEnds RNames Num Txt App Dft
set_option linter.unusedVariables false
theorem dr_lo {w : World} {g : Nat} {α : Type} {R : Rec α} {u : Value} {n : Nat} {L : List α} (h : Recs.Own R w (g + 1) u n L) : ∀ b, u.ownBlock = some b → g < b := fun b hb => by have := (h.2.lt b hb).1; omega

/-- the block of the layout that grows: four slices -/
def Blk4 (w : World) (g : Nat) (v0 v1 v2 v3 : Value) : Prop := w.heap[g]? = some (.cells #[v0, v1, v2, v3] 26)
section
variable {w w' : World} {g : Nat} {v0 v1 v2 v3 : Value}
theorem Blk4.lt (h : Blk4 w g v0 v1 v2 v3) : g < w.heap.size := lt_of_block h
theorem Blk4.c0 (h : Blk4 w g v0 v1 v2 v3) : w.cell? ⟨g, 0, none⟩ = some v0 := by unfold Blk4 at h; simp [World.cell?, h]
theorem Blk4.c1 (h : Blk4 w g v0 v1 v2 v3) : w.cell? ⟨g, 1, none⟩ = some v1 := by unfold Blk4 at h; simp [World.cell?, h]
theorem Blk4.c2 (h : Blk4 w g v0 v1 v2 v3) : w.cell? ⟨g, 2, none⟩ = some v2 := by unfold Blk4 at h; simp [World.cell?, h]
theorem Blk4.c3 (h : Blk4 w g v0 v1 v2 v3) : w.cell? ⟨g, 3, none⟩ = some v3 := by unfold Blk4 at h; simp [World.cell?, h]
theorem Blk4.f (h : Blk4 w g v0 v1 v2 v3) (j : Nat) : w.frozen? ⟨g, j, none⟩ = false := by unfold Blk4 at h; simp [World.frozen?, h]
theorem Blk4.same (h : Blk4 w g v0 v1 v2 v3) (hh : w'.heap[g]? = w.heap[g]?) : Blk4 w' g v0 v1 v2 v3 := hh.trans h
theorem Blk4.put0 (h : Blk4 w g v0 v1 v2 v3) (v : Value) : Blk4 (w.setCell ⟨g, 0, none⟩ v) g v v1 v2 v3 := by unfold Blk4 at *; simp [World.setCell, Array.getElem?_modify, h]
theorem Blk4.put1 (h : Blk4 w g v0 v1 v2 v3) (v : Value) : Blk4 (w.setCell ⟨g, 1, none⟩ v) g v0 v v2 v3 := by unfold Blk4 at *; simp [World.setCell, Array.getElem?_modify, h]
theorem Blk4.put2 (h : Blk4 w g v0 v1 v2 v3) (v : Value) : Blk4 (w.setCell ⟨g, 2, none⟩ v) g v0 v1 v v3 := by unfold Blk4 at *; simp [World.setCell, Array.getElem?_modify, h]
theorem Blk4.put3 (h : Blk4 w g v0 v1 v2 v3) (v : Value) : Blk4 (w.setCell ⟨g, 3, none⟩ v) g v0 v1 v2 v := by unfold Blk4 at *; simp [World.setCell, Array.getElem?_modify, h]
end
/-- block g holds the layout l, declared in at most k lines -/
structure Dq (w : World) (g k : Nat) (l : Lay) (v : LV) : Prop where
  blk : Blk4 w g (.slice v.A1 v.n1 v.c1) (.slice v.A2 v.n2 v.c2) (.slice v.A3 v.n3 v.c3) (.slice v.A4 v.n4 v.c4)
  st : Recs.Own sR w (g + 1) (.slice v.A1 v.n1 v.c1) v.n1 l.stations
  pt : Recs.Own sR w (g + 1) (.slice v.A2 v.n2 v.c2) v.n2 l.points
  sec : Recs.Own secR w (g + 1) (.slice v.A3 v.n3 v.c3) v.n3 l.sections
  lnk : Recs.Own lnkR w (g + 1) (.slice v.A4 v.n4 v.c4) v.n4 l.links
  ne : ∀ b, (Value.slice v.A1 v.n1 v.c1).ownBlock = some b → (Value.slice v.A2 v.n2 v.c2).ownBlock ≠ some b
  b1 : v.n1 ≤ k
  b2 : v.n2 ≤ k
  b3 : v.n3 ≤ k
  b4 : v.n4 ≤ k
  z1 : ∀ s ∈ l.stations, s.length ≤ 65537
  z2 : ∀ s ∈ l.points, s.length ≤ 65537
  z3 : ∀ s ∈ l.sections, s.name.length ≤ 65537
section
variable {w wn : World} {g k j : Nat} {u x : Value}
theorem own2 {α : Type} {R : Rec α} {v : Value} {n : Nat} {L : List α} (h : Recs.Own R w (g + 1) v n L) (h2 : w.grownBy wn u.ownBlock) (hne : ∀ b, v.ownBlock = some b → u.ownBlock ≠ some b) : Recs.Own R (wn.setCell ⟨g, j, none⟩ x) (g + 1) v n L := by
  refine own1 (h.grown h2 ?_)
  cases hv : v.ownBlock with
  | none => exact .inl rfl
  | some b => exact .inr (fun e => hne b hv e.symm)
theorem blk2 {v0 v1 v2 v3 : Value} (h : Blk4 w g v0 v1 v2 v3) (h2 : w.grownBy wn u.ownBlock) (hu : ∀ b, u.ownBlock = some b → g < b) : Blk4 wn g v0 v1 v2 v3 := by
  refine h.same (h2.block g h.lt ?_)
  intro e
  have := hu _ e.symm
  omega
end
section
variable {w wn : World} {g k : Nat} {l : Lay} {v : LV}
theorem Dq.below {w' : World} (h : Dq w g k l v) (hb : Below w.heap.size w w') : Dq w' g k l v :=
  ⟨h.blk.same (hb.block g h.blk.lt), h.st.below hb (Nat.le_refl _), h.pt.below hb (Nat.le_refl _), h.sec.below hb (Nat.le_refl _), h.lnk.below hb (Nat.le_refl _), h.ne, h.b1, h.b2, h.b3, h.b4, h.z1, h.z2, h.z3⟩
theorem Dq.more {k' : Nat} (h : Dq w g k l v) (hk : k ≤ k') : Dq w g k' l v :=
  ⟨h.blk, h.st, h.pt, h.sec, h.lnk, h.ne, by have := h.b1; omega, by have := h.b2; omega, by have := h.b3; omega, by have := h.b4; omega, h.z1, h.z2, h.z3⟩
theorem Dq.stat {A' : Option Addr} {c' : Nat} {s : Bs} (h : Dq w g k l v) (h2 : w.grownBy wn (Value.slice v.A1 v.n1 v.c1).ownBlock) (hO : Recs.Own sR wn (g + 1) (.slice A' (v.n1 + 1) c') (v.n1 + 1) (l.stations ++ [s]))
    (hat : ∀ b, (Value.slice A' (v.n1 + 1) c').ownBlock = some b → (Value.slice v.A1 v.n1 v.c1).ownBlock = some b ∨ w.heap.size ≤ b) (hs : s.length ≤ 65537) :
    Dq (wn.setCell ⟨g, 0, none⟩ (.slice A' (v.n1 + 1) c')) g (k + 1) { l with stations := l.stations ++ [s] } { v with A1 := A', n1 := v.n1 + 1, c1 := c' } := by
  refine ⟨(blk2 h.blk h2 (RDft.dr_lo h.st)).put0 _, own1 hO, own2 h.pt h2 (fun b hb e => h.ne b e hb), own2 h.sec h2 (fun b hb => ne_row (by decide) h.st h.sec hb), own2 h.lnk h2 (fun b hb => ne_row (by decide) h.st h.lnk hb), ?_, by have := h.b1; simp only; omega, by have := h.b2; simp only; omega, by have := h.b3; simp only; omega, by have := h.b4; simp only; omega, snoc_max h.z1 hs, h.z2, h.z3⟩
  intro b hb e
  rcases hat b hb with h3 | h3
  · exact h.ne b h3 e
  · have := (h.pt.2.lt b e).2
    omega
theorem Dq.poin {A' : Option Addr} {c' : Nat} {s : Bs} (h : Dq w g k l v) (h2 : w.grownBy wn (Value.slice v.A2 v.n2 v.c2).ownBlock) (hO : Recs.Own sR wn (g + 1) (.slice A' (v.n2 + 1) c') (v.n2 + 1) (l.points ++ [s]))
    (hat : ∀ b, (Value.slice A' (v.n2 + 1) c').ownBlock = some b → (Value.slice v.A2 v.n2 v.c2).ownBlock = some b ∨ w.heap.size ≤ b) (hs : s.length ≤ 65537) :
    Dq (wn.setCell ⟨g, 1, none⟩ (.slice A' (v.n2 + 1) c')) g (k + 1) { l with points := l.points ++ [s] } { v with A2 := A', n2 := v.n2 + 1, c2 := c' } := by
  refine ⟨(blk2 h.blk h2 (RDft.dr_lo h.pt)).put1 _, own2 h.st h2 (fun b hb e => h.ne b hb e), own1 hO, own2 h.sec h2 (fun b hb => ne_row (by decide) h.pt h.sec hb), own2 h.lnk h2 (fun b hb => ne_row (by decide) h.pt h.lnk hb), ?_, by have := h.b1; simp only; omega, by have := h.b2; simp only; omega, by have := h.b3; simp only; omega, by have := h.b4; simp only; omega, h.z1, snoc_max h.z2 hs, h.z3⟩
  intro b hb e
  rcases hat b e with h3 | h3
  · exact h.ne b hb h3
  · have := (h.st.2.lt b hb).2
    omega
theorem Dq.sect {A' : Option Addr} {c' : Nat} {x : Sec} (h : Dq w g k l v) (h2 : w.grownBy wn (Value.slice v.A3 v.n3 v.c3).ownBlock) (hO : Recs.Own secR wn (g + 1) (.slice A' (v.n3 + 1) c') (v.n3 + 1) (l.sections ++ [x])) (hs : x.name.length ≤ 65537) :
    Dq (wn.setCell ⟨g, 2, none⟩ (.slice A' (v.n3 + 1) c')) g (k + 1) { l with sections := l.sections ++ [x] } { v with A3 := A', n3 := v.n3 + 1, c3 := c' } := by
  refine ⟨(blk2 h.blk h2 (RDft.dr_lo h.sec)).put2 _, own2 h.st h2 (fun b hb => ne_row (by decide) h.sec h.st hb), own2 h.pt h2 (fun b hb => ne_row (by decide) h.sec h.pt hb), own1 hO, own2 h.lnk h2 (fun b hb => ne_row (by decide) h.sec h.lnk hb), h.ne, by have := h.b1; simp only; omega, by have := h.b2; simp only; omega, by have := h.b3; simp only; omega, by have := h.b4; simp only; omega, h.z1, h.z2, ?_⟩
  intro y hy
  simp only at hy
  rw [List.mem_append] at hy
  rcases hy with hy | hy
  · exact h.z3 y hy
  · simp at hy; subst hy; exact hs
theorem Dq.link {A' : Option Addr} {c' : Nat} {x : Lnk} (h : Dq w g k l v) (h2 : w.grownBy wn (Value.slice v.A4 v.n4 v.c4).ownBlock) (hO : Recs.Own lnkR wn (g + 1) (.slice A' (v.n4 + 1) c') (v.n4 + 1) (l.links ++ [x])) :
    Dq (wn.setCell ⟨g, 3, none⟩ (.slice A' (v.n4 + 1) c')) g (k + 1) { l with links := l.links ++ [x] } { v with A4 := A', n4 := v.n4 + 1, c4 := c' } := by
  exact ⟨(blk2 h.blk h2 (RDft.dr_lo h.lnk)).put3 _, own2 h.st h2 (fun b hb => ne_row (by decide) h.lnk h.st hb), own2 h.pt h2 (fun b hb => ne_row (by decide) h.lnk h.pt hb), own2 h.sec h2 (fun b hb => ne_row (by decide) h.lnk h.sec hb), own1 hO, h.ne, by have := h.b1; simp only; omega, by have := h.b2; simp only; omega, by have := h.b3; simp only; omega, by have := h.b4; simp only; omega, h.z1, h.z2, h.z3⟩
end
/-- what a call leaves that has taken a line into the layout -/
def DqPost (g k : Nat) (r : Lay × Int) (w : World) (e : Ending) (w' : World) : Prop := ∃ v', e = .returned (.int .i64 r.2) ∧ Dq w' g k r.1 v' ∧ Below g w w' ∧ w.heap.size ≤ w'.heap.size
theorem Dq.stay {w w' : World} {g k : Nat} {l : Lay} {v : LV} {z : Int} (h : Dq w g k l v) (hb : Below w.heap.size w w') : DqPost g (k + 1) (l, z) w (.returned (.int .i64 z)) w' :=
  ⟨v, rfl, (h.below hb).more (Nat.le_succ k), hb.mono (by have := h.blk.lt; omega), hb.size⟩

/-! ### the words of a line -/

theorem word_at0 {w : World} {n : Nat} {ad : Addr} {L : List Lin.W} {x : Lin.W} (h : Words w w.heap.size (some ad) n L) (hs : L[0]? = some x) : ad.block < w.heap.size ∧ w.cell? ad = some (.string (str x.1)) ∧ w.cell? ⟨ad.block, ad.off + 1, none⟩ = some (.int .i64 x.2.1) := by
  have hn : 0 < n := by
    have := (List.getElem?_eq_some_iff.1 hs).1
    have := h.1
    omega
  obtain ⟨ad', p, e, hb, hp, c0, c1, c2⟩ := h.load hn
  cases e
  rw [hs] at hp
  cases hp
  exact ⟨hb, c0, c1⟩
theorem word_at {w : World} {n i j : Nat} {ad : Addr} {L : List Lin.W} {x : Lin.W} (h : Words w w.heap.size (some ad) n L) (hs : L[i]? = some x) (hj : j = i * 3) (hi : 0 < i) : w.cell? ⟨ad.block, ad.off + j, none⟩ = some (.string (str x.1)) := by
  subst hj
  have hn : i < n := by
    have := (List.getElem?_eq_some_iff.1 hs).1
    have := h.1
    omega
  obtain ⟨ad', p, e, hb, hp, c0, c1, c2⟩ := h.load hn
  cases e
  rw [hs] at hp
  cases hp
  rw [show ad.add (i * 3) = ad.add (0 + i * 3) by rw [Nat.zero_add], cell_next _ _ _ (by omega), show ad.add 0 = ad from rfl] at c0
  exact c0

/-! ### places and ends -/

theorem place_hit {L : List Bs} {k : Nat} {s : Bs} (h : place 0 (L.take k) s = -1) (hk : L[k]? = some s) : place 0 L s = k := by
  have e : L = L.take k ++ s :: L.drop (k + 1) := by
    rw [← Strs.drop_at hk, List.take_append_drop]
  have hlen : (L.take k).length = k := by
    have := (List.getElem?_eq_some_iff.1 hk).1
    rw [List.length_take]; omega
  have g : ∀ (M : List Bs) (z : Int) (N : List Bs), 0 ≤ z → place z M s = -1 → place z (M ++ s :: N) s = z + M.length := by
    intro M
    induction M with
    | nil => intro z N _ _; simp [place]
    | cons a r ih =>
      intro z N hz h1
      unfold place at h1
      split at h1
      · omega
      · next hne =>
        rw [List.cons_append, place, if_neg hne, ih (z + 1) N (by omega) h1]
        simp only [List.length_cons]; omega
  have := g (L.take k) 0 (L.drop (k + 1)) (by omega) h
  rw [← e, hlen] at this
  omega
theorem place_step {L : List Bs} {k : Nat} {s t : Bs} (h : place 0 (L.take k) s = -1) (hk : L[k]? = some t) (hne : t ≠ s) : place 0 (L.take (k + 1)) s = -1 := by
  rw [PNames.take_succ hk, place_snoc _ _ _ _ (by omega), h, if_pos (by decide), if_neg hne]
set_option maxRecDepth 100000 in
set_option maxHeartbeats 1000000 in
theorem r_place (A : Option Addr) (n c : Nat) (L : List Bs) (s : Bs) (w : World) (hL : Recs.Rd sR w w.heap.size A n L) (hn : n ≤ 9223372036854775807) : Calls Tryz.prog 95 #[.slice A n c, .string (str s)] w fun e w' => e = .returned (.int .i64 (place 0 L s)) ∧ w = w' := by
  have E0 : Hid (place 0 (L.take 0) s = -1) := rfl
  have HL := Lib.hid hL.1
  go_enter Tryz.func95, Tryz.ntmps95
  go_wp2
  go_loop [5] (fun i => ∃ k : Nat, k ≤ n ∧ i = .int .i64 k ∧ Hid (place 0 (L.take k) s = -1)) (fun i => n - (intOf i).toNat)
  case atStart => exact ⟨0, Nat.zero_le _, rfl, E0⟩
  case round =>
    obtain ⟨k, hk, rfl, HE⟩ := hrel
    clear E0
    by_cases hlt : k < n
    · obtain ⟨ad, t, rfl, hab, ht, c0⟩ := loadS hL hlt
      have hkn : (k : Int) < (n : Int) := by omega
      by_cases hts : t = s
      · subst hts
        have HX := Lib.hid (place_hit HE.out ht)
        clear hL ht HE
        go_wp2
        go_ret
        exact ⟨ret1 HX.out.symm, rfl⟩
      · have hne := RNames.str_ne hts
        have HX := Lib.hid (place_step HE.out ht hts)
        clear hL ht HE hts
        go_wp2
        go_round
        case rel => exact ⟨k + 1, by omega, by go_num, HX⟩
        case measure => simp [intOf]; omega
    · have hkn : ¬ (k : Int) < (n : Int) := by omega
      have HX : Hid (place 0 L s = -1) := by
        have := HE.out
        rw [List.take_of_length_le (by have := HL.out; omega)] at this
        exact this
      clear hL HE
      go_wp2
      go_ret
      exact ⟨ret1 HX.out.symm, rfl⟩
theorem r_end (s : Bs) (w : World) : Calls Tryz.prog 96 #[.string (str s)] w fun e w' => e = .returned (.int .i64 (LayT.endOf s)) ∧ w = w' := by
  have E1 := Lib.hid (str_eq1 s 65)
  have E2 := Lib.hid (str_eq1 s 66)
  cases h1 : ((str s).toList == [65]) with
  | true =>
    have HX : Hid (LayT.endOf s = 0) := by
      rw [E1.out] at h1
      have h := of_decide_eq_true h1
      subst h
      rfl
    clear E1 E2
    go_enter Tryz.func96, Tryz.ntmps96
    go_wp2
    go_ret
    exact ⟨ret1 HX.out.symm, rfl⟩
  | false =>
    cases h2 : ((str s).toList == [66]) with
    | true =>
      have HX : Hid (LayT.endOf s = 1) := by
        rw [E2.out] at h2
        have h := of_decide_eq_true h2
        subst h
        rfl
      clear E1 E2
      go_enter Tryz.func96, Tryz.ntmps96
      go_wp2
      go_ret
      exact ⟨ret1 HX.out.symm, rfl⟩
    | false =>
      have HX : Hid (LayT.endOf s = -1) := by
        rw [E1.out] at h1
        rw [E2.out] at h2
        have h := of_decide_eq_false h1
        have h' := of_decide_eq_false h2
        rw [Hid, LayT.endOf, if_neg h, if_neg h']
      clear E1 E2
      go_enter Tryz.func96, Tryz.ntmps96
      go_wp2
      go_ret
      exact ⟨ret1 HX.out.symm, rfl⟩
end Go.Proofs.YtnfelcjpjodjhaaGreat.RDft

namespace Go.Proofs.YtnfelcjpjodjhaaGreat.RDSec
open Go.ChangeShapes Go.WideShapes Go.ChangeAt Go.RowKit Wd Small Mem Lay LayT Recs Keep Names PNames PSecs PEnds RNames Num Txt App Dft DSec RDft
set_option linter.unusedVariables false

theorem num_ref (s : Bs) (w : World) (hs : s.length ≤ 9223372036854775807) : Calls Tryz.prog 94 #[.string (str s)] w (Two (number s) (numOK s) w) := by
  have := r_num (str s) w (by rw [size_str]; omega)
  rw [bs_str] at this
  exact this
theorem five {L : List Lin.W} (h : L.length = 5) : ∃ a b c d e, L = [a, b, c, d, e] := by
  match L, h with
  | [a, b, c, d, e], _ => exact ⟨a, b, c, d, e, rfl⟩
theorem seven {L : List Lin.W} (h : L.length = 7) : ∃ a b c d e x y, L = [a, b, c, d, e, x, y] := by
  match L, h with
  | [a, b, c, d, e, x, y], _ => exact ⟨a, b, c, d, e, x, y, rfl⟩
/-- the words of a line, in blocks that lie there already -/
def Wln (w : World) (ad : Addr) (L : List Lin.W) (n : Nat) : Prop := Words w w.heap.size (some ad) n L

set_option maxRecDepth 100000 in
set_option maxHeartbeats 4000000 in
theorem rsec5 (g k : Nat) (l : Lay) (v : LV) (ad : Addr) (c : Nat) (L : List Lin.W) (w : World) (h : Dq w g k l v) (hL : Words w w.heap.size (some ad) 5 L) (hk : k ≤ 100000) (hz : ∀ x ∈ L, x.1.length ≤ 65537) (y0 y1 y2 y3 y4 : Lin.W) (hl : L = [y0, y1, y2, y3, y4]) : Calls Tryz.prog 65 #[.pointer (some ⟨g, 0, none⟩), .slice (some ad) 5 c] w (DqPost g (k + 1) (declSec l y1.1 y2.1 y3.1 y4.1 []) w) := by
  subst hl
  have o1 := word_at (i := 1) (j := 3) hL rfl rfl (by omega)
  have o2 := word_at (i := 2) (j := 6) hL rfl rfl (by omega)
  have o3 := word_at (i := 3) (j := 9) hL rfl rfl (by omega)
  have o4 := word_at (i := 4) (j := 12) hL rfl rfl (by omega)
  have NA : Hid (∀ wx, Calls Tryz.prog 94 #[.string (str y2.1)] wx (Two (number y2.1) (numOK y2.1) wx)) := fun wx => num_ref y2.1 wx (by have := hz y2 (by simp); omega)
  have NB : Hid (∀ wx, Calls Tryz.prog 94 #[.string (str y3.1)] wx (Two (number y3.1) (numOK y3.1) wx)) := fun wx => num_ref y3.1 wx (by have := hz y3 (by simp); omega)
  have NC : Hid (∀ wx, Calls Tryz.prog 94 #[.string (str y4.1)] wx (Two (number y4.1) (numOK y4.1) wx)) := fun wx => num_ref y4.1 wx (by have := hz y4 (by simp); omega)
  have hsz1 : y1.1.length ≤ 65537 := hz y1 (by simp)
  cases g1 : numOK y2.1 with
  | false =>
    rw [g1] at NA
    have HX : Hid (declSec l y1.1 y2.1 y3.1 y4.1 [] = (l, 2)) := decl_bad (by rw [g1]; simp)
    rw [HX.out]
    have HS := Lib.hid (Dq.stay (z := 2) h (Below.refl _ _))
    clear h hL hz HX
    go_enter Tryz.func65, Tryz.ntmps65
    go_wp2_with (first | (go_at_call 94; (with_reducible refine (NA.out _).mono ?_); rintro e w' ⟨rfl, rfl⟩) | (go_at_call 94; (with_reducible refine (NB.out _).mono ?_); rintro e w' ⟨rfl, rfl⟩) | (go_at_call 94; (with_reducible refine (NC.out _).mono ?_); rintro e w' ⟨rfl, rfl⟩))
    go_ret
    exact HS.out
  | true =>
    rw [g1] at NA
    cases g2 : numOK y3.1 with
    | false =>
      rw [g2] at NB
      have HX : Hid (declSec l y1.1 y2.1 y3.1 y4.1 [] = (l, 2)) := decl_bad (by rw [g2, g1]; simp)
      rw [HX.out]
      have HS := Lib.hid (Dq.stay (z := 2) h (Below.refl _ _))
      clear h hL hz HX
      go_enter Tryz.func65, Tryz.ntmps65
      go_wp2_with (first | (go_at_call 94; (with_reducible refine (NA.out _).mono ?_); rintro e w' ⟨rfl, rfl⟩) | (go_at_call 94; (with_reducible refine (NB.out _).mono ?_); rintro e w' ⟨rfl, rfl⟩) | (go_at_call 94; (with_reducible refine (NC.out _).mono ?_); rintro e w' ⟨rfl, rfl⟩))
      go_ret
      exact HS.out
    | true =>
      rw [g2] at NB
      cases g3 : numOK y4.1 with
      | false =>
        rw [g3] at NC
        have HX : Hid (declSec l y1.1 y2.1 y3.1 y4.1 [] = (l, 2)) := decl_bad (by rw [g3, g1, g2]; simp)
        rw [HX.out]
        have HS := Lib.hid (Dq.stay (z := 2) h (Below.refl _ _))
        clear h hL hz HX
        go_enter Tryz.func65, Tryz.ntmps65
        go_wp2_with (first | (go_at_call 94; (with_reducible refine (NA.out _).mono ?_); rintro e w' ⟨rfl, rfl⟩) | (go_at_call 94; (with_reducible refine (NB.out _).mono ?_); rintro e w' ⟨rfl, rfl⟩) | (go_at_call 94; (with_reducible refine (NC.out _).mono ?_); rintro e w' ⟨rfl, rfl⟩))
        go_ret
        exact HS.out
      | true =>
        rw [g3] at NC
        have HX : Hid (declSec l y1.1 y2.1 y3.1 y4.1 [] = ({ l with sections := l.sections ++ [⟨y1.1, number y2.1, number y3.1, number y4.1, -1⟩] }, 0)) := decl_plain g1 g2 g3
        rw [HX.out]
        obtain ⟨W1, hW1⟩ : ∃ W1, w.alloc (.cells #[.string (str y1.1), .int .i64 (number y2.1), .int .i64 (number y3.1), .int .i64 (number y4.1), .int .i64 (-1)] 81) = W1 := ⟨_, rfl⟩
        have hb1 : Below w.heap.size w W1 := by rw [← hW1]; exact (Below.refl _ _).alloc (Nat.le_refl _) _
        have hz1 : w.heap.size < W1.heap.size := by rw [← hW1]; simp
        have hx1 : W1.heap[w.heap.size]? = some (.cells #[.string (str y1.1), .int .i64 (number y2.1), .int .i64 (number y3.1), .int .i64 (number y4.1), .int .i64 (-1)] 81) := by rw [← hW1]; exact heap_alloc_new _ _
        have HD : Hid (Dq W1 g k l v) := h.below hb1
        have HBW : Hid (Below w.heap.size w W1) := hb1
        have hgw := h.blk.lt
        have HXX := Lib.hid hx1
        have HW1 := Lib.hid hW1
        clear h hL hz HX hx1 hW1 hb1
        go_enter Tryz.func65, Tryz.ntmps65
        go_upto_region 11 with (first | (go_at_call 94; (with_reducible refine (NA.out _).mono ?_); rintro e w' ⟨rfl, rfl⟩) | (go_at_call 94; (with_reducible refine (NB.out _).mono ?_); rintro e w' ⟨rfl, rfl⟩) | (go_at_call 94; (with_reducible refine (NC.out _).mono ?_); rintro e w' ⟨rfl, rfl⟩))
        rw [HW1.out]
        clear HW1 o1 o2 o3 o4
        have hxx := HXX.out
        have d0 : W1.cell? ⟨w.heap.size, 0, none⟩ = some (.string (str y1.1)) := by simp [World.cell?, hxx]
        have d1 : W1.cell? ⟨w.heap.size, 1, none⟩ = some (.int .i64 (number y2.1)) := by simp [World.cell?, hxx]
        have d2 : W1.cell? ⟨w.heap.size, 2, none⟩ = some (.int .i64 (number y3.1)) := by simp [World.cell?, hxx]
        have d3 : W1.cell? ⟨w.heap.size, 3, none⟩ = some (.int .i64 (number y4.1)) := by simp [World.cell?, hxx]
        have d4 : W1.cell? ⟨w.heap.size, 4, none⟩ = some (.int .i64 (-1)) := by simp [World.cell?, hxx]
        obtain ⟨ih, hih, hz0, hzz1, hz2⟩ := info_parts infoSec
        have k2 := HD.out.blk.c2
        have hgW := HD.out.blk.lt
        have hbn := HD.out.b3
        have hn63 : v.n3 + 1 ≤ maxLen := by unfold maxLen; omega
        have hby : (v.n3 + 1) * 48 ≤ 140737488355328 := by omega
        have hgl := Lib.hid (RDft.dr_lo HD.out.sec)
        clear hxx
        go_region_law (refine step_append_lies _ (by rfl) _ _ _ (by rfl) (g + 1) 81 ih _ 5 48 Tryz.underlying23 hih hz0 hzz1 hz2 rfl (by omega) (.slice v.A3 v.n3 v.c3) v.n3 (secR.cs l.sections) (by rfl) (HD.out.sec.2.alloc _) ⟨W1.heap.size, 0, none⟩ 1 1 [.string (str y1.1), .int .i64 (number y2.1), .int .i64 (number y3.1), .int .i64 (number y4.1), .int .i64 (-1)] (by rfl) (by rfl) (World.news_of_block (cs := #[.string (str y1.1), .int .i64 (number y2.1), .int .i64 (number y3.1), .int .i64 (number y4.1), .int .i64 (-1)]) (t := 81) (fr := (0, 0)) (heap_alloc_new W1 _)) (by simp [Value.oneCell']) (by omega) hn63 hby (by simp; omega) (W1.heap.size + 1) (by simp) ?_; intro gg cap w7 hown7 hgrow7 hat7 hlt7; have hg7 : w7.heap[g]? = W1.heap[g]? := (hgrow7.block g (by simp; omega) (fun e => by have := hgl.out _ e.symm; omega)).trans (((Below.refl W1.heap.size W1).alloc (Nat.le_refl _) _).block g (by omega)); have k7 := (cell_same (p := ⟨g, 2, none⟩) hg7).trans HD.out.blk.c2; have f7 := (frozen_same (p := ⟨g, 2, none⟩) hg7).trans (HD.out.blk.f 2))
        all_goals
          have HO7 := Lib.hid (Recs.Own.push (R := secR) (a := ⟨y1.1, number y2.1, number y3.1, number y4.1, -1⟩) HD.out.sec.1 hown7)
          have h2 : W1.grownBy w7 (Value.slice v.A3 v.n3 v.c3).ownBlock := (grown_drew (World.grownBy_alloc W1 _ _)).trans hgrow7
          have HDq := Lib.hid (HD.out.sect h2 HO7.out hsz1)
          have HBB : Hid (Below g W1 (w7.setCell ⟨g, 2, none⟩ (.slice (some ⟨gg, 0, none⟩) (v.n3 + 1) cap))) := below3 (m := g) (Nat.le_refl _) (Nat.le_refl _) (by omega) (World.grownBy.refl _ _) h2 hgl.out
          clear hown7 hgrow7 hat7 hlt7 hg7 h2
          go_wp2_with fail
          go_ret
          exact ⟨_, rfl, HDq.out, (HBW.out.mono (by omega)).trans HBB.out, by have := HBB.out.size; have := HBW.out.size; omega⟩
theorem set_box {w : World} {b : Nat} {v0 v1 v2 v3 v4 v : Value} {t : TypeId} (h : w.heap[b]? = some (.cells #[v0, v1, v2, v3, v4] t)) : (w.setCell ⟨b, 4, none⟩ v).drew.heap[b]? = some (.cells #[v0, v1, v2, v3, v] t) := by
  show (w.setCell ⟨b, 4, none⟩ v).heap[b]? = _
  simp [World.setCell, Array.getElem?_modify, h]
set_option maxRecDepth 100000 in
set_option maxHeartbeats 4000000 in
theorem rsec7 (g k : Nat) (l : Lay) (v : LV) (ad : Addr) (c : Nat) (L : List Lin.W) (w : World) (h : Dq w g k l v) (hL : Words w w.heap.size (some ad) 7 L) (hk : k ≤ 100000) (hz : ∀ x ∈ L, x.1.length ≤ 65537) (y0 y1 y2 y3 y4 y5 y6 : Lin.W) (hl : L = [y0, y1, y2, y3, y4, y5, y6]) : Calls Tryz.prog 65 #[.pointer (some ⟨g, 0, none⟩), .slice (some ad) 7 c] w (DqPost g (k + 1) (declSec l y1.1 y2.1 y3.1 y4.1 [y5.1, y6.1]) w) := by
  subst hl
  have hab := (word_at0 hL rfl).1
  have o1 := word_at (i := 1) (j := 3) hL rfl rfl (by omega)
  have o2 := word_at (i := 2) (j := 6) hL rfl rfl (by omega)
  have o3 := word_at (i := 3) (j := 9) hL rfl rfl (by omega)
  have o4 := word_at (i := 4) (j := 12) hL rfl rfl (by omega)
  have o5 := word_at (i := 5) (j := 15) hL rfl rfl (by omega)
  have o6 := word_at (i := 6) (j := 18) hL rfl rfl (by omega)
  have NA : Hid (∀ wx, Calls Tryz.prog 94 #[.string (str y2.1)] wx (Two (number y2.1) (numOK y2.1) wx)) := fun wx => num_ref y2.1 wx (by have := hz y2 (by simp); omega)
  have NB : Hid (∀ wx, Calls Tryz.prog 94 #[.string (str y3.1)] wx (Two (number y3.1) (numOK y3.1) wx)) := fun wx => num_ref y3.1 wx (by have := hz y3 (by simp); omega)
  have NC : Hid (∀ wx, Calls Tryz.prog 94 #[.string (str y4.1)] wx (Two (number y4.1) (numOK y4.1) wx)) := fun wx => num_ref y4.1 wx (by have := hz y4 (by simp); omega)
  have hsz1 : y1.1.length ≤ 65537 := hz y1 (by simp)
  have E := Lib.hid (str_at y5.1)
  cases g1 : numOK y2.1 with
  | false =>
    rw [g1] at NA
    have HX : Hid (declSec l y1.1 y2.1 y3.1 y4.1 [y5.1, y6.1] = (l, 2)) := decl_bad (by rw [g1]; simp)
    rw [HX.out]
    have HS := Lib.hid (Dq.stay (z := 2) h (Below.refl _ _))
    clear h hL hz HX
    go_enter Tryz.func65, Tryz.ntmps65
    go_wp2_with (first | (go_at_call 94; (with_reducible refine (NA.out _).mono ?_); rintro e w' ⟨rfl, rfl⟩) | (go_at_call 94; (with_reducible refine (NB.out _).mono ?_); rintro e w' ⟨rfl, rfl⟩) | (go_at_call 94; (with_reducible refine (NC.out _).mono ?_); rintro e w' ⟨rfl, rfl⟩))
    go_ret
    exact HS.out
  | true =>
    rw [g1] at NA
    cases g2 : numOK y3.1 with
    | false =>
      rw [g2] at NB
      have HX : Hid (declSec l y1.1 y2.1 y3.1 y4.1 [y5.1, y6.1] = (l, 2)) := decl_bad (by rw [g2, g1]; simp)
      rw [HX.out]
      have HS := Lib.hid (Dq.stay (z := 2) h (Below.refl _ _))
      clear h hL hz HX
      go_enter Tryz.func65, Tryz.ntmps65
      go_wp2_with (first | (go_at_call 94; (with_reducible refine (NA.out _).mono ?_); rintro e w' ⟨rfl, rfl⟩) | (go_at_call 94; (with_reducible refine (NB.out _).mono ?_); rintro e w' ⟨rfl, rfl⟩) | (go_at_call 94; (with_reducible refine (NC.out _).mono ?_); rintro e w' ⟨rfl, rfl⟩))
      go_ret
      exact HS.out
    | true =>
      rw [g2] at NB
      cases g3 : numOK y4.1 with
      | false =>
        rw [g3] at NC
        have HX : Hid (declSec l y1.1 y2.1 y3.1 y4.1 [y5.1, y6.1] = (l, 2)) := decl_bad (by rw [g3, g1, g2]; simp)
        rw [HX.out]
        have HS := Lib.hid (Dq.stay (z := 2) h (Below.refl _ _))
        clear h hL hz HX
        go_enter Tryz.func65, Tryz.ntmps65
        go_wp2_with (first | (go_at_call 94; (with_reducible refine (NA.out _).mono ?_); rintro e w' ⟨rfl, rfl⟩) | (go_at_call 94; (with_reducible refine (NB.out _).mono ?_); rintro e w' ⟨rfl, rfl⟩) | (go_at_call 94; (with_reducible refine (NC.out _).mono ?_); rintro e w' ⟨rfl, rfl⟩))
        go_ret
        exact HS.out
      | true =>
        rw [g3] at NC
        cases he : (y5.1 == kwAt) with
        | false =>
          have hse : ((str y5.1).toList == [97, 116]) = false := E.out.trans he
          have hse2 : ((str y5.1).toList != [97, 116]) = true := by rw [bne, hse]; rfl
          have hse3 : (!((str y5.1).toList == [97, 116])) = true := by rw [hse]; rfl
          have HX : Hid (declSec l y1.1 y2.1 y3.1 y4.1 [y5.1, y6.1] = (l, 2)) := decl_bad (by simp only [List.head?_cons, Option.all_some]; rw [he]; simp)
          rw [HX.out]
          have HS := Lib.hid (Dq.stay (z := 2) h (Below.refl _ _))
          clear h hL hz HX E he
          go_enter Tryz.func65, Tryz.ntmps65
          go_wp2_with (first | (go_at_call 94; (with_reducible refine (NA.out _).mono ?_); rintro e w' ⟨rfl, rfl⟩) | (go_at_call 94; (with_reducible refine (NB.out _).mono ?_); rintro e w' ⟨rfl, rfl⟩) | (go_at_call 94; (with_reducible refine (NC.out _).mono ?_); rintro e w' ⟨rfl, rfl⟩))
          go_ret
          exact HS.out
        | true =>
          have hse : ((str y5.1).toList == [97, 116]) = true := E.out.trans he
          have hse2 : ((str y5.1).toList != [97, 116]) = false := by rw [bne, hse]; rfl
          have hse3 : (!((str y5.1).toList == [97, 116])) = false := by rw [hse]; rfl
          have HAT := Lib.hid (show y5.1 = kwAt by simpa using he)
          clear E he
          have hkS := Lib.hid h.st.rd
          have k0 := h.blk.c0
          have hgw := h.blk.lt
          obtain ⟨W1, hW1⟩ : ∃ W1, w.alloc (.cells #[.string (str y1.1), .int .i64 (number y2.1), .int .i64 (number y3.1), .int .i64 (number y4.1), .int .i64 (-1)] 81) = W1 := ⟨_, rfl⟩
          have hb1 : Below w.heap.size w W1 := by rw [← hW1]; exact (Below.refl _ _).alloc (Nat.le_refl _) _
          have hz1 : w.heap.size < W1.heap.size := by rw [← hW1]; simp
          have hx1 : W1.heap[w.heap.size]? = some (.cells #[.string (str y1.1), .int .i64 (number y2.1), .int .i64 (number y3.1), .int .i64 (number y4.1), .int .i64 (-1)] 81) := by rw [← hW1]; exact heap_alloc_new _ _
          have HD1 : Hid (Dq W1 g k l v) := h.below hb1
          have HBW1 : Hid (Below w.heap.size w W1) := hb1
          have HXX := Lib.hid hx1
          have HW1 := Lib.hid hW1
          obtain ⟨zs, hzs⟩ : ∃ z, place 0 l.stations y6.1 = z := ⟨_, rfl⟩
          have HPL0 := fun wx (q : Recs.Rd sR wx wx.heap.size v.A1 v.n1 l.stations) => r_place v.A1 v.n1 v.c1 l.stations y6.1 wx q (by have := h.b1; omega)
          rw [hzs] at HPL0
          have HPL := Lib.hid (HPL0 W1.drew HD1.out.st.rd)
          have b4 : W1.cell? ⟨w.heap.size, 4, none⟩ = some (.int .i64 (-1)) := by simp [World.cell?, hx1]
          have bf : W1.frozen? ⟨w.heap.size, 4, none⟩ = false := by simp [World.frozen?, hx1]
          have KA : Hid (∀ w', Below w.heap.size w w' → w'.cell? ⟨g, 0, none⟩ = some (.slice v.A1 v.n1 v.c1) ∧ w'.cell? ⟨ad.block, ad.off + 18, none⟩ = some (.string (str y6.1))) := fun w' hb => ⟨(hb.cell (p := ⟨g, 0, none⟩) hgw).trans k0, (hb.cell (p := ⟨ad.block, ad.off + 18, none⟩) hab).trans o6⟩
          have hww1 : w.heap.size < W1.heap.size := by omega
          clear hx1 hW1 hb1 HPL0 k0
          by_cases hneg : zs < 0
          · have HX : Hid (declSec l y1.1 y2.1 y3.1 y4.1 [y5.1, y6.1] = (l, 3)) := by
              rw [HAT.out]
              exact decl_lost g1 g2 g3 (by omega)
            rw [HX.out]
            have HS := Lib.hid (fun w' (hb : Below w.heap.size w w') => Dq.stay (z := 3) h hb)
            clear h hL hz HX hzs HD1
            go_enter Tryz.func65, Tryz.ntmps65
            go_upto_region 8 with (first | (go_at_call 94; (with_reducible refine (NA.out _).mono ?_); rintro e w' ⟨rfl, rfl⟩) | (go_at_call 94; (with_reducible refine (NB.out _).mono ?_); rintro e w' ⟨rfl, rfl⟩) | (go_at_call 94; (with_reducible refine (NC.out _).mono ?_); rintro e w' ⟨rfl, rfl⟩))
            rw [HW1.out]
            clear HW1 o1 o2 o3 o4 o5 o6
            have hb0 := HBW1.out
            go_region_held3 (fun w' => w'.cell? ⟨g, 0, none⟩ = some (.slice v.A1 v.n1 v.c1) ∧ w'.cell? ⟨ad.block, ad.off + 18, none⟩ = some (.string (str y6.1)))
              (first | exact KA.out _ hb0.drew | exact KA.out _ (hb0.drew.setCell (Nat.le_refl _) _))
              ((go_at_call 95; (with_reducible refine HPL.out.mono ?_); rintro e w' ⟨rfl, rfl⟩))
            go_wp2_with fail
            go_ret
            exact HS.out _ (by first | exact HBW1.out.drew.setCell (Nat.le_refl _) _ | exact (HBW1.out.setCell (Nat.le_refl _) _).drew)
          · have HX : Hid (declSec l y1.1 y2.1 y3.1 y4.1 [y5.1, y6.1] = ({ l with sections := l.sections ++ [⟨y1.1, number y2.1, number y3.1, number y4.1, zs⟩] }, 0)) := by
              rw [HAT.out, ← hzs]
              exact decl_at g1 g2 g3 (by omega)
            rw [HX.out]
            have hD1 := h
            have HD0 := Lib.hid h
            clear h hL hz HX hzs hD1
            go_enter Tryz.func65, Tryz.ntmps65
            go_upto_region 8 with (first | (go_at_call 94; (with_reducible refine (NA.out _).mono ?_); rintro e w' ⟨rfl, rfl⟩) | (go_at_call 94; (with_reducible refine (NB.out _).mono ?_); rintro e w' ⟨rfl, rfl⟩) | (go_at_call 94; (with_reducible refine (NC.out _).mono ?_); rintro e w' ⟨rfl, rfl⟩))
            rw [HW1.out]
            clear HW1 o1 o2 o3 o4 o5 o6
            have hb0 := HBW1.out
            go_region_held3 (fun w' => w'.cell? ⟨g, 0, none⟩ = some (.slice v.A1 v.n1 v.c1) ∧ w'.cell? ⟨ad.block, ad.off + 18, none⟩ = some (.string (str y6.1)))
              (first | exact KA.out _ hb0.drew | exact KA.out _ (hb0.drew.setCell (Nat.le_refl _) _))
              ((go_at_call 95; (with_reducible refine HPL.out.mono ?_); rintro e w' ⟨rfl, rfl⟩))
            clear b4 bf
            obtain ⟨W2, hW2⟩ : ∃ W2, (W1.setCell ⟨w.heap.size, 4, none⟩ (.int .i64 zs)).drew = W2 := ⟨_, rfl⟩
            have hxx : W2.heap[w.heap.size]? = some (.cells #[.string (str y1.1), .int .i64 (number y2.1), .int .i64 (number y3.1), .int .i64 (number y4.1), .int .i64 zs] 81) := by rw [← hW2]; exact set_box HXX.out
            have HBW : Hid (Below w.heap.size w W2) := by rw [Hid, ← hW2]; exact (HBW1.out.setCell (Nat.le_refl _) _).drew
            have HD := Lib.hid (HD0.out.below HBW.out)
            have e4 : W2.cell? ⟨w.heap.size, 4, none⟩ = some (.int .i64 zs) := by simp [World.cell?, hxx]
            have hnn : ¬ zs < 0 := by omega
            have HXX2 := Lib.hid hxx
            have HW2 := Lib.hid hW2
            clear hxx hW2 KA hb0
            rw [HW2.out]
            clear HW2
            go_upto_region 11 with fail
            clear e4
            have hxx := HXX2.out
            have d0 : W2.cell? ⟨w.heap.size, 0, none⟩ = some (.string (str y1.1)) := by simp [World.cell?, hxx]
            have d1 : W2.cell? ⟨w.heap.size, 1, none⟩ = some (.int .i64 (number y2.1)) := by simp [World.cell?, hxx]
            have d2 : W2.cell? ⟨w.heap.size, 2, none⟩ = some (.int .i64 (number y3.1)) := by simp [World.cell?, hxx]
            have d3 : W2.cell? ⟨w.heap.size, 3, none⟩ = some (.int .i64 (number y4.1)) := by simp [World.cell?, hxx]
            have d4 : W2.cell? ⟨w.heap.size, 4, none⟩ = some (.int .i64 (zs)) := by simp [World.cell?, hxx]
            obtain ⟨ih, hih, hz0, hzz1, hz2⟩ := info_parts infoSec
            have k2 := HD.out.blk.c2
            have hgW := HD.out.blk.lt
            have hbn := HD.out.b3
            have hn63 : v.n3 + 1 ≤ maxLen := by unfold maxLen; omega
            have hby : (v.n3 + 1) * 48 ≤ 140737488355328 := by omega
            have hgl := Lib.hid (RDft.dr_lo HD.out.sec)
            clear hxx
            go_region_law (refine step_append_lies _ (by rfl) _ _ _ (by rfl) (g + 1) 81 ih _ 5 48 Tryz.underlying23 hih hz0 hzz1 hz2 rfl (by omega) (.slice v.A3 v.n3 v.c3) v.n3 (secR.cs l.sections) (by rfl) (HD.out.sec.2.alloc _) ⟨W2.heap.size, 0, none⟩ 1 1 [.string (str y1.1), .int .i64 (number y2.1), .int .i64 (number y3.1), .int .i64 (number y4.1), .int .i64 (zs)] (by rfl) (by rfl) (World.news_of_block (cs := #[.string (str y1.1), .int .i64 (number y2.1), .int .i64 (number y3.1), .int .i64 (number y4.1), .int .i64 (zs)]) (t := 81) (fr := (0, 0)) (heap_alloc_new W2 _)) (by simp [Value.oneCell']) (by omega) hn63 hby (by simp; omega) (W2.heap.size + 1) (by simp) ?_; intro gg cap w7 hown7 hgrow7 hat7 hlt7; have hg7 : w7.heap[g]? = W2.heap[g]? := (hgrow7.block g (by simp; omega) (fun e => by have := hgl.out _ e.symm; omega)).trans (((Below.refl W2.heap.size W2).alloc (Nat.le_refl _) _).block g (by omega)); have k7 := (cell_same (p := ⟨g, 2, none⟩) hg7).trans HD.out.blk.c2; have f7 := (frozen_same (p := ⟨g, 2, none⟩) hg7).trans (HD.out.blk.f 2))
            all_goals
              have HO7 := Lib.hid (Recs.Own.push (R := secR) (a := ⟨y1.1, number y2.1, number y3.1, number y4.1, zs⟩) HD.out.sec.1 hown7)
              have h2 : W2.grownBy w7 (Value.slice v.A3 v.n3 v.c3).ownBlock := (grown_drew (World.grownBy_alloc W2 _ _)).trans hgrow7
              have HDq := Lib.hid (HD.out.sect h2 HO7.out hsz1)
              have HBB : Hid (Below g W2 (w7.setCell ⟨g, 2, none⟩ (.slice (some ⟨gg, 0, none⟩) (v.n3 + 1) cap))) := below3 (m := g) (Nat.le_refl _) (Nat.le_refl _) (by omega) (World.grownBy.refl _ _) h2 hgl.out
              clear hown7 hgrow7 hat7 hlt7 hg7 h2
              go_wp2_with fail
              go_ret
              exact ⟨_, rfl, HDq.out, (HBW.out.mono (by omega)).trans HBB.out, by have := HBB.out.size; have := HBW.out.size; omega⟩
end Go.Proofs.YtnfelcjpjodjhaaGreat.RDSec

namespace Go.Proofs.YtnfelcjpjodjhaaGreat.RDLnk
open Go.ChangeShapes Go.WideShapes Go.ChangeAt Go.RowKit Wd Small Mem Lay LayT Recs Keep Names PNames PSecs PEnds RNames Num Txt App Dft DSec DLnk RDft RDSec
set_option linter.unusedVariables false

theorem lk_bad {l : Lay} {a ae b be : Bs} {more : List Bs} (h : (decide (LayT.endOf ae < 0) || decide (LayT.endOf be < 0) || !((more.drop 1).head?.all fun w => w == [48] || w == [49])) = true) : declLink l a ae b be more = (l, 2) := by
  unfold declLink; rw [if_pos h]
theorem lk_lost {l : Lay} {a ae b be : Bs} {more : List Bs} (h : (decide (LayT.endOf ae < 0) || decide (LayT.endOf be < 0) || !((more.drop 1).head?.all fun w => w == [48] || w == [49])) = false) (hp : place 0 (l.sections.map Sec.name) a < 0 ∨ place 0 (l.sections.map Sec.name) b < 0) : declLink l a ae b be more = (l, 3) := by
  unfold declLink; rw [if_neg (by rw [h]; decide), if_pos hp]
theorem lk_plain {l : Lay} {a ae b be : Bs} (h1 : ¬ LayT.endOf ae < 0) (h2 : ¬ LayT.endOf be < 0) (hp : ¬ (place 0 (l.sections.map Sec.name) a < 0 ∨ place 0 (l.sections.map Sec.name) b < 0)) :
    declLink l a ae b be [] = ({ l with links := l.links ++ [⟨place 0 (l.sections.map Sec.name) a, LayT.endOf ae, place 0 (l.sections.map Sec.name) b, LayT.endOf be, -1, 0⟩] }, 0) := by
  unfold declLink; rw [if_neg (by rw [decide_eq_false h1, decide_eq_false h2]; simp), if_neg hp]
theorem pos_all {p q : Bs} (h3 : posB q = true) : (([p, q].drop 1).head?.all fun w => w == [48] || w == [49]) = true := h3
theorem lk_nopt {l : Lay} {a ae b be p q : Bs} (h1 : ¬ LayT.endOf ae < 0) (h2 : ¬ LayT.endOf be < 0) (h3 : posB q = true) (hp : ¬ (place 0 (l.sections.map Sec.name) a < 0 ∨ place 0 (l.sections.map Sec.name) b < 0)) (hpt : place 0 l.points p < 0) :
    declLink l a ae b be [p, q] = (l, 3) := by
  unfold declLink; rw [if_neg (by rw [decide_eq_false h1, decide_eq_false h2, pos_all h3]; decide), if_neg hp]
  simp only
  rw [if_pos hpt]
theorem lk_pt {l : Lay} {a ae b be p q : Bs} (h1 : ¬ LayT.endOf ae < 0) (h2 : ¬ LayT.endOf be < 0) (h3 : posB q = true) (hp : ¬ (place 0 (l.sections.map Sec.name) a < 0 ∨ place 0 (l.sections.map Sec.name) b < 0)) (hpt : ¬ place 0 l.points p < 0) :
    declLink l a ae b be [p, q] = ({ l with links := l.links ++ [⟨place 0 (l.sections.map Sec.name) a, LayT.endOf ae, place 0 (l.sections.map Sec.name) b, LayT.endOf be, place 0 l.points p, posV q⟩] }, 0) := by
  unfold declLink; rw [if_neg (by rw [decide_eq_false h1, decide_eq_false h2, pos_all h3]; decide), if_neg hp]
  simp only
  rw [if_neg hpt]
  rfl
/-- the link that is made, in a block of its own -/
def Bx6 (w : World) (b : Nat) (k : Lnk) : Prop := w.heap[b]? = some (.cells #[.int .i64 k.a, .int .i64 k.ae, .int .i64 k.b, .int .i64 k.be, .int .i64 k.pt, .int .i64 k.ps] 106)
theorem Bx6.lt {w : World} {b : Nat} {k : Lnk} (h : Bx6 w b k) : b < w.heap.size := lt_of_block h
theorem Bx6.cells {w : World} {b : Nat} {k : Lnk} (h : Bx6 w b k) : w.cell? ⟨b, 0, none⟩ = some (.int .i64 k.a) ∧ w.cell? ⟨b, 1, none⟩ = some (.int .i64 k.ae) ∧ w.cell? ⟨b, 2, none⟩ = some (.int .i64 k.b) ∧ w.cell? ⟨b, 3, none⟩ = some (.int .i64 k.be) ∧ w.cell? ⟨b, 4, none⟩ = some (.int .i64 k.pt) ∧ w.cell? ⟨b, 5, none⟩ = some (.int .i64 k.ps) := by
  unfold Bx6 at h
  refine ⟨?_, ?_, ?_, ?_, ?_, ?_⟩ <;> simp [World.cell?, h]
theorem Bx6.f {w : World} {b : Nat} {k : Lnk} (h : Bx6 w b k) (j : Nat) : w.frozen? ⟨b, j, none⟩ = false := by unfold Bx6 at h; simp [World.frozen?, h]
theorem Bx6.drew {w : World} {b : Nat} {k : Lnk} (h : Bx6 w b k) : Bx6 w.drew b k := h
theorem Bx6.put0 {w : World} {b : Nat} {k : Lnk} (h : Bx6 w b k) (z : Int) : Bx6 (w.setCell ⟨b, 0, none⟩ (.int .i64 z)) b { k with a := z } := by unfold Bx6 at *; simp [World.setCell, Array.getElem?_modify, h]
theorem Bx6.put2 {w : World} {b : Nat} {k : Lnk} (h : Bx6 w b k) (z : Int) : Bx6 (w.setCell ⟨b, 2, none⟩ (.int .i64 z)) b { k with b := z } := by unfold Bx6 at *; simp [World.setCell, Array.getElem?_modify, h]
theorem Bx6.put4 {w : World} {b : Nat} {k : Lnk} (h : Bx6 w b k) (z : Int) : Bx6 (w.setCell ⟨b, 4, none⟩ (.int .i64 z)) b { k with pt := z } := by unfold Bx6 at *; simp [World.setCell, Array.getElem?_modify, h]
theorem Bx6.put5 {w : World} {b : Nat} {k : Lnk} (h : Bx6 w b k) (z : Int) : Bx6 (w.setCell ⟨b, 5, none⟩ (.int .i64 z)) b { k with ps := z } := by unfold Bx6 at *; simp [World.setCell, Array.getElem?_modify, h]
theorem Bx6.below {w w' : World} {b : Nat} {k : Lnk} (h : Bx6 w b k) (hb : Below w.heap.size w w') : Bx6 w' b k := (hb.block b h.lt).trans h
/-- where the walk stands: the box, and nothing old changed -/
def At6 (w wx : World) (p : Value) (k : Lnk) : Prop := p = .pointer (some ⟨w.heap.size, 0, none⟩) ∧ Bx6 wx w.heap.size k ∧ Below w.heap.size w wx

theorem box_new (w : World) (k : Lnk) : Bx6 (w.alloc (.cells #[.int .i64 k.a, .int .i64 k.ae, .int .i64 k.b, .int .i64 k.be, .int .i64 k.pt, .int .i64 k.ps] 106)).drew w.heap.size k := heap_alloc_new w _
set_option maxRecDepth 100000 in
set_option maxHeartbeats 16000000 in
theorem rlnk5 (g k : Nat) (l : Lay) (v : LV) (ad : Addr) (c : Nat) (L : List Lin.W) (w : World) (h : Dq w g k l v) (hL : Words w w.heap.size (some ad) 5 L) (hk : k ≤ 100000) (hz : ∀ x ∈ L, x.1.length ≤ 65537) (y0 y1 y2 y3 y4 : Lin.W) (hl : L = [y0, y1, y2, y3, y4]) : Calls Tryz.prog 66 #[.pointer (some ⟨g, 0, none⟩), .slice (some ad) 5 c] w (DqPost g (k + 1) (declLink l y1.1 y2.1 y3.1 y4.1 []) w) := by
  subst hl
  have hab := (word_at0 hL rfl).1
  have o1 := word_at (i := 1) (j := 3) hL rfl rfl (by omega)
  have o2 := word_at (i := 2) (j := 6) hL rfl rfl (by omega)
  have o3 := word_at (i := 3) (j := 9) hL rfl rfl (by omega)
  have o4 := word_at (i := 4) (j := 12) hL rfl rfl (by omega)
  have KA : Hid (∀ w', Below w.heap.size w w' → w'.cell? ⟨ad.block, ad.off + 3, none⟩ = some (.string (str y1.1)) ∧ w'.cell? ⟨ad.block, ad.off + 6, none⟩ = some (.string (str y2.1)) ∧ w'.cell? ⟨ad.block, ad.off + 9, none⟩ = some (.string (str y3.1)) ∧ w'.cell? ⟨ad.block, ad.off + 12, none⟩ = some (.string (str y4.1))) := fun w' hb => ⟨(hb.cell (p := ⟨_, _, none⟩) hab).trans o1, (hb.cell (p := ⟨_, _, none⟩) hab).trans o2, (hb.cell (p := ⟨_, _, none⟩) hab).trans o3, (hb.cell (p := ⟨_, _, none⟩) hab).trans o4⟩
  obtain ⟨ea, hea⟩ : ∃ z, LayT.endOf y2.1 = z := ⟨_, rfl⟩
  obtain ⟨eb, heb⟩ : ∃ z, LayT.endOf y4.1 = z := ⟨_, rfl⟩
  obtain ⟨pa, hpa⟩ : ∃ z, place 0 (l.sections.map Sec.name) y1.1 = z := ⟨_, rfl⟩
  obtain ⟨pb, hpb⟩ : ∃ z, place 0 (l.sections.map Sec.name) y3.1 = z := ⟨_, rfl⟩
  have EA0 := fun wx => r_end y2.1 wx
  have EB0 := fun wx => r_end y4.1 wx
  rw [hea] at EA0
  rw [heb] at EB0
  have EA := Lib.hid EA0
  have EB := Lib.hid EB0
  have HEA := Lib.hid hea
  have HEB := Lib.hid heb
  have HPA := Lib.hid hpa
  have HPB := Lib.hid hpb
  have HH := Lib.hid h
  have HBK := Lib.hid (Below.refl w.heap.size w)
  have hgw := h.blk.lt
  clear EA0 EB0 hea heb hpa hpb h hL hz
  go_enter Tryz.func66, Tryz.ntmps66
  go_upto_region 1 with fail
  go_cut [5] from 7 to 17 (fun p wx => At6 w wx p ⟨0, ea, 0, eb, -1, 0⟩)
  case first =>
    go_region_held3 (fun w' => w'.cell? ⟨ad.block, ad.off + 3, none⟩ = some (.string (str y1.1)) ∧ w'.cell? ⟨ad.block, ad.off + 6, none⟩ = some (.string (str y2.1)) ∧ w'.cell? ⟨ad.block, ad.off + 9, none⟩ = some (.string (str y3.1)) ∧ w'.cell? ⟨ad.block, ad.off + 12, none⟩ = some (.string (str y4.1)))
      (exact KA.out _ (by repeat (first | exact Below.refl _ _ | exact HBK.out | refine Below.drew ?_ | refine Below.alloc ?_ (by simp) _ | refine Below.setCell ?_ (by simp) _)))
      ((first | (go_at_call 96; (with_reducible refine (EA.out _).mono ?_); rintro e w' ⟨rfl, rfl⟩) | (go_at_call 96; (with_reducible refine (EB.out _).mono ?_); rintro e w' ⟨rfl, rfl⟩)))
    all_goals
      go_wp2_with fail
      go_meet
      exact ⟨rfl, box_new w ⟨0, ea, 0, eb, -1, 0⟩, by repeat (first | exact Below.refl _ _ | exact HBK.out | refine Below.drew ?_ | refine Below.alloc ?_ (by simp) _ | refine Below.setCell ?_ (by simp) _)⟩
  case rest =>
    obtain ⟨rfl, hbx, hbw⟩ := hcut
    obtain ⟨W1, rfl⟩ : ∃ W1 : World, W1 = wc := ⟨_, rfl⟩
    have HBX := Lib.hid hbx
    have HBW := Lib.hid hbw
    have hz1 : w.heap.size < W1.heap.size := hbx.lt
    obtain ⟨x0, x1, x2, x3, x4, x5⟩ := hbx.cells
    clear hbx hbw o1 o2 o3 o4
    obtain ⟨o1, o2, o3, o4⟩ := KA.out W1 HBW.out
    simp only at x0 x1 x2 x3 x4 x5
    by_cases na : ea < 0
    · have da : decide (ea < 0) = true := by simpa using na
      have HX : Hid (declLink l y1.1 y2.1 y3.1 y4.1 [] = (l, 2)) := lk_bad (by rw [HEA.out, decide_eq_true na]; rfl)
      have HS : Hid (∀ w', Below w.heap.size w w' → DqPost g (k + 1) (declLink l y1.1 y2.1 y3.1 y4.1 []) w (.returned (.int .i64 2)) w') := fun w' hb => by rw [HX.out]; exact Dq.stay (z := 2) HH.out hb
      clear HX
      go_wp2_with fail
      go_ret
      exact HS.out _ HBW.out
    · have da : decide (ea < 0) = false := by simpa using na
      by_cases nb : eb < 0
      · have db : decide (eb < 0) = true := by simpa using nb
        have HX : Hid (declLink l y1.1 y2.1 y3.1 y4.1 [] = (l, 2)) := lk_bad (by rw [HEB.out, decide_eq_true nb]; simp)
        have HS : Hid (∀ w', Below w.heap.size w w' → DqPost g (k + 1) (declLink l y1.1 y2.1 y3.1 y4.1 []) w (.returned (.int .i64 2)) w') := fun w' hb => by rw [HX.out]; exact Dq.stay (z := 2) HH.out hb
        clear HX
        go_wp2_with fail
        go_ret
        exact HS.out _ HBW.out
      · have db : decide (eb < 0) = false := by simpa using nb
        obtain ⟨g0, g1, g2, g3⟩ : W1.cell? ⟨g, 0, none⟩ = some (.slice v.A1 v.n1 v.c1) ∧ W1.cell? ⟨g, 1, none⟩ = some (.slice v.A2 v.n2 v.c2) ∧ W1.cell? ⟨g, 2, none⟩ = some (.slice v.A3 v.n3 v.c3) ∧ W1.cell? ⟨g, 3, none⟩ = some (.slice v.A4 v.n4 v.c4) := ⟨(HH.out.below HBW.out).blk.c0, (HH.out.below HBW.out).blk.c1, (HH.out.below HBW.out).blk.c2, (HH.out.below HBW.out).blk.c3⟩
        have hb3 := HH.out.b3
        have HSN0 := sec_names v l.sections W1 (HH.out.below HBW.out).sec.rd (by omega)
        simp only [LV.val] at HSN0
        have HSN := Lib.hid HSN0
        clear HSN0
        go_wp2_with fail
        (with_reducible refine HSN.out.mono ?_)
        rintro e W2 ⟨An, nn, cn, rfl, hOn, hb2⟩
        have HBW2 := Lib.hid (HBW.out.trans (hb2.mono (by omega)))
        have HBX2 := Lib.hid (HBX.out.below hb2)
        have HON := Lib.hid hOn
        have hnn : nn ≤ 100000 := by have h1 := hOn.1; have h2 := HH.out.sec.1; simp only [List.length_map] at h1; omega
        have hz2 := hb2.size
        clear hOn hb2 g0 g1 g2 g3 x0 x1 x2 x3 x4 x5 o1 o2 o3 o4
        obtain ⟨o1, o2, o3, o4⟩ := KA.out W2 HBW2.out
        obtain ⟨x0, x1, x2, x3, x4, x5⟩ := HBX2.out.cells
        simp only at x0 x1 x2 x3 x4 x5
        have f0 := HBX2.out.f 0
        have f2 := HBX2.out.f 2
        have PLA : Hid (∀ wx, Recs.Own sR wx W1.heap.size (.slice An nn cn) nn (l.sections.map Sec.name) → Calls Tryz.prog 95 #[.slice An nn cn, .string (str y1.1)] wx fun e w' => e = .returned (.int .i64 pa) ∧ wx = w') := fun wx q => by rw [← HPA.out]; exact r_place An nn cn (l.sections.map Sec.name) y1.1 wx q.rd (by omega)
        have PLB : Hid (∀ wx, Recs.Own sR wx W1.heap.size (.slice An nn cn) nn (l.sections.map Sec.name) → Calls Tryz.prog 95 #[.slice An nn cn, .string (str y3.1)] wx fun e w' => e = .returned (.int .i64 pb) ∧ wx = w') := fun wx q => by rw [← HPB.out]; exact r_place An nn cn (l.sections.map Sec.name) y3.1 wx q.rd (by omega)
        have OW : ∀ (j : Nat) (u : Value), Recs.Own sR (W2.setCell ⟨w.heap.size, j, none⟩ u).drew W1.heap.size (.slice An nn cn) nn (l.sections.map Sec.name) := fun j u => (Bldr.own_set HON.out hz1).drewN 1
        have HOW := Lib.hid OW
        have OD : Hid (Recs.Own sR W2.drew W1.heap.size (.slice An nn cn) nn (l.sections.map Sec.name)) := HON.out.drewN 1
        clear OW
        go_upto_region 5 with fail
        go_cut [5] from 49 to 62 (fun p wx => At6 w wx p ⟨pa, ea, pb, eb, -1, 0⟩)
        case first =>
          go_region_held3 (fun w' => w'.cell? ⟨ad.block, ad.off + 3, none⟩ = some (.string (str y1.1)) ∧ w'.cell? ⟨ad.block, ad.off + 6, none⟩ = some (.string (str y2.1)) ∧ w'.cell? ⟨ad.block, ad.off + 9, none⟩ = some (.string (str y3.1)) ∧ w'.cell? ⟨ad.block, ad.off + 12, none⟩ = some (.string (str y4.1)))
            (exact KA.out _ (by repeat (first | exact HBW2.out | refine Below.drew ?_ | refine Below.setCell ?_ (by simp) _)))
            ((first | (go_at_call 95; (with_reducible refine (PLA.out _ (by first | exact OD.out | exact HOW.out _ _)).mono ?_); rintro e w' ⟨rfl, rfl⟩) | (go_at_call 95; (with_reducible refine (PLB.out _ (by first | exact OD.out | exact HOW.out _ _)).mono ?_); rintro e w' ⟨rfl, rfl⟩)))
          all_goals
            go_wp2_with fail
            go_meet
            exact ⟨rfl, (by first | exact ((HBX2.out.put0 pa).put2 pb).drew | exact ((HBX2.out.put2 pb).put0 pa).drew), by repeat (first | exact HBW2.out | refine Below.drew ?_ | refine Below.setCell ?_ (by simp) _)⟩
        case rest =>
          clear x0 x1 x2 x3 x4 x5 f0 f2 o1 o2 o3 o4
          obtain ⟨rfl, hbx, hbw⟩ := hcut
          obtain ⟨W3, rfl⟩ : ∃ W3 : World, W3 = wc := ⟨_, rfl⟩
          have HBX3 := Lib.hid hbx
          have HBW3 := Lib.hid hbw
          have hz3 : w.heap.size < W3.heap.size := hbx.lt
          obtain ⟨x0, x1, x2, x3, x4, x5⟩ := hbx.cells
          clear hbx hbw
          obtain ⟨o1, o2, o3, o4⟩ := KA.out W3 HBW3.out
          simp only at x0 x1 x2 x3 x4 x5
          by_cases npa : pa < 0
          · have dpa : decide (pa < 0) = true := by simpa using npa
            have HX : Hid (declLink l y1.1 y2.1 y3.1 y4.1 [] = (l, 3)) := lk_lost (by rw [HEA.out, HEB.out, decide_eq_false (show ¬ ea < 0 by omega), decide_eq_false (show ¬ eb < 0 by omega)]; simp) (.inl (by rw [HPA.out]; omega))
            have HS : Hid (∀ w', Below w.heap.size w w' → DqPost g (k + 1) (declLink l y1.1 y2.1 y3.1 y4.1 []) w (.returned (.int .i64 3)) w') := fun w' hb => by rw [HX.out]; exact Dq.stay (z := 3) HH.out hb
            clear HX
            go_wp2_with fail
            go_ret
            exact HS.out _ HBW3.out
          · have dpa : decide (pa < 0) = false := by simpa using npa
            by_cases npb : pb < 0
            · have dpb : decide (pb < 0) = true := by simpa using npb
              have HX : Hid (declLink l y1.1 y2.1 y3.1 y4.1 [] = (l, 3)) := lk_lost (by rw [HEA.out, HEB.out, decide_eq_false (show ¬ ea < 0 by omega), decide_eq_false (show ¬ eb < 0 by omega)]; simp) (.inr (by rw [HPB.out]; omega))
              have HS : Hid (∀ w', Below w.heap.size w w' → DqPost g (k + 1) (declLink l y1.1 y2.1 y3.1 y4.1 []) w (.returned (.int .i64 3)) w') := fun w' hb => by rw [HX.out]; exact Dq.stay (z := 3) HH.out hb
              clear HX
              go_wp2_with fail
              go_ret
              exact HS.out _ HBW3.out
            · have dpb : decide (pb < 0) = false := by simpa using npb
              have HX : Hid (declLink l y1.1 y2.1 y3.1 y4.1 [] = ({ l with links := l.links ++ [⟨pa, ea, pb, eb, -1, 0⟩] }, 0)) := by
                rw [Hid, ← HPA.out, ← HPB.out, ← HEA.out, ← HEB.out]
                exact lk_plain (by rw [HEA.out]; omega) (by rw [HEB.out]; omega) (by rw [HPA.out, HPB.out]; omega)
              have HD := Lib.hid (HH.out.below HBW3.out)
              have hb4 := HD.out.b4
              have hn63 : v.n4 + 1 ≤ maxLen := by unfold maxLen; omega
              have hby : (v.n4 + 1) * 48 ≤ 140737488355328 := by omega
              have hgl := Lib.hid (RDft.dr_lo HD.out.lnk)
              have hgW := HD.out.blk.lt
              have k3 := HD.out.blk.c3
              obtain ⟨ih, hih, hz0, hzz1, hzz2⟩ := info_parts DLnk.infoLnk
              go_upto_region 14 with fail
              go_region_law (refine step_append_lies _ (by rfl) _ _ _ (by rfl) (g + 1) 106 ih _ 6 48 Tryz.underlying24 hih hz0 hzz1 hzz2 rfl (by omega) (.slice v.A4 v.n4 v.c4) v.n4 (lnkR.cs l.links) (by rfl) (HD.out.lnk.2.alloc _) ⟨W3.heap.size, 0, none⟩ 1 1 [.int .i64 pa, .int .i64 ea, .int .i64 pb, .int .i64 eb, .int .i64 (-1), .int .i64 0] (by rfl) (by rfl) (World.news_of_block (cs := #[.int .i64 pa, .int .i64 ea, .int .i64 pb, .int .i64 eb, .int .i64 (-1), .int .i64 0]) (t := 106) (fr := (0, 0)) (heap_alloc_new W3 _)) (by simp [Value.oneCell']) (by omega) hn63 hby (by simp; omega) (W3.heap.size + 1) (by simp) ?_; intro gg cap w7 hown7 hgrow7 hat7 hlt7; have hg7 : w7.heap[g]? = W3.heap[g]? := (hgrow7.block g (by simp; omega) (fun e => by have := hgl.out _ e.symm; omega)).trans (((Below.refl W3.heap.size W3).alloc (Nat.le_refl _) _).block g (by omega)); have k7 := (cell_same (p := ⟨g, 3, none⟩) hg7).trans HD.out.blk.c3; have f7 := (frozen_same (p := ⟨g, 3, none⟩) hg7).trans (HD.out.blk.f 3))
              all_goals
                have HO7 := Lib.hid (Recs.Own.push (R := lnkR) (a := ⟨pa, ea, pb, eb, -1, 0⟩) HD.out.lnk.1 hown7)
                have h2 : W3.grownBy w7 (Value.slice v.A4 v.n4 v.c4).ownBlock := (grown_drew (World.grownBy_alloc W3 _ _)).trans hgrow7
                have HDq := Lib.hid (HD.out.link h2 HO7.out)
                have HBB : Hid (Below g W3 (w7.setCell ⟨g, 3, none⟩ (.slice (some ⟨gg, 0, none⟩) (v.n4 + 1) cap))) := below3 (m := g) (Nat.le_refl _) (Nat.le_refl _) (by omega) (World.grownBy.refl _ _) h2 hgl.out
                clear hown7 hgrow7 hat7 hlt7 hg7 h2
                go_wp2_with fail
                go_ret
                rw [HX.out]
                exact ⟨_, rfl, HDq.out, (HBW3.out.mono (by omega)).trans HBB.out, by have := HBB.out.size; have := HBW3.out.size; omega⟩
set_option maxRecDepth 100000 in
set_option maxHeartbeats 16000000 in
theorem rlnk7 (g k : Nat) (l : Lay) (v : LV) (ad : Addr) (c : Nat) (L : List Lin.W) (w : World) (h : Dq w g k l v) (hL : Words w w.heap.size (some ad) 7 L) (hk : k ≤ 100000) (hz : ∀ x ∈ L, x.1.length ≤ 65537) (y0 y1 y2 y3 y4 y5 y6 : Lin.W) (hl : L = [y0, y1, y2, y3, y4, y5, y6]) : Calls Tryz.prog 66 #[.pointer (some ⟨g, 0, none⟩), .slice (some ad) 7 c] w (DqPost g (k + 1) (declLink l y1.1 y2.1 y3.1 y4.1 [y5.1, y6.1]) w) := by
  subst hl
  have hab := (word_at0 hL rfl).1
  have o1 := word_at (i := 1) (j := 3) hL rfl rfl (by omega)
  have o2 := word_at (i := 2) (j := 6) hL rfl rfl (by omega)
  have o3 := word_at (i := 3) (j := 9) hL rfl rfl (by omega)
  have o4 := word_at (i := 4) (j := 12) hL rfl rfl (by omega)
  have o5 := word_at (i := 5) (j := 15) hL rfl rfl (by omega)
  have o6 := word_at (i := 6) (j := 18) hL rfl rfl (by omega)
  have KA : Hid (∀ w', Below w.heap.size w w' → w'.cell? ⟨ad.block, ad.off + 3, none⟩ = some (.string (str y1.1)) ∧ w'.cell? ⟨ad.block, ad.off + 6, none⟩ = some (.string (str y2.1)) ∧ w'.cell? ⟨ad.block, ad.off + 9, none⟩ = some (.string (str y3.1)) ∧ w'.cell? ⟨ad.block, ad.off + 12, none⟩ = some (.string (str y4.1)) ∧ w'.cell? ⟨ad.block, ad.off + 15, none⟩ = some (.string (str y5.1)) ∧ w'.cell? ⟨ad.block, ad.off + 18, none⟩ = some (.string (str y6.1))) := fun w' hb => ⟨(hb.cell (p := ⟨_, _, none⟩) hab).trans o1, (hb.cell (p := ⟨_, _, none⟩) hab).trans o2, (hb.cell (p := ⟨_, _, none⟩) hab).trans o3, (hb.cell (p := ⟨_, _, none⟩) hab).trans o4, (hb.cell (p := ⟨_, _, none⟩) hab).trans o5, (hb.cell (p := ⟨_, _, none⟩) hab).trans o6⟩
  obtain ⟨ea, hea⟩ : ∃ z, LayT.endOf y2.1 = z := ⟨_, rfl⟩
  obtain ⟨eb, heb⟩ : ∃ z, LayT.endOf y4.1 = z := ⟨_, rfl⟩
  obtain ⟨pa, hpa⟩ : ∃ z, place 0 (l.sections.map Sec.name) y1.1 = z := ⟨_, rfl⟩
  obtain ⟨pb, hpb⟩ : ∃ z, place 0 (l.sections.map Sec.name) y3.1 = z := ⟨_, rfl⟩
  have EA0 := fun wx => r_end y2.1 wx
  have EB0 := fun wx => r_end y4.1 wx
  rw [hea] at EA0
  rw [heb] at EB0
  have EA := Lib.hid EA0
  have EB := Lib.hid EB0
  have HEA := Lib.hid hea
  have HEB := Lib.hid heb
  have HPA := Lib.hid hpa
  have HPB := Lib.hid hpb
  have HH := Lib.hid h
  have HBK := Lib.hid (Below.refl w.heap.size w)
  have hgw := h.blk.lt
  clear EA0 EB0 hea heb hpa hpb h hL hz
  go_enter Tryz.func66, Tryz.ntmps66
  go_upto_region 1 with fail
  go_cut [5] from 7 to 17 (fun p wx => At6 w wx p ⟨0, ea, 0, eb, -1, 0⟩)
  case first =>
    go_region_held3 (fun w' => w'.cell? ⟨ad.block, ad.off + 3, none⟩ = some (.string (str y1.1)) ∧ w'.cell? ⟨ad.block, ad.off + 6, none⟩ = some (.string (str y2.1)) ∧ w'.cell? ⟨ad.block, ad.off + 9, none⟩ = some (.string (str y3.1)) ∧ w'.cell? ⟨ad.block, ad.off + 12, none⟩ = some (.string (str y4.1)) ∧ w'.cell? ⟨ad.block, ad.off + 15, none⟩ = some (.string (str y5.1)) ∧ w'.cell? ⟨ad.block, ad.off + 18, none⟩ = some (.string (str y6.1)))
      (exact KA.out _ (by repeat (first | exact Below.refl _ _ | exact HBK.out | refine Below.drew ?_ | refine Below.alloc ?_ (by simp) _ | refine Below.setCell ?_ (by simp) _)))
      ((first | (go_at_call 96; (with_reducible refine (EA.out _).mono ?_); rintro e w' ⟨rfl, rfl⟩) | (go_at_call 96; (with_reducible refine (EB.out _).mono ?_); rintro e w' ⟨rfl, rfl⟩)))
    all_goals
      go_wp2_with fail
      go_meet
      exact ⟨rfl, box_new w ⟨0, ea, 0, eb, -1, 0⟩, by repeat (first | exact Below.refl _ _ | exact HBK.out | refine Below.drew ?_ | refine Below.alloc ?_ (by simp) _ | refine Below.setCell ?_ (by simp) _)⟩
  case rest =>
    obtain ⟨rfl, hbx, hbw⟩ := hcut
    obtain ⟨W1, rfl⟩ : ∃ W1 : World, W1 = wc := ⟨_, rfl⟩
    have HBX := Lib.hid hbx
    have HBW := Lib.hid hbw
    have hz1 : w.heap.size < W1.heap.size := hbx.lt
    obtain ⟨x0, x1, x2, x3, x4, x5⟩ := hbx.cells
    clear hbx hbw o1 o2 o3 o4 o5 o6
    obtain ⟨o1, o2, o3, o4, o5, o6⟩ := KA.out W1 HBW.out
    simp only at x0 x1 x2 x3 x4 x5
    by_cases na : ea < 0
    · have da : decide (ea < 0) = true := by simpa using na
      have HX : Hid (declLink l y1.1 y2.1 y3.1 y4.1 [y5.1, y6.1] = (l, 2)) := lk_bad (by rw [HEA.out, decide_eq_true na]; rfl)
      have HS : Hid (∀ w', Below w.heap.size w w' → DqPost g (k + 1) (declLink l y1.1 y2.1 y3.1 y4.1 [y5.1, y6.1]) w (.returned (.int .i64 2)) w') := fun w' hb => by rw [HX.out]; exact Dq.stay (z := 2) HH.out hb
      clear HX
      go_wp2_with fail
      go_ret
      exact HS.out _ HBW.out
    · have da : decide (ea < 0) = false := by simpa using na
      by_cases nb : eb < 0
      · have db : decide (eb < 0) = true := by simpa using nb
        have HX : Hid (declLink l y1.1 y2.1 y3.1 y4.1 [y5.1, y6.1] = (l, 2)) := lk_bad (by rw [HEB.out, decide_eq_true nb]; simp)
        have HS : Hid (∀ w', Below w.heap.size w w' → DqPost g (k + 1) (declLink l y1.1 y2.1 y3.1 y4.1 [y5.1, y6.1]) w (.returned (.int .i64 2)) w') := fun w' hb => by rw [HX.out]; exact Dq.stay (z := 2) HH.out hb
        clear HX
        go_wp2_with fail
        go_ret
        exact HS.out _ HBW.out
      · have db : decide (eb < 0) = false := by simpa using nb
        have E0 := Lib.hid (str_eq1 y6.1 48)
        have E1 := Lib.hid (str_eq1 y6.1 49)
        cases hq : posB y6.1 with
        | false =>
          have q0 : ((str y6.1).toList == [48]) = false := by rw [E0.out]; unfold posB at hq; simp at hq; simpa using hq.1
          have q1 : ((str y6.1).toList == [49]) = false := by rw [E1.out]; unfold posB at hq; simp at hq; simpa using hq.2
          have q0' : (!((str y6.1).toList == [48])) = true := by rw [q0]; rfl
          have q1' : (!((str y6.1).toList == [49])) = true := by rw [q1]; rfl
          have HX : Hid (declLink l y1.1 y2.1 y3.1 y4.1 [y5.1, y6.1] = (l, 2)) := lk_bad (by simp only [List.drop_succ_cons, List.drop_zero, List.head?_cons, Option.all_some]; unfold posB at hq; rw [hq]; simp)
          have HS : Hid (∀ w', Below w.heap.size w w' → DqPost g (k + 1) (declLink l y1.1 y2.1 y3.1 y4.1 [y5.1, y6.1]) w (.returned (.int .i64 2)) w') := fun w' hb => by rw [HX.out]; exact Dq.stay (z := 2) HH.out hb
          clear E0 E1 hq
          go_wp2_with fail
          go_ret
          exact HS.out _ HBW.out
        | true =>
          have HQ := Lib.hid hq
          cases q1 : ((str y6.1).toList == [49]) with
          | true =>
            have q1' : (!((str y6.1).toList == [49])) = false := by rw [q1]; rfl
            have HPV : Hid (posV y6.1 = 1) := by rw [E1.out] at q1; have := of_decide_eq_true q1; rw [Hid, posV, if_pos this]
            cases q0 : ((str y6.1).toList == [48]) with
            | true =>
              exfalso
              rw [E0.out] at q0
              rw [E1.out] at q1
              have h0 := of_decide_eq_true q0
              have h1 := of_decide_eq_true q1
              rw [h0] at h1
              simp at h1
            | false =>
              have q0' : (!((str y6.1).toList == [48])) = true := by rw [q0]; rfl
              clear E0 E1 hq
              obtain ⟨g0, g1, g2, g3⟩ : W1.cell? ⟨g, 0, none⟩ = some (.slice v.A1 v.n1 v.c1) ∧ W1.cell? ⟨g, 1, none⟩ = some (.slice v.A2 v.n2 v.c2) ∧ W1.cell? ⟨g, 2, none⟩ = some (.slice v.A3 v.n3 v.c3) ∧ W1.cell? ⟨g, 3, none⟩ = some (.slice v.A4 v.n4 v.c4) := ⟨(HH.out.below HBW.out).blk.c0, (HH.out.below HBW.out).blk.c1, (HH.out.below HBW.out).blk.c2, (HH.out.below HBW.out).blk.c3⟩
              have hb3 := HH.out.b3
              have HSN0 := sec_names v l.sections W1 (HH.out.below HBW.out).sec.rd (by omega)
              simp only [LV.val] at HSN0
              have HSN := Lib.hid HSN0
              clear HSN0
              go_wp2_with fail
              (with_reducible refine HSN.out.mono ?_)
              rintro e W2 ⟨An, nn, cn, rfl, hOn, hb2⟩
              have HBW2 := Lib.hid (HBW.out.trans (hb2.mono (by omega)))
              have HBX2 := Lib.hid (HBX.out.below hb2)
              have HON := Lib.hid hOn
              have hnn : nn ≤ 100000 := by have h1 := hOn.1; have h2 := HH.out.sec.1; simp only [List.length_map] at h1; omega
              have hz2 := hb2.size
              clear hOn hb2 g0 g1 g2 g3 x0 x1 x2 x3 x4 x5 o1 o2 o3 o4 o5 o6
              obtain ⟨o1, o2, o3, o4, o5, o6⟩ := KA.out W2 HBW2.out
              obtain ⟨x0, x1, x2, x3, x4, x5⟩ := HBX2.out.cells
              simp only at x0 x1 x2 x3 x4 x5
              have f0 := HBX2.out.f 0
              have f2 := HBX2.out.f 2
              have PLA : Hid (∀ wx, Recs.Own sR wx W1.heap.size (.slice An nn cn) nn (l.sections.map Sec.name) → Calls Tryz.prog 95 #[.slice An nn cn, .string (str y1.1)] wx fun e w' => e = .returned (.int .i64 pa) ∧ wx = w') := fun wx q => by rw [← HPA.out]; exact r_place An nn cn (l.sections.map Sec.name) y1.1 wx q.rd (by omega)
              have PLB : Hid (∀ wx, Recs.Own sR wx W1.heap.size (.slice An nn cn) nn (l.sections.map Sec.name) → Calls Tryz.prog 95 #[.slice An nn cn, .string (str y3.1)] wx fun e w' => e = .returned (.int .i64 pb) ∧ wx = w') := fun wx q => by rw [← HPB.out]; exact r_place An nn cn (l.sections.map Sec.name) y3.1 wx q.rd (by omega)
              have OW : ∀ (j : Nat) (u : Value), Recs.Own sR (W2.setCell ⟨w.heap.size, j, none⟩ u).drew W1.heap.size (.slice An nn cn) nn (l.sections.map Sec.name) := fun j u => (Bldr.own_set HON.out hz1).drewN 1
              have HOW := Lib.hid OW
              have OD : Hid (Recs.Own sR W2.drew W1.heap.size (.slice An nn cn) nn (l.sections.map Sec.name)) := HON.out.drewN 1
              clear OW
              go_upto_region 5 with fail
              go_cut [5] from 49 to 62 (fun p wx => At6 w wx p ⟨pa, ea, pb, eb, -1, 0⟩)
              case first =>
                go_region_held3 (fun w' => w'.cell? ⟨ad.block, ad.off + 3, none⟩ = some (.string (str y1.1)) ∧ w'.cell? ⟨ad.block, ad.off + 6, none⟩ = some (.string (str y2.1)) ∧ w'.cell? ⟨ad.block, ad.off + 9, none⟩ = some (.string (str y3.1)) ∧ w'.cell? ⟨ad.block, ad.off + 12, none⟩ = some (.string (str y4.1)) ∧ w'.cell? ⟨ad.block, ad.off + 15, none⟩ = some (.string (str y5.1)) ∧ w'.cell? ⟨ad.block, ad.off + 18, none⟩ = some (.string (str y6.1)))
                  (exact KA.out _ (by repeat (first | exact HBW2.out | refine Below.drew ?_ | refine Below.setCell ?_ (by simp) _)))
                  ((first | (go_at_call 95; (with_reducible refine (PLA.out _ (by first | exact OD.out | exact HOW.out _ _)).mono ?_); rintro e w' ⟨rfl, rfl⟩) | (go_at_call 95; (with_reducible refine (PLB.out _ (by first | exact OD.out | exact HOW.out _ _)).mono ?_); rintro e w' ⟨rfl, rfl⟩)))
                all_goals
                  go_wp2_with fail
                  go_meet
                  exact ⟨rfl, (by first | exact ((HBX2.out.put0 pa).put2 pb).drew | exact ((HBX2.out.put2 pb).put0 pa).drew), by repeat (first | exact HBW2.out | refine Below.drew ?_ | refine Below.setCell ?_ (by simp) _)⟩
              case rest =>
                clear x0 x1 x2 x3 x4 x5 f0 f2 o1 o2 o3 o4 o5 o6
                obtain ⟨rfl, hbx, hbw⟩ := hcut
                obtain ⟨W3, rfl⟩ : ∃ W3 : World, W3 = wc := ⟨_, rfl⟩
                have HBX3 := Lib.hid hbx
                have HBW3 := Lib.hid hbw
                have hz3 : w.heap.size < W3.heap.size := hbx.lt
                obtain ⟨x0, x1, x2, x3, x4, x5⟩ := hbx.cells
                clear hbx hbw
                obtain ⟨o1, o2, o3, o4, o5, o6⟩ := KA.out W3 HBW3.out
                simp only at x0 x1 x2 x3 x4 x5
                by_cases npa : pa < 0
                · have dpa : decide (pa < 0) = true := by simpa using npa
                  have HX : Hid (declLink l y1.1 y2.1 y3.1 y4.1 [y5.1, y6.1] = (l, 3)) := lk_lost (by rw [HEA.out, HEB.out, decide_eq_false (show ¬ ea < 0 by omega), decide_eq_false (show ¬ eb < 0 by omega), pos_all HQ.out]; rfl) (.inl (by rw [HPA.out]; omega))
                  have HS : Hid (∀ w', Below w.heap.size w w' → DqPost g (k + 1) (declLink l y1.1 y2.1 y3.1 y4.1 [y5.1, y6.1]) w (.returned (.int .i64 3)) w') := fun w' hb => by rw [HX.out]; exact Dq.stay (z := 3) HH.out hb
                  clear HX
                  go_wp2_with fail
                  go_ret
                  exact HS.out _ HBW3.out
                · have dpa : decide (pa < 0) = false := by simpa using npa
                  by_cases npb : pb < 0
                  · have dpb : decide (pb < 0) = true := by simpa using npb
                    have HX : Hid (declLink l y1.1 y2.1 y3.1 y4.1 [y5.1, y6.1] = (l, 3)) := lk_lost (by rw [HEA.out, HEB.out, decide_eq_false (show ¬ ea < 0 by omega), decide_eq_false (show ¬ eb < 0 by omega), pos_all HQ.out]; rfl) (.inr (by rw [HPB.out]; omega))
                    have HS : Hid (∀ w', Below w.heap.size w w' → DqPost g (k + 1) (declLink l y1.1 y2.1 y3.1 y4.1 [y5.1, y6.1]) w (.returned (.int .i64 3)) w') := fun w' hb => by rw [HX.out]; exact Dq.stay (z := 3) HH.out hb
                    clear HX
                    go_wp2_with fail
                    go_ret
                    exact HS.out _ HBW3.out
                  · have dpb : decide (pb < 0) = false := by simpa using npb
                    obtain ⟨pp, hpp⟩ : ∃ z, place 0 l.points y5.1 = z := ⟨_, rfl⟩
                    have HPP := Lib.hid hpp
                    clear hpp
                    have HDP := Lib.hid (HH.out.below HBW3.out)
                    have k1 := HDP.out.blk.c1
                    have hbp := HDP.out.b2
                    have f4 := HBX3.out.f 4
                    have PLP0 := r_place v.A2 v.n2 v.c2 l.points y5.1 W3.drew HDP.out.pt.rd (by omega)
                    rw [HPP.out] at PLP0
                    have PLP := Lib.hid PLP0
                    have hgne : g < w.heap.size := hgw
                    have KP : Hid (∀ w', Below w.heap.size w w' → w'.cell? ⟨g, 1, none⟩ = some (.slice v.A2 v.n2 v.c2) ∧ w'.cell? ⟨ad.block, ad.off + 15, none⟩ = some (.string (str y5.1))) := fun w' hb => ⟨(HH.out.below hb).blk.c1, (KA.out w' hb).2.2.2.2.1⟩
                    clear PLP0
                    go_upto_region 9 with fail
                    go_region_held3 (fun w' => w'.cell? ⟨g, 1, none⟩ = some (.slice v.A2 v.n2 v.c2) ∧ w'.cell? ⟨ad.block, ad.off + 15, none⟩ = some (.string (str y5.1)))
                      (exact KP.out _ (by repeat (first | exact HBW3.out | refine Below.drew ?_ | refine Below.setCell ?_ (by simp) _)))
                      ((go_at_call 95; (with_reducible refine PLP.out.mono ?_); rintro e w' ⟨rfl, rfl⟩))
                    obtain ⟨W4, hW4⟩ : ∃ W4, (W3.setCell ⟨w.heap.size, 4, none⟩ (.int .i64 pp)).drew = W4 := ⟨_, rfl⟩
                    have HBX4 : Hid (Bx6 W4 w.heap.size ⟨pa, ea, pb, eb, pp, 0⟩) := by rw [Hid, ← hW4]; exact (HBX3.out.put4 pp).drew
                    have HBW4 : Hid (Below w.heap.size w W4) := by rw [Hid, ← hW4]; exact (HBW3.out.setCell (Nat.le_refl _) _).drew
                    have HW4 := Lib.hid hW4
                    clear hW4 x0 x1 x2 x3 x4 x5 o1 o2 o3 o4 o5 o6 k1 f4
                    rw [HW4.out]
                    clear HW4
                    obtain ⟨x0, x1, x2, x3, x4, x5⟩ := HBX4.out.cells
                    obtain ⟨o1, o2, o3, o4, o5, o6⟩ := KA.out W4 HBW4.out
                    simp only at x0 x1 x2 x3 x4 x5
                    have hz4 : w.heap.size < W4.heap.size := HBX4.out.lt
                    by_cases npp : pp < 0
                    · have dpp : decide (pp < 0) = true := by simpa using npp
                      have HX : Hid (declLink l y1.1 y2.1 y3.1 y4.1 [y5.1, y6.1] = (l, 3)) := lk_nopt (by rw [HEA.out]; omega) (by rw [HEB.out]; omega) HQ.out (by rw [HPA.out, HPB.out]; omega) (by rw [HPP.out]; omega)
                      have HS : Hid (∀ w', Below w.heap.size w w' → DqPost g (k + 1) (declLink l y1.1 y2.1 y3.1 y4.1 [y5.1, y6.1]) w (.returned (.int .i64 3)) w') := fun w' hb => by rw [HX.out]; exact Dq.stay (z := 3) HH.out hb
                      clear HX
                      go_wp2_with fail
                      go_ret
                      exact HS.out _ HBW4.out
                    · have dpp : decide (pp < 0) = false := by simpa using npp
                      have HX : Hid (declLink l y1.1 y2.1 y3.1 y4.1 [y5.1, y6.1] = ({ l with links := l.links ++ [⟨pa, ea, pb, eb, pp, 1⟩] }, 0)) := by
                        have hx := lk_pt (l := l) (a := y1.1) (ae := y2.1) (b := y3.1) (be := y4.1) (p := y5.1) (q := y6.1) (by rw [HEA.out]; omega) (by rw [HEB.out]; omega) HQ.out (by rw [HPA.out, HPB.out]; omega) (by rw [HPP.out]; omega)
                        rw [HPA.out, HPB.out, HEA.out, HEB.out, HPP.out, HPV.out] at hx
                        exact hx
                      have f5 := HBX4.out.f 5
                      go_upto_region 14 with fail
                      obtain ⟨W5, hW5⟩ : ∃ W5, W4.setCell ⟨w.heap.size, 5, none⟩ (.int .i64 1) = W5 := ⟨_, rfl⟩
                      have HBX5 : Hid (Bx6 W5 w.heap.size ⟨pa, ea, pb, eb, pp, 1⟩) := by rw [Hid, ← hW5]; exact HBX4.out.put5 1
                      have HBW5 : Hid (Below w.heap.size w W5) := by rw [Hid, ← hW5]; exact HBW4.out.setCell (Nat.le_refl _) _
                      have HW5 := Lib.hid hW5
                      clear hW5 x0 x1 x2 x3 x4 x5 o1 o2 o3 o4 o5 o6 f5
                      rw [HW5.out]
                      clear HW5
                      obtain ⟨x0, x1, x2, x3, x4, x5⟩ := HBX5.out.cells
                      simp only at x0 x1 x2 x3 x4 x5
                      have hz5 : w.heap.size < W5.heap.size := HBX5.out.lt
                      have HD := Lib.hid (HH.out.below HBW5.out)
                      have hb4 := HD.out.b4
                      have hn63 : v.n4 + 1 ≤ maxLen := by unfold maxLen; omega
                      have hby : (v.n4 + 1) * 48 ≤ 140737488355328 := by omega
                      have hgl := Lib.hid (RDft.dr_lo HD.out.lnk)
                      have hgW := HD.out.blk.lt
                      have k3 := HD.out.blk.c3
                      obtain ⟨ih, hih, hz0, hzz1, hzz2⟩ := info_parts DLnk.infoLnk
                      go_upto_region 14 with fail
                      go_region_law (refine step_append_lies _ (by rfl) _ _ _ (by rfl) (g + 1) 106 ih _ 6 48 Tryz.underlying24 hih hz0 hzz1 hzz2 rfl (by omega) (.slice v.A4 v.n4 v.c4) v.n4 (lnkR.cs l.links) (by rfl) (HD.out.lnk.2.alloc _) ⟨W5.heap.size, 0, none⟩ 1 1 [.int .i64 pa, .int .i64 ea, .int .i64 pb, .int .i64 eb, .int .i64 (pp), .int .i64 1] (by rfl) (by rfl) (World.news_of_block (cs := #[.int .i64 pa, .int .i64 ea, .int .i64 pb, .int .i64 eb, .int .i64 (pp), .int .i64 1]) (t := 106) (fr := (0, 0)) (heap_alloc_new W5 _)) (by simp [Value.oneCell']) (by omega) hn63 hby (by simp; omega) (W5.heap.size + 1) (by simp) ?_; intro gg cap w7 hown7 hgrow7 hat7 hlt7; have hg7 : w7.heap[g]? = W5.heap[g]? := (hgrow7.block g (by simp; omega) (fun e => by have := hgl.out _ e.symm; omega)).trans (((Below.refl W5.heap.size W5).alloc (Nat.le_refl _) _).block g (by omega)); have k7 := (cell_same (p := ⟨g, 3, none⟩) hg7).trans HD.out.blk.c3; have f7 := (frozen_same (p := ⟨g, 3, none⟩) hg7).trans (HD.out.blk.f 3))
                      all_goals
                        have HO7 := Lib.hid (Recs.Own.push (R := lnkR) (a := ⟨pa, ea, pb, eb, pp, 1⟩) HD.out.lnk.1 hown7)
                        have h2 : W5.grownBy w7 (Value.slice v.A4 v.n4 v.c4).ownBlock := (grown_drew (World.grownBy_alloc W5 _ _)).trans hgrow7
                        have HDq := Lib.hid (HD.out.link h2 HO7.out)
                        have HBB : Hid (Below g W5 (w7.setCell ⟨g, 3, none⟩ (.slice (some ⟨gg, 0, none⟩) (v.n4 + 1) cap))) := below3 (m := g) (Nat.le_refl _) (Nat.le_refl _) (by omega) (World.grownBy.refl _ _) h2 hgl.out
                        clear hown7 hgrow7 hat7 hlt7 hg7 h2
                        go_wp2_with fail
                        go_ret
                        rw [HX.out]
                        exact ⟨_, rfl, HDq.out, (HBW5.out.mono (by omega)).trans HBB.out, by have := HBB.out.size; have := HBW5.out.size; omega⟩
          | false =>
            have q1' : (!((str y6.1).toList == [49])) = true := by rw [q1]; rfl
            have HPV : Hid (posV y6.1 = 0) := by rw [E1.out] at q1; have := of_decide_eq_false q1; rw [Hid, posV, if_neg this]
            have q0 : ((str y6.1).toList == [48]) = true := by
              rw [E0.out]
              rw [E1.out] at q1
              have h1 := of_decide_eq_false q1
              unfold posB at hq
              simp [h1] at hq
              simpa using hq
            have q0' : (!((str y6.1).toList == [48])) = false := by rw [q0]; rfl
            clear E0 E1 hq
            obtain ⟨g0, g1, g2, g3⟩ : W1.cell? ⟨g, 0, none⟩ = some (.slice v.A1 v.n1 v.c1) ∧ W1.cell? ⟨g, 1, none⟩ = some (.slice v.A2 v.n2 v.c2) ∧ W1.cell? ⟨g, 2, none⟩ = some (.slice v.A3 v.n3 v.c3) ∧ W1.cell? ⟨g, 3, none⟩ = some (.slice v.A4 v.n4 v.c4) := ⟨(HH.out.below HBW.out).blk.c0, (HH.out.below HBW.out).blk.c1, (HH.out.below HBW.out).blk.c2, (HH.out.below HBW.out).blk.c3⟩
            have hb3 := HH.out.b3
            have HSN0 := sec_names v l.sections W1 (HH.out.below HBW.out).sec.rd (by omega)
            simp only [LV.val] at HSN0
            have HSN := Lib.hid HSN0
            clear HSN0
            go_wp2_with fail
            (with_reducible refine HSN.out.mono ?_)
            rintro e W2 ⟨An, nn, cn, rfl, hOn, hb2⟩
            have HBW2 := Lib.hid (HBW.out.trans (hb2.mono (by omega)))
            have HBX2 := Lib.hid (HBX.out.below hb2)
            have HON := Lib.hid hOn
            have hnn : nn ≤ 100000 := by have h1 := hOn.1; have h2 := HH.out.sec.1; simp only [List.length_map] at h1; omega
            have hz2 := hb2.size
            clear hOn hb2 g0 g1 g2 g3 x0 x1 x2 x3 x4 x5 o1 o2 o3 o4 o5 o6
            obtain ⟨o1, o2, o3, o4, o5, o6⟩ := KA.out W2 HBW2.out
            obtain ⟨x0, x1, x2, x3, x4, x5⟩ := HBX2.out.cells
            simp only at x0 x1 x2 x3 x4 x5
            have f0 := HBX2.out.f 0
            have f2 := HBX2.out.f 2
            have PLA : Hid (∀ wx, Recs.Own sR wx W1.heap.size (.slice An nn cn) nn (l.sections.map Sec.name) → Calls Tryz.prog 95 #[.slice An nn cn, .string (str y1.1)] wx fun e w' => e = .returned (.int .i64 pa) ∧ wx = w') := fun wx q => by rw [← HPA.out]; exact r_place An nn cn (l.sections.map Sec.name) y1.1 wx q.rd (by omega)
            have PLB : Hid (∀ wx, Recs.Own sR wx W1.heap.size (.slice An nn cn) nn (l.sections.map Sec.name) → Calls Tryz.prog 95 #[.slice An nn cn, .string (str y3.1)] wx fun e w' => e = .returned (.int .i64 pb) ∧ wx = w') := fun wx q => by rw [← HPB.out]; exact r_place An nn cn (l.sections.map Sec.name) y3.1 wx q.rd (by omega)
            have OW : ∀ (j : Nat) (u : Value), Recs.Own sR (W2.setCell ⟨w.heap.size, j, none⟩ u).drew W1.heap.size (.slice An nn cn) nn (l.sections.map Sec.name) := fun j u => (Bldr.own_set HON.out hz1).drewN 1
            have HOW := Lib.hid OW
            have OD : Hid (Recs.Own sR W2.drew W1.heap.size (.slice An nn cn) nn (l.sections.map Sec.name)) := HON.out.drewN 1
            clear OW
            go_upto_region 5 with fail
            go_cut [5] from 49 to 62 (fun p wx => At6 w wx p ⟨pa, ea, pb, eb, -1, 0⟩)
            case first =>
              go_region_held3 (fun w' => w'.cell? ⟨ad.block, ad.off + 3, none⟩ = some (.string (str y1.1)) ∧ w'.cell? ⟨ad.block, ad.off + 6, none⟩ = some (.string (str y2.1)) ∧ w'.cell? ⟨ad.block, ad.off + 9, none⟩ = some (.string (str y3.1)) ∧ w'.cell? ⟨ad.block, ad.off + 12, none⟩ = some (.string (str y4.1)) ∧ w'.cell? ⟨ad.block, ad.off + 15, none⟩ = some (.string (str y5.1)) ∧ w'.cell? ⟨ad.block, ad.off + 18, none⟩ = some (.string (str y6.1)))
                (exact KA.out _ (by repeat (first | exact HBW2.out | refine Below.drew ?_ | refine Below.setCell ?_ (by simp) _)))
                ((first | (go_at_call 95; (with_reducible refine (PLA.out _ (by first | exact OD.out | exact HOW.out _ _)).mono ?_); rintro e w' ⟨rfl, rfl⟩) | (go_at_call 95; (with_reducible refine (PLB.out _ (by first | exact OD.out | exact HOW.out _ _)).mono ?_); rintro e w' ⟨rfl, rfl⟩)))
              all_goals
                go_wp2_with fail
                go_meet
                exact ⟨rfl, (by first | exact ((HBX2.out.put0 pa).put2 pb).drew | exact ((HBX2.out.put2 pb).put0 pa).drew), by repeat (first | exact HBW2.out | refine Below.drew ?_ | refine Below.setCell ?_ (by simp) _)⟩
            case rest =>
              clear x0 x1 x2 x3 x4 x5 f0 f2 o1 o2 o3 o4 o5 o6
              obtain ⟨rfl, hbx, hbw⟩ := hcut
              obtain ⟨W3, rfl⟩ : ∃ W3 : World, W3 = wc := ⟨_, rfl⟩
              have HBX3 := Lib.hid hbx
              have HBW3 := Lib.hid hbw
              have hz3 : w.heap.size < W3.heap.size := hbx.lt
              obtain ⟨x0, x1, x2, x3, x4, x5⟩ := hbx.cells
              clear hbx hbw
              obtain ⟨o1, o2, o3, o4, o5, o6⟩ := KA.out W3 HBW3.out
              simp only at x0 x1 x2 x3 x4 x5
              by_cases npa : pa < 0
              · have dpa : decide (pa < 0) = true := by simpa using npa
                have HX : Hid (declLink l y1.1 y2.1 y3.1 y4.1 [y5.1, y6.1] = (l, 3)) := lk_lost (by rw [HEA.out, HEB.out, decide_eq_false (show ¬ ea < 0 by omega), decide_eq_false (show ¬ eb < 0 by omega), pos_all HQ.out]; rfl) (.inl (by rw [HPA.out]; omega))
                have HS : Hid (∀ w', Below w.heap.size w w' → DqPost g (k + 1) (declLink l y1.1 y2.1 y3.1 y4.1 [y5.1, y6.1]) w (.returned (.int .i64 3)) w') := fun w' hb => by rw [HX.out]; exact Dq.stay (z := 3) HH.out hb
                clear HX
                go_wp2_with fail
                go_ret
                exact HS.out _ HBW3.out
              · have dpa : decide (pa < 0) = false := by simpa using npa
                by_cases npb : pb < 0
                · have dpb : decide (pb < 0) = true := by simpa using npb
                  have HX : Hid (declLink l y1.1 y2.1 y3.1 y4.1 [y5.1, y6.1] = (l, 3)) := lk_lost (by rw [HEA.out, HEB.out, decide_eq_false (show ¬ ea < 0 by omega), decide_eq_false (show ¬ eb < 0 by omega), pos_all HQ.out]; rfl) (.inr (by rw [HPB.out]; omega))
                  have HS : Hid (∀ w', Below w.heap.size w w' → DqPost g (k + 1) (declLink l y1.1 y2.1 y3.1 y4.1 [y5.1, y6.1]) w (.returned (.int .i64 3)) w') := fun w' hb => by rw [HX.out]; exact Dq.stay (z := 3) HH.out hb
                  clear HX
                  go_wp2_with fail
                  go_ret
                  exact HS.out _ HBW3.out
                · have dpb : decide (pb < 0) = false := by simpa using npb
                  obtain ⟨pp, hpp⟩ : ∃ z, place 0 l.points y5.1 = z := ⟨_, rfl⟩
                  have HPP := Lib.hid hpp
                  clear hpp
                  have HDP := Lib.hid (HH.out.below HBW3.out)
                  have k1 := HDP.out.blk.c1
                  have hbp := HDP.out.b2
                  have f4 := HBX3.out.f 4
                  have PLP0 := r_place v.A2 v.n2 v.c2 l.points y5.1 W3.drew HDP.out.pt.rd (by omega)
                  rw [HPP.out] at PLP0
                  have PLP := Lib.hid PLP0
                  have hgne : g < w.heap.size := hgw
                  have KP : Hid (∀ w', Below w.heap.size w w' → w'.cell? ⟨g, 1, none⟩ = some (.slice v.A2 v.n2 v.c2) ∧ w'.cell? ⟨ad.block, ad.off + 15, none⟩ = some (.string (str y5.1))) := fun w' hb => ⟨(HH.out.below hb).blk.c1, (KA.out w' hb).2.2.2.2.1⟩
                  clear PLP0
                  go_upto_region 9 with fail
                  go_region_held3 (fun w' => w'.cell? ⟨g, 1, none⟩ = some (.slice v.A2 v.n2 v.c2) ∧ w'.cell? ⟨ad.block, ad.off + 15, none⟩ = some (.string (str y5.1)))
                    (exact KP.out _ (by repeat (first | exact HBW3.out | refine Below.drew ?_ | refine Below.setCell ?_ (by simp) _)))
                    ((go_at_call 95; (with_reducible refine PLP.out.mono ?_); rintro e w' ⟨rfl, rfl⟩))
                  obtain ⟨W4, hW4⟩ : ∃ W4, (W3.setCell ⟨w.heap.size, 4, none⟩ (.int .i64 pp)).drew = W4 := ⟨_, rfl⟩
                  have HBX4 : Hid (Bx6 W4 w.heap.size ⟨pa, ea, pb, eb, pp, 0⟩) := by rw [Hid, ← hW4]; exact (HBX3.out.put4 pp).drew
                  have HBW4 : Hid (Below w.heap.size w W4) := by rw [Hid, ← hW4]; exact (HBW3.out.setCell (Nat.le_refl _) _).drew
                  have HW4 := Lib.hid hW4
                  clear hW4 x0 x1 x2 x3 x4 x5 o1 o2 o3 o4 o5 o6 k1 f4
                  rw [HW4.out]
                  clear HW4
                  obtain ⟨x0, x1, x2, x3, x4, x5⟩ := HBX4.out.cells
                  obtain ⟨o1, o2, o3, o4, o5, o6⟩ := KA.out W4 HBW4.out
                  simp only at x0 x1 x2 x3 x4 x5
                  have hz4 : w.heap.size < W4.heap.size := HBX4.out.lt
                  by_cases npp : pp < 0
                  · have dpp : decide (pp < 0) = true := by simpa using npp
                    have HX : Hid (declLink l y1.1 y2.1 y3.1 y4.1 [y5.1, y6.1] = (l, 3)) := lk_nopt (by rw [HEA.out]; omega) (by rw [HEB.out]; omega) HQ.out (by rw [HPA.out, HPB.out]; omega) (by rw [HPP.out]; omega)
                    have HS : Hid (∀ w', Below w.heap.size w w' → DqPost g (k + 1) (declLink l y1.1 y2.1 y3.1 y4.1 [y5.1, y6.1]) w (.returned (.int .i64 3)) w') := fun w' hb => by rw [HX.out]; exact Dq.stay (z := 3) HH.out hb
                    clear HX
                    go_wp2_with fail
                    go_ret
                    exact HS.out _ HBW4.out
                  · have dpp : decide (pp < 0) = false := by simpa using npp
                    have HX : Hid (declLink l y1.1 y2.1 y3.1 y4.1 [y5.1, y6.1] = ({ l with links := l.links ++ [⟨pa, ea, pb, eb, pp, 0⟩] }, 0)) := by
                      have hx := lk_pt (l := l) (a := y1.1) (ae := y2.1) (b := y3.1) (be := y4.1) (p := y5.1) (q := y6.1) (by rw [HEA.out]; omega) (by rw [HEB.out]; omega) HQ.out (by rw [HPA.out, HPB.out]; omega) (by rw [HPP.out]; omega)
                      rw [HPA.out, HPB.out, HEA.out, HEB.out, HPP.out, HPV.out] at hx
                      exact hx
                    have HD := Lib.hid (HH.out.below HBW4.out)
                    have hb4 := HD.out.b4
                    have hn63 : v.n4 + 1 ≤ maxLen := by unfold maxLen; omega
                    have hby : (v.n4 + 1) * 48 ≤ 140737488355328 := by omega
                    have hgl := Lib.hid (RDft.dr_lo HD.out.lnk)
                    have hgW := HD.out.blk.lt
                    have k3 := HD.out.blk.c3
                    obtain ⟨ih, hih, hz0, hzz1, hzz2⟩ := info_parts DLnk.infoLnk
                    go_upto_region 14 with fail
                    go_region_law (refine step_append_lies _ (by rfl) _ _ _ (by rfl) (g + 1) 106 ih _ 6 48 Tryz.underlying24 hih hz0 hzz1 hzz2 rfl (by omega) (.slice v.A4 v.n4 v.c4) v.n4 (lnkR.cs l.links) (by rfl) (HD.out.lnk.2.alloc _) ⟨W4.heap.size, 0, none⟩ 1 1 [.int .i64 pa, .int .i64 ea, .int .i64 pb, .int .i64 eb, .int .i64 (pp), .int .i64 0] (by rfl) (by rfl) (World.news_of_block (cs := #[.int .i64 pa, .int .i64 ea, .int .i64 pb, .int .i64 eb, .int .i64 (pp), .int .i64 0]) (t := 106) (fr := (0, 0)) (heap_alloc_new W4 _)) (by simp [Value.oneCell']) (by omega) hn63 hby (by simp; omega) (W4.heap.size + 1) (by simp) ?_; intro gg cap w7 hown7 hgrow7 hat7 hlt7; have hg7 : w7.heap[g]? = W4.heap[g]? := (hgrow7.block g (by simp; omega) (fun e => by have := hgl.out _ e.symm; omega)).trans (((Below.refl W4.heap.size W4).alloc (Nat.le_refl _) _).block g (by omega)); have k7 := (cell_same (p := ⟨g, 3, none⟩) hg7).trans HD.out.blk.c3; have f7 := (frozen_same (p := ⟨g, 3, none⟩) hg7).trans (HD.out.blk.f 3))
                    all_goals
                      have HO7 := Lib.hid (Recs.Own.push (R := lnkR) (a := ⟨pa, ea, pb, eb, pp, 0⟩) HD.out.lnk.1 hown7)
                      have h2 : W4.grownBy w7 (Value.slice v.A4 v.n4 v.c4).ownBlock := (grown_drew (World.grownBy_alloc W4 _ _)).trans hgrow7
                      have HDq := Lib.hid (HD.out.link h2 HO7.out)
                      have HBB : Hid (Below g W4 (w7.setCell ⟨g, 3, none⟩ (.slice (some ⟨gg, 0, none⟩) (v.n4 + 1) cap))) := below3 (m := g) (Nat.le_refl _) (Nat.le_refl _) (by omega) (World.grownBy.refl _ _) h2 hgl.out
                      clear hown7 hgrow7 hat7 hlt7 hg7 h2
                      go_wp2_with fail
                      go_ret
                      rw [HX.out]
                      exact ⟨_, rfl, HDq.out, (HBW4.out.mono (by omega)).trans HBB.out, by have := HBB.out.size; have := HBW4.out.size; omega⟩
end Go.Proofs.YtnfelcjpjodjhaaGreat.RDLnk

namespace Go.Proofs.YtnfelcjpjodjhaaGreat.RDLine
open Go.ChangeShapes Go.WideShapes Go.ChangeAt Go.RowKit Wd Small Mem Lay LayT Recs Keep Names PNames PSecs PEnds RNames Num Txt App Dft DSec DLnk DLine RDft RDSec RDLnk
set_option linter.unusedVariables false

theorem decl_len (l : Lay) (O : List Bs) (h2 : O.length ≠ 2) (h5 : O.length ≠ 5) (h7 : O.length ≠ 7) : decl l O = (l, 2) := by
  match O with
  | [] => rfl
  | [_] => rfl
  | [_, _] => exact absurd rfl h2
  | [_, _, _] => rfl
  | [_, _, _, _] => rfl
  | [_, _, _, _, _] => exact absurd rfl h5
  | [_, _, _, _, _, _] => rfl
  | [_, _, _, _, _, _, _] => exact absurd rfl h7
  | _ :: _ :: _ :: _ :: _ :: _ :: _ :: _ :: _ => rfl
theorem two {L : List Lin.W} (h : L.length = 2) : ∃ a b, L = [a, b] := by
  match L, h with
  | [a, b], _ => exact ⟨a, b, rfl⟩

set_option maxRecDepth 100000 in
set_option maxHeartbeats 8000000 in
theorem rdecl2 (g k : Nat) (l : Lay) (v : LV) (ad : Addr) (c : Nat) (L : List Lin.W) (w : World) (h : Dq w g k l v) (hL : Words w w.heap.size (some ad) 2 L) (hk : k ≤ 100000) (hz : ∀ x ∈ L, x.1.length ≤ 65537) (y0 y1 : Lin.W) (hl : L = [y0, y1]) : Calls Tryz.prog 43 #[.pointer (some ⟨g, 0, none⟩), .slice (some ad) 2 c] w (DqPost g (k + 1) (decl l (texts L)) w) := by
  subst hl
  obtain ⟨hab, o0, -⟩ := word_at0 hL rfl
  have o1 := word_at (i := 1) (j := 3) hL rfl rfl (by omega)
  cases s1 : ((str y0.1).toList == [115, 116, 97, 116, 105, 111, 110]) with
  | true =>
    have hkw : y0.1 = kwStation := of_decide_eq_true ((str_is y0.1 kwStation).symm.trans s1)
    have HX : Hid (decl l (texts [y0, y1]) = ({ l with stations := l.stations ++ [y1.1] }, 0)) := by
      show decl l [y0.1, y1.1] = _
      simp only [decl]
      rw [if_pos hkw]
    rw [HX.out]
    have HD := Lib.hid h
    have kc := h.blk.c0
    have hb := h.b1
    have hgw := h.blk.lt
    have hsz : y1.1.length ≤ 65537 := hz y1 (by simp)
    have hn63 : v.n1 + 1 ≤ maxLen := by unfold maxLen; omega
    have hby : (v.n1 + 1) * 16 ≤ 140737488355328 := by omega
    have hgl := Lib.hid (RDft.dr_lo h.st)
    obtain ⟨ih, hih, hz0, hz1, hz2⟩ := info_parts RNames.infoS
    clear h hL hz HX hkw 
    go_enter Tryz.func43, Tryz.ntmps43
    go_upto_region 2 with fail
    go_region_law (refine step_append_lies _ (by rfl) _ _ _ (by rfl) (g + 1) 9 ih _ 1 16 Tryz.underlying22 hih hz0 hz1 hz2 rfl (by omega) (.slice v.A1 v.n1 v.c1) v.n1 (sR.cs l.stations) (by rfl) (HD.out.st.2.alloc _) ⟨w.heap.size, 0, none⟩ 1 1 [.string (str y1.1)] (by rfl) (by rfl) (World.news_of_block (cs := #[.string (str y1.1)]) (t := 9) (fr := (0, 0)) (heap_alloc_new w _)) (by simp [Value.oneCell']) (by omega) hn63 hby (by simp; omega) (w.heap.size + 1) (by simp) ?_; intro gg cap w7 hown7 hgrow7 hat7 hlt7; have hg7 : w7.heap[g]? = w.heap[g]? := (hgrow7.block g (by simp; omega) (fun e => by have := hgl.out _ e.symm; omega)).trans (((Below.refl w.heap.size w).alloc (Nat.le_refl _) _).block g (by omega)); have k7 := (cell_same (p := ⟨g, 0, none⟩) hg7).trans HD.out.blk.c0; have f7 := (frozen_same (p := ⟨g, 0, none⟩) hg7).trans (HD.out.blk.f 0))
    all_goals
      have HO7 := Lib.hid (Recs.Own.push (R := sR) (a := y1.1) HD.out.st.1 hown7)
      have h2 : w.grownBy w7 (Value.slice v.A1 v.n1 v.c1).ownBlock := (grown_drew (World.grownBy_alloc w _ _)).trans hgrow7
      have hat : ∀ b, (Value.slice (some ⟨gg, 0, none⟩) (v.n1 + 1) cap).ownBlock = some b → (Value.slice v.A1 v.n1 v.c1).ownBlock = some b ∨ w.heap.size ≤ b := fun b hb => by
        have hb' : gg = b := by simpa [Value.ownBlock] using hb
        subst hb'
        rcases hat7 with h | h
        · exact .inl h
        · exact .inr (by omega)
      have HDq := Lib.hid (HD.out.stat h2 HO7.out hat hsz)
      have HBB : Hid (Below g w (w7.setCell ⟨g, 0, none⟩ (.slice (some ⟨gg, 0, none⟩) (v.n1 + 1) cap))) := below3 (m := g) (Nat.le_refl _) (Nat.le_refl _) (by omega) (World.grownBy.refl _ _) h2 hgl.out
      clear hown7 hgrow7 hat7 hlt7 hg7 h2 hat
      go_wp2_with fail
      go_ret
      exact ⟨_, rfl, HDq.out, HBB.out, HBB.out.size⟩
  | false =>
    have hks : y0.1 ≠ kwStation := of_decide_eq_false ((str_is y0.1 kwStation).symm.trans s1)
    cases s2 : ((str y0.1).toList == [112, 111, 105, 110, 116]) with
    | true =>
      have hkw : y0.1 = kwPoint := of_decide_eq_true ((str_is y0.1 kwPoint).symm.trans s2)
      have HX : Hid (decl l (texts [y0, y1]) = ({ l with points := l.points ++ [y1.1] }, 0)) := by
        show decl l [y0.1, y1.1] = _
        simp only [decl]
        rw [if_neg hks, if_pos hkw]
      rw [HX.out]
      have HD := Lib.hid h
      have kc := h.blk.c1
      have hb := h.b2
      have hgw := h.blk.lt
      have hsz : y1.1.length ≤ 65537 := hz y1 (by simp)
      have hn63 : v.n2 + 1 ≤ maxLen := by unfold maxLen; omega
      have hby : (v.n2 + 1) * 16 ≤ 140737488355328 := by omega
      have hgl := Lib.hid (RDft.dr_lo h.pt)
      obtain ⟨ih, hih, hz0, hz1, hz2⟩ := info_parts RNames.infoS
      clear h hL hz HX hkw hks
      go_enter Tryz.func43, Tryz.ntmps43
      go_upto_region 5 with fail
      go_region_law (refine step_append_lies _ (by rfl) _ _ _ (by rfl) (g + 1) 9 ih _ 1 16 Tryz.underlying22 hih hz0 hz1 hz2 rfl (by omega) (.slice v.A2 v.n2 v.c2) v.n2 (sR.cs l.points) (by rfl) (HD.out.pt.2.alloc _) ⟨w.heap.size, 0, none⟩ 1 1 [.string (str y1.1)] (by rfl) (by rfl) (World.news_of_block (cs := #[.string (str y1.1)]) (t := 9) (fr := (0, 0)) (heap_alloc_new w _)) (by simp [Value.oneCell']) (by omega) hn63 hby (by simp; omega) (w.heap.size + 1) (by simp) ?_; intro gg cap w7 hown7 hgrow7 hat7 hlt7; have hg7 : w7.heap[g]? = w.heap[g]? := (hgrow7.block g (by simp; omega) (fun e => by have := hgl.out _ e.symm; omega)).trans (((Below.refl w.heap.size w).alloc (Nat.le_refl _) _).block g (by omega)); have k7 := (cell_same (p := ⟨g, 1, none⟩) hg7).trans HD.out.blk.c1; have f7 := (frozen_same (p := ⟨g, 1, none⟩) hg7).trans (HD.out.blk.f 1))
      all_goals
        have HO7 := Lib.hid (Recs.Own.push (R := sR) (a := y1.1) HD.out.pt.1 hown7)
        have h2 : w.grownBy w7 (Value.slice v.A2 v.n2 v.c2).ownBlock := (grown_drew (World.grownBy_alloc w _ _)).trans hgrow7
        have hat : ∀ b, (Value.slice (some ⟨gg, 0, none⟩) (v.n2 + 1) cap).ownBlock = some b → (Value.slice v.A2 v.n2 v.c2).ownBlock = some b ∨ w.heap.size ≤ b := fun b hb => by
          have hb' : gg = b := by simpa [Value.ownBlock] using hb
          subst hb'
          rcases hat7 with h | h
          · exact .inl h
          · exact .inr (by omega)
        have HDq := Lib.hid (HD.out.poin h2 HO7.out hat hsz)
        have HBB : Hid (Below g w (w7.setCell ⟨g, 1, none⟩ (.slice (some ⟨gg, 0, none⟩) (v.n2 + 1) cap))) := below3 (m := g) (Nat.le_refl _) (Nat.le_refl _) (by omega) (World.grownBy.refl _ _) h2 hgl.out
        clear hown7 hgrow7 hat7 hlt7 hg7 h2 hat
        go_wp2_with fail
        go_ret
        exact ⟨_, rfl, HDq.out, HBB.out, HBB.out.size⟩
    | false =>
      have hkp : y0.1 ≠ kwPoint := of_decide_eq_false ((str_is y0.1 kwPoint).symm.trans s2)
      have HX : Hid (decl l (texts [y0, y1]) = (l, 2)) := by
        show decl l [y0.1, y1.1] = _
        simp only [decl]
        rw [if_neg hks, if_neg hkp]
      rw [HX.out]
      have HS := Lib.hid (Dq.stay (z := 2) h (Below.refl _ _))
      clear h hL hz HX hks hkp
      go_enter Tryz.func43, Tryz.ntmps43
      go_wp2_with fail
      go_ret
      exact HS.out
set_option maxRecDepth 100000 in
set_option maxHeartbeats 8000000 in
theorem rdecl5 (g k : Nat) (l : Lay) (v : LV) (ad : Addr) (c : Nat) (L : List Lin.W) (w : World) (h : Dq w g k l v) (hL : Words w w.heap.size (some ad) 5 L) (hk : k ≤ 100000) (hz : ∀ x ∈ L, x.1.length ≤ 65537) (y0 y1 y2 y3 y4 : Lin.W) (hl : L = [y0, y1, y2, y3, y4]) : Calls Tryz.prog 43 #[.pointer (some ⟨g, 0, none⟩), .slice (some ad) 5 c] w (DqPost g (k + 1) (decl l (texts L)) w) := by
  subst hl
  obtain ⟨hab, o0, -⟩ := word_at0 hL rfl
  cases s1 : ((str y0.1).toList == [115, 101, 99, 116, 105, 111, 110]) with
  | true =>
    have hkw : y0.1 = kwSection := of_decide_eq_true ((str_is y0.1 kwSection).symm.trans s1)
    have HX : Hid (decl l (texts [y0, y1, y2, y3, y4]) = declSec l y1.1 y2.1 y3.1 y4.1 []) := by
      show decl l [y0.1, y1.1, y2.1, y3.1, y4.1] = _
      simp only [decl]
      rw [if_pos hkw]
    rw [HX.out]
    have HA := Lib.hid (rsec5 g k l v ad c [y0, y1, y2, y3, y4] w h hL hk hz y0 y1 y2 y3 y4 rfl)
    clear h hL hz HX hkw 
    go_enter Tryz.func43, Tryz.ntmps43
    go_wp2_with fail
    (with_reducible refine HA.out.mono ?_)
    rintro e w2 ⟨v', rfl, hd, hb, hsz⟩
    have HD2 := Lib.hid hd
    have HB2 := Lib.hid hb
    clear hd hb
    go_wp2_with fail
    go_ret
    exact ⟨v', rfl, HD2.out, HB2.out, hsz⟩
  | false =>
    have hks : y0.1 ≠ kwSection := of_decide_eq_false ((str_is y0.1 kwSection).symm.trans s1)
    cases s2 : ((str y0.1).toList == [108, 105, 110, 107]) with
    | true =>
      have hkw : y0.1 = kwLink := of_decide_eq_true ((str_is y0.1 kwLink).symm.trans s2)
      have HX : Hid (decl l (texts [y0, y1, y2, y3, y4]) = declLink l y1.1 y2.1 y3.1 y4.1 []) := by
        show decl l [y0.1, y1.1, y2.1, y3.1, y4.1] = _
        simp only [decl]
        rw [if_neg hks, if_pos hkw]
      rw [HX.out]
      have HA := Lib.hid (rlnk5 g k l v ad c [y0, y1, y2, y3, y4] w h hL hk hz y0 y1 y2 y3 y4 rfl)
      clear h hL hz HX hkw hks
      go_enter Tryz.func43, Tryz.ntmps43
      go_wp2_with fail
      (with_reducible refine HA.out.mono ?_)
      rintro e w2 ⟨v', rfl, hd, hb, hsz⟩
      have HD2 := Lib.hid hd
      have HB2 := Lib.hid hb
      clear hd hb
      go_wp2_with fail
      go_ret
      exact ⟨v', rfl, HD2.out, HB2.out, hsz⟩
    | false =>
      have hkp : y0.1 ≠ kwLink := of_decide_eq_false ((str_is y0.1 kwLink).symm.trans s2)
      have HX : Hid (decl l (texts [y0, y1, y2, y3, y4]) = (l, 2)) := by
        show decl l [y0.1, y1.1, y2.1, y3.1, y4.1] = _
        simp only [decl]
        rw [if_neg hks, if_neg hkp]
      rw [HX.out]
      have HS := Lib.hid (Dq.stay (z := 2) h (Below.refl _ _))
      clear h hL hz HX hks hkp
      go_enter Tryz.func43, Tryz.ntmps43
      go_wp2_with fail
      go_ret
      exact HS.out
set_option maxRecDepth 100000 in
set_option maxHeartbeats 8000000 in
theorem rdecl7 (g k : Nat) (l : Lay) (v : LV) (ad : Addr) (c : Nat) (L : List Lin.W) (w : World) (h : Dq w g k l v) (hL : Words w w.heap.size (some ad) 7 L) (hk : k ≤ 100000) (hz : ∀ x ∈ L, x.1.length ≤ 65537) (y0 y1 y2 y3 y4 y5 y6 : Lin.W) (hl : L = [y0, y1, y2, y3, y4, y5, y6]) : Calls Tryz.prog 43 #[.pointer (some ⟨g, 0, none⟩), .slice (some ad) 7 c] w (DqPost g (k + 1) (decl l (texts L)) w) := by
  subst hl
  obtain ⟨hab, o0, -⟩ := word_at0 hL rfl
  cases s1 : ((str y0.1).toList == [115, 101, 99, 116, 105, 111, 110]) with
  | true =>
    have hkw : y0.1 = kwSection := of_decide_eq_true ((str_is y0.1 kwSection).symm.trans s1)
    have HX : Hid (decl l (texts [y0, y1, y2, y3, y4, y5, y6]) = declSec l y1.1 y2.1 y3.1 y4.1 [y5.1, y6.1]) := by
      show decl l [y0.1, y1.1, y2.1, y3.1, y4.1, y5.1, y6.1] = _
      simp only [decl]
      rw [if_pos hkw]
    rw [HX.out]
    have HA := Lib.hid (rsec7 g k l v ad c [y0, y1, y2, y3, y4, y5, y6] w h hL hk hz y0 y1 y2 y3 y4 y5 y6 rfl)
    clear h hL hz HX hkw 
    go_enter Tryz.func43, Tryz.ntmps43
    go_wp2_with fail
    (with_reducible refine HA.out.mono ?_)
    rintro e w2 ⟨v', rfl, hd, hb, hsz⟩
    have HD2 := Lib.hid hd
    have HB2 := Lib.hid hb
    clear hd hb
    go_wp2_with fail
    go_ret
    exact ⟨v', rfl, HD2.out, HB2.out, hsz⟩
  | false =>
    have hks : y0.1 ≠ kwSection := of_decide_eq_false ((str_is y0.1 kwSection).symm.trans s1)
    cases s2 : ((str y0.1).toList == [108, 105, 110, 107]) with
    | true =>
      have hkw : y0.1 = kwLink := of_decide_eq_true ((str_is y0.1 kwLink).symm.trans s2)
      have HX : Hid (decl l (texts [y0, y1, y2, y3, y4, y5, y6]) = declLink l y1.1 y2.1 y3.1 y4.1 [y5.1, y6.1]) := by
        show decl l [y0.1, y1.1, y2.1, y3.1, y4.1, y5.1, y6.1] = _
        simp only [decl]
        rw [if_neg hks, if_pos hkw]
      rw [HX.out]
      have HA := Lib.hid (rlnk7 g k l v ad c [y0, y1, y2, y3, y4, y5, y6] w h hL hk hz y0 y1 y2 y3 y4 y5 y6 rfl)
      clear h hL hz HX hkw hks
      go_enter Tryz.func43, Tryz.ntmps43
      go_wp2_with fail
      (with_reducible refine HA.out.mono ?_)
      rintro e w2 ⟨v', rfl, hd, hb, hsz⟩
      have HD2 := Lib.hid hd
      have HB2 := Lib.hid hb
      clear hd hb
      go_wp2_with fail
      go_ret
      exact ⟨v', rfl, HD2.out, HB2.out, hsz⟩
    | false =>
      have hkp : y0.1 ≠ kwLink := of_decide_eq_false ((str_is y0.1 kwLink).symm.trans s2)
      have HX : Hid (decl l (texts [y0, y1, y2, y3, y4, y5, y6]) = (l, 2)) := by
        show decl l [y0.1, y1.1, y2.1, y3.1, y4.1, y5.1, y6.1] = _
        simp only [decl]
        rw [if_neg hks, if_neg hkp]
      rw [HX.out]
      have HS := Lib.hid (Dq.stay (z := 2) h (Below.refl _ _))
      clear h hL hz HX hks hkp
      go_enter Tryz.func43, Tryz.ntmps43
      go_wp2_with fail
      go_ret
      exact HS.out
set_option maxRecDepth 100000 in
set_option maxHeartbeats 8000000 in
theorem r_declare (n : Nat) (g k : Nat) (l : Lay) (v : LV) (ad : Addr) (c : Nat) (L : List Lin.W) (w : World) (h : Dq w g k l v) (hL : Words w w.heap.size (some ad) n L) (hk : k ≤ 100000) (hz : ∀ x ∈ L, x.1.length ≤ 65537) (hn : n ≤ 100) : Calls Tryz.prog 43 #[.pointer (some ⟨g, 0, none⟩), .slice (some ad) n c] w (DqPost g (k + 1) (decl l (texts L)) w) := by
  by_cases h2 : n = 2
  · obtain ⟨a, b, rfl⟩ := two (hL.1.trans h2)
    subst h2
    exact rdecl2 g k l v ad c _ w h hL hk hz a b rfl
  · by_cases h5 : n = 5
    · obtain ⟨y0, y1, y2, y3, y4, rfl⟩ := five (hL.1.trans h5)
      subst h5
      exact rdecl5 g k l v ad c _ w h hL hk hz y0 y1 y2 y3 y4 rfl
    · by_cases h7 : n = 7
      · obtain ⟨y0, y1, y2, y3, y4, y5, y6, rfl⟩ := seven (hL.1.trans h7)
        subst h7
        exact rdecl7 g k l v ad c _ w h hL hk hz y0 y1 y2 y3 y4 y5 y6 rfl
      · have hl := hL.1
        have HX : Hid (decl l (texts L) = (l, 2)) := decl_len l _ (by simp [texts]; omega) (by simp [texts]; omega) (by simp [texts]; omega)
        rw [HX.out]
        have HS := Lib.hid (Dq.stay (z := 2) h (Below.refl _ _))
        have e2 : ((n : Int) == 2) = false := by simpa using (by omega : ¬ (n : Int) = 2)
        have e5 : ((n : Int) == 5) = false := by simpa using (by omega : ¬ (n : Int) = 5)
        have e7 : ((n : Int) == 7) = false := by simpa using (by omega : ¬ (n : Int) = 7)
        clear h hL hz HX hl h2 h5 h7
        go_enter Tryz.func43, Tryz.ntmps43
        go_wp2_with fail
        go_ret
        exact HS.out
end Go.Proofs.YtnfelcjpjodjhaaGreat.RDLine

namespace Go.Proofs.YtnfelcjpjodjhaaGreat.PPar
open Go.ChangeShapes Go.WideShapes Go.ChangeAt Go.RowKit Wd Small Mem Lay LayT Recs Keep Names PNames PSecs PEnds PCheck RNames Num Txt App Dft DSec DLnk DLine Lin Bnd PLines
set_option linter.unusedVariables false

/-- an empty layout's slices -/
def nilV : LV := ⟨none, 0, 0, none, 0, 0, none, 0, 0, none, 0, 0⟩
theorem nil_rd (w : World) (B : Nat) : RdL w B nilV zero := ⟨Recs.Rd.nil _ _ _, Recs.Rd.nil _ _ _, Recs.Rd.nil _ _ _, Recs.Rd.nil _ _ _, by decide, by decide, by decide, by decide, nofun, nofun, nofun⟩
/-- the rows of a layout lie from block B on -/
def Fresh (B : Nat) (v : LV) : Prop := (∀ ad, v.A1 = some ad → B ≤ ad.block) ∧ (∀ ad, v.A2 = some ad → B ≤ ad.block) ∧ (∀ ad, v.A3 = some ad → B ≤ ad.block) ∧ ∀ ad, v.A4 = some ad → B ≤ ad.block
theorem own_fresh {α : Type} {R : Rec α} {w : World} {base n c : Nat} {A : Option Addr} {L : List α} {ad : Addr} (h : Recs.Own R w base (.slice A n c) n L) (hA : A = some ad) : base ≤ ad.block := by
  subst hA
  exact (h.2.lt ad.block rfl).1
/-- what a call leaves that has read a layout from a text -/
def ParPost (r : Lay × Int × Int) (w : World) (e : Ending) (w' : World) : Prop := ∃ v, e = .returned (.tuple #[LV.val v, .int .i64 r.2.1, .int .i64 r.2.2]) ∧ RdL w' w'.heap.size v r.1 ∧ Fresh w.heap.size v ∧ Below w.heap.size w w'
theorem fold_next {l : Lay} {L : List (List W)} {j : Nat} {x : List W} (h : L[j]? = some x) : fold l (L.drop j) = if (decl l (texts x)).2 = 0 then fold (decl l (texts x)).1 (L.drop (j + 1)) else (zero, (x.head?.map (·.2.1)).getD 0, (decl l (texts x)).2) := by
  rw [Strs.drop_at h]
  rfl
theorem keep_cell {w w' : World} {m : Int} (hb : Below w.heap.size w w') (hm : w.cell? ⟨0, 0, none⟩ = some (.int .i64 m)) : w'.cell? ⟨0, 0, none⟩ = some (.int .i64 m) :=
  (hb.cell (p := ⟨0, 0, none⟩) (World.block_lt_of_cell? w _ hm)).trans hm
theorem four_cells {w : World} {b : Nat} {u0 u1 u2 u3 : Value} {t : TypeId} (h : w.heap[b]? = some (.cells #[u0, u1, u2, u3] t)) : w.cell? ⟨b, 0, none⟩ = some u0 ∧ w.cell? ⟨b, 1, none⟩ = some u1 ∧ w.cell? ⟨b, 2, none⟩ = some u2 ∧ w.cell? ⟨b, 3, none⟩ = some u3 ∧ (∀ j, w.frozen? ⟨b, j, none⟩ = false) := by
  refine ⟨?_, ?_, ?_, ?_, fun j => ?_⟩ <;> simp [World.cell?, World.frozen?, h]
theorem set4_below {w wr : World} {B r : Nat} {v0 v1 v2 v3 : Value} (h : Below B w wr) (hr : B ≤ r) : Below B w ((((wr.setCell ⟨r, 0, none⟩ v0).setCell ⟨r, 1, none⟩ v1).setCell ⟨r, 2, none⟩ v2).setCell ⟨r, 3, none⟩ v3) := (((h.setCell hr _).setCell hr _).setCell hr _).setCell hr _

/-- the line at k, as the walk loads it; its words lie from the call's own base on -/
theorem load_low {w : World} {n base k c : Nat} {A : Option Addr} {T : List (List W)} (h : OwnL w base (.slice A n c) n T) (hk : k < n) : ∃ ad L A1 c1, A = some ad ∧ ad.block < w.heap.size ∧ T[k]? = some L ∧ w.cell? (ad.add k) = some (.slice A1 L.length c1) ∧ Words w w.heap.size A1 L.length L ∧ L.length ≤ c1 ∧ c1 ≤ maxLen ∧ (0 < L.length → ∀ a, A1 = some a → base ≤ a.block) := by
  obtain ⟨us, h1, h2, h3⟩ := h
  have hk' : k < T.length := by omega
  have e : T[k]? = some T[k] := List.getElem?_eq_getElem hk'
  obtain ⟨u, hu, hr⟩ := h3.get e
  obtain ⟨A1, c1, rfl, q1, q2⟩ := Mem.Own.form hr
  have hlen := h2.1
  rcases h2.2 with ⟨e2, e3⟩ | ⟨g, cap, cur, e2, _, hh, _⟩
  · rw [e3] at hlen; simp at hlen; omega
  · have hA : A = some ⟨g, 0, none⟩ := by injection e2
    subst hA
    refine ⟨_, T[k], A1, c1, rfl, lt_of_block hh, e, h2.cells (g := g) rfl k _ hu, Mem.Own.words hr, q1, q2, fun hpos a ha => ?_⟩
    have := (hr.2.lt a.block (by subst ha; simp [Value.ownBlock])).1
    exact this

end Go.Proofs.YtnfelcjpjodjhaaGreat.PPar

namespace Go.Proofs.YtnfelcjpjodjhaaGreat.RPar
open Go.ChangeShapes Go.WideShapes Go.ChangeAt Go.RowKit Wd Small Mem Lay LayT Recs Keep Names PNames PSecs PEnds RNames RCheck Num Txt App Dft RDft RDLine Lin Bnd PLines RLines PPar
set_option linter.unusedVariables false

theorem dq_rd {w : World} {g k : Nat} {l : Lay} {v : LV} (h : Dq w g k l v) (hk : k ≤ 100000) : RdL w w.heap.size v l :=
  ⟨h.st.rd, h.pt.rd, h.sec.rd, h.lnk.rd, by have := h.b1; omega, by have := h.b2; omega, by have := h.b3; omega, by have := h.b4; omega, fun s hs => by have := h.z1 s hs; omega, fun s hs => by have := h.z2 s hs; omega, fun s hs => by have := h.z3 s hs; omega⟩
theorem dq_set4 {w w5 : World} {g k r : Nat} {l : Lay} {v : LV} {v0 v1 v2 v3 : Value} (h : Dq w g k l v) (hb : Below w.heap.size w w5) (hk : k ≤ 100000) (hr : r < g + 1) :
    RdL ((((w5.setCell ⟨r, 0, none⟩ v0).setCell ⟨r, 1, none⟩ v1).setCell ⟨r, 2, none⟩ v2).setCell ⟨r, 3, none⟩ v3) ((((w5.setCell ⟨r, 0, none⟩ v0).setCell ⟨r, 1, none⟩ v1).setCell ⟨r, 2, none⟩ v2).setCell ⟨r, 3, none⟩ v3).heap.size v l := by
  have h5 := h.below hb
  have o : ∀ {α : Type} {R : Rec α} {u : Value} {n : Nat} {L : List α}, Recs.Own R w5 (g + 1) u n L → Recs.Own R ((((w5.setCell ⟨r, 0, none⟩ v0).setCell ⟨r, 1, none⟩ v1).setCell ⟨r, 2, none⟩ v2).setCell ⟨r, 3, none⟩ v3) (g + 1) u n L := fun ho => Bldr.own_set (Bldr.own_set (Bldr.own_set (Bldr.own_set ho hr) hr) hr) hr
  exact ⟨(o h5.st).rd, (o h5.pt).rd, (o h5.sec).rd, (o h5.lnk).rd, by have := h.b1; omega, by have := h.b2; omega, by have := h.b3; omega, by have := h.b4; omega, fun s hs => by have := h.z1 s hs; omega, fun s hs => by have := h.z2 s hs; omega, fun s hs => by have := h.z3 s hs; omega⟩
theorem row_low {w : World} {n base c : Nat} {ad : Addr} {T : List (List W)} (h : OwnL w base (.slice (some ad) n c) n T) : base ≤ ad.block := by
  obtain ⟨us, h1, h2, h3⟩ := h
  exact (h2.lt ad.block (by simp [Value.ownBlock])).1
theorem cell_past {w : World} {b j : Nat} {v : Value} {q : Addr} (h : q.block ≠ b) : (w.setCell ⟨b, j, none⟩ v).cell? q = w.cell? q := World.cell?_setCell_other _ _ _ _ (fun e => h (by first | rw [← e] | rw [e]))
theorem cell_past4 {w : World} {b : Nat} {v0 v1 v2 v3 : Value} {q : Addr} (h : q.block ≠ b) : ((((w.setCell ⟨b, 0, none⟩ v0).setCell ⟨b, 1, none⟩ v1).setCell ⟨b, 2, none⟩ v2).setCell ⟨b, 3, none⟩ v3).cell? q = w.cell? q := by
  rw [cell_past h, cell_past h, cell_past h, cell_past h]
theorem new_dq (w : World) : Dq (w.alloc (.cells #[.slice none 0 0, .slice none 0 0, .slice none 0 0, .slice none 0 0] 26)) w.heap.size 0 zero nilV :=
  ⟨heap_alloc_new _ _, Recs.Own.nil _ _, Recs.Own.nil _ _, Recs.Own.nil _ _, Recs.Own.nil _ _, fun b hb => by simp [nilV, Value.ownBlock] at hb, by decide, by decide, by decide, by decide, nofun, nofun, nofun⟩

set_option maxRecDepth 100000 in
set_option maxHeartbeats 8000000 in
theorem r_parse (s : ByteArray) (w : World) (hs : s.size ≤ 9223372036854775807) : Calls Tryz.prog 26 #[.string s] w (ParPost (parse (bs s)) w) := by
  obtain ⟨W, hW⟩ : ∃ W, w.alloc (.cells #[.slice none 0 0, .slice none 0 0, .slice none 0 0, .slice none 0 0] 26) = W := ⟨_, rfl⟩
  have hbW : Below w.heap.size w W := by rw [← hW]; exact (Below.refl _ _).alloc (Nat.le_refl _) _
  have hzW : w.heap.size < W.heap.size := by rw [← hW]; simp
  have hx : W.heap[w.heap.size]? = some (.cells #[.slice none 0 0, .slice none 0 0, .slice none 0 0, .slice none 0 0] 26) := by rw [← hW]; exact heap_alloc_new _ _
  have HX := Lib.hid hx
  have HB := Lib.hid hbW
  have HL := Lib.hid (r_lines s W hs)
  have HMX := Lib.hid (lines_max (bs s))
  have EP : Hid (parse (bs s) = if (linesOf (bs s)).2.2 = 0 then fold zero (linesOf (bs s)).1 else (zero, (linesOf (bs s)).2.1, (linesOf (bs s)).2.2)) := rfl
  generalize parse (bs s) = R at *
  obtain ⟨L, num, er, hLL⟩ : ∃ L num er, linesOf (bs s) = (L, num, er) := ⟨_, _, _, rfl⟩
  rw [hLL] at EP HMX
  unfold LinesPost at HL
  rw [hLL] at HL
  simp only at EP HMX HL
  clear hx hbW hLL
  cases her : decide (er = 0) with
  | false =>
    have h0 := of_decide_eq_false her
    have hne : ((er : Int) != 0) = true := by rw [bne_iff_ne]; exact h0
    have EQ : Hid (R = (zero, num, er)) := by rw [Hid, EP.out, if_neg h0]
    clear her h0 EP
    go_enter Tryz.func26, Tryz.ntmps26
    go_upto_region 1 with fail
    try rw [hW]
    clear hW
    go_wp2_with fail
    refine HL.out.mono ?_
    rintro e w1 ⟨A, nl, c, rfl, hO, hb1⟩
    have hx1 : w1.heap[w.heap.size]? = some (.cells #[.slice none 0 0, .slice none 0 0, .slice none 0 0, .slice none 0 0] 26) := (hb1.block w.heap.size hzW).trans HX.out
    obtain ⟨c0, c1, c2, c3, hf⟩ := four_cells hx1
    have f0 := hf 0
    have f1 := hf 1
    have f2 := hf 2
    have f3 := hf 3
    have HBE := Lib.hid (HB.out.trans (hb1.mono (by omega)))
    clear hf hx1 hb1 hO
    go_wp2_with fail
    obtain ⟨e0, e1, e2, e3⟩ := Maker.four_set (v0 := .slice none 0 0) (v1 := .slice none 0 0) (v2 := .slice none 0 0) (v3 := .slice none 0 0) c0 c1 c2 c3
    refine bodyPost_ret (v := .tuple #[.agg #[.slice none 0 0, .slice none 0 0, .slice none 0 0, .slice none 0 0], .int .i64 num, .int .i64 er]) ?_ rfl ?_
    · simp [results, Tryz.results26, go_sem, e0, e1, e2, e3]
    · exact ⟨nilV, by rw [EQ.out]; rfl, by rw [EQ.out]; exact nil_rd _ _, ⟨nofun, nofun, nofun, nofun⟩, set4_below HBE.out (Nat.le_refl _)⟩
  | true =>
    obtain rfl := of_decide_eq_true her
    have EQ : Hid (R = fold zero (L.drop 0)) := by rw [Hid, EP.out, if_pos rfl]; rfl
    clear her EP
    go_enter Tryz.func26, Tryz.ntmps26
    go_upto_region 1 with fail
    try rw [hW]
    clear hW
    go_wp2_with fail
    refine HL.out.mono ?_
    rintro e w1 ⟨A, nl, c, rfl, hO, hb1⟩
    have hx1 : w1.heap[w.heap.size]? = some (.cells #[.slice none 0 0, .slice none 0 0, .slice none 0 0, .slice none 0 0] 26) := (hb1.block w.heap.size hzW).trans HX.out
    have HX1 := Lib.hid hx1
    have hz1 := hb1.size
    have HB1 := Lib.hid (HB.out.trans (hb1.mono (by omega)))
    have HO := Lib.hid hO
    have hnl : nl ≤ 65537 := by obtain ⟨us, h1, -⟩ := hO; have := HMX.out.2; omega
    clear hx1 hb1 hO
    obtain ⟨w2, hw2⟩ : ∃ w2, w1.alloc (.cells #[.slice none 0 0, .slice none 0 0, .slice none 0 0, .slice none 0 0] 26) = w2 := ⟨_, rfl⟩
    have HD2 : Hid (Dq w2 w1.heap.size 0 zero nilV) := by rw [Hid, ← hw2]; exact new_dq w1
    have HB2 : Hid (Below w1.heap.size w1 w2) := by rw [Hid, ← hw2]; exact (Below.refl _ _).alloc (Nat.le_refl _) _
    go_upto_region 5 with fail
    try rw [hw2]
    clear hw2
    go_wp2_with fail
    go_loopw [9] (fun i wr => ∃ (j : Nat) (l : Lay) (v : LV), j ≤ nl ∧ i = .int .i64 j ∧ Dq wr w1.heap.size j l v ∧ Hid (R = fold l (L.drop j)) ∧ Below w1.heap.size w1 wr) (fun i _ => nl - (intOf i).toNat)
    case atStart => exact ⟨0, zero, nilV, Nat.zero_le _, rfl, HD2.out, EQ, HB2.out⟩
    case round =>
      obtain ⟨j, l, v, hj, rfl, hD, HE, hbr⟩ := hrel
      have HD := Lib.hid hD
      have hzr := hbr.size
      have HBR := Lib.hid hbr
      have hx3 := (hbr.block w.heap.size (by omega)).trans HX1.out
      by_cases hlt : j < nl
      · obtain ⟨ad, x, A1, c1, rfl, hab, hxj, d0', hW0, hl1, hc1, hlow⟩ := load_low HO.out hlt
        have HLOW := Lib.hid hlow
        have HLOA := Lib.hid (row_low HO.out)
        have d0 := (hbr.cell (p := ad.add j) (by rw [Mem.block_add]; exact hab)).trans d0'
        have hW1 : Words wr wr.heap.size A1 x.length x := (hW0.below hbr).more hzr
        have HW0 := Lib.hid hW0
        have D0 := Lib.hid d0'
        clear d0' hW0 hlow
        have hfit := HMX.out.1 x (List.mem_of_getElem? hxj)
        have HN := Lib.hid (HE.out.trans (fold_next (l := l) hxj))
        have hji : (j : Int) < (nl : Int) := by omega
        have hlen := hfit.2.1
        have HFit := Lib.hid hfit
        obtain ⟨y, ys, rfl⟩ : ∃ y ys, x = y :: ys := by
          cases x with
          | nil => exact absurd rfl HFit.out.1
          | cons y ys => exact ⟨y, ys, rfl⟩
        obtain ⟨ad2, p, rfl, hab2, hp, x0, x1, x2⟩ := HW0.out.load (show 0 < (y :: ys).length by simp)
        obtain rfl : y = p := by simpa using hp
        have x1' : w1.cell? ⟨ad2.block, ad2.off + 1, none⟩ = some (.int .i64 y.2.1) := x1
        have HX1' := Lib.hid x1'
        have hgr := HD.out.blk.lt
        have HA := Lib.hid (r_declare (y :: ys).length w1.heap.size j l v ad2 c1 (y :: ys) wr HD.out hW1 (by omega) (fun t ht => HFit.out.2.2 t ht) (by omega))
        rw [show decl l (texts (y :: ys)) = decl l (y.1 :: texts ys) from rfl] at HN HA
        clear hD hxj hW1 hfit hbr HE hp x0 x1 x2 x1'
        simp only [List.length_cons] at HA d0 hlen
        go_wp2_with fail
        (with_reducible refine HA.out.mono ?_)
        rintro e w4 ⟨v4, rfl, hd4, hb4, hz4⟩
        have HD4 := Lib.hid hd4
        have HB4 := Lib.hid (HBR.out.trans hb4)
        clear hd4 hb4
        cases hdz : decide ((decl l (y.1 :: texts ys)).2 = 0) with
        | true =>
          have h0 := of_decide_eq_true hdz
          have HE4 : Hid (R = fold (decl l (y.1 :: texts ys)).1 (L.drop (j + 1))) := by rw [Hid, HN.out, if_pos h0]
          rw [h0]
          clear HN h0 hdz HA
          go_wp2_with fail
          go_roundw
          case rel => exact ⟨j + 1, _, v4, by omega, by go_num, HD4.out, HE4, HB4.out⟩
          case measure => simp [intOf]; omega
        | false =>
          have h0 := of_decide_eq_false hdz
          have HE4 : Hid (R = (zero, y.2.1, (decl l (y.1 :: texts ys)).2)) := by rw [Hid, HN.out, if_neg h0]; rfl
          have hne : (((decl l (y.1 :: texts ys)).2 : Int) != 0) = true := by rw [bne_iff_ne]; exact h0
          have x1' : w4.cell? ⟨ad2.block, ad2.off + 1, none⟩ = some (.int .i64 y.2.1) := (HB4.out.cell (p := ⟨ad2.block, ad2.off + 1, none⟩) hab2).trans HX1'.out
          have d4 := (HB4.out.cell (p := ad.add j) (by rw [Mem.block_add]; exact hab)).trans D0.out
          have hx4 := (HB4.out.block w.heap.size (by omega)).trans HX1.out
          obtain ⟨c0, c1', c2, c3', hf⟩ := four_cells hx4
          have f0 := hf 0
          have f1 := hf 1
          have f2 := hf 2
          have f3 := hf 3
          have hne2 : ¬ ad2.block = w.heap.size := by have := HLOW.out (by simp) ad2 rfl; omega
          have hne3 : ¬ ad.block = w.heap.size := by have := HLOA.out; omega
          have hjn : (j : Int) < (nl : Int) := by omega
          simp only [List.length_cons] at d4
          have d5 := (cell_past4 (w := w4) (b := w.heap.size) (v0 := .slice none 0 0) (v1 := .slice none 0 0) (v2 := .slice none 0 0) (v3 := .slice none 0 0) (q := ad.add j) (by rw [Mem.block_add]; exact hne3)).trans d4
          have hlen2 : (0 : Int) < ((ys.length + 1 : Nat) : Int) := by omega
          have HBE := Lib.hid (HB1.out.trans (HB4.out.mono (by have := HB1.out.size; omega)))
          generalize (decl l (y.1 :: texts ys)).2 = z at *
          clear HN h0 hdz HA hf hx4 d0
          go_upto_region 10 with fail
          go_region
          all_goals
            go_wp2_with fail
            obtain ⟨e0, e1, e2, e3⟩ := Maker.four_set (v0 := .slice none 0 0) (v1 := .slice none 0 0) (v2 := .slice none 0 0) (v3 := .slice none 0 0) c0 c1' c2 c3'
            refine bodyPost_ret (v := .tuple #[.agg #[.slice none 0 0, .slice none 0 0, .slice none 0 0, .slice none 0 0], .int .i64 y.2.1, .int .i64 z]) ?_ rfl ?_
            · simp [results, Tryz.results26, go_sem, e0, e1, e2, e3]
            · exact ⟨nilV, by rw [HE4.out]; rfl, by rw [HE4.out]; exact nil_rd _ _, ⟨nofun, nofun, nofun, nofun⟩, (set4_below HBE.out (Nat.le_refl _)).drew⟩
      · have hji : ¬ (j : Int) < (nl : Int) := by omega
        have hLn : L.length ≤ j := by obtain ⟨us, h1, -⟩ := HO.out; omega
        have HEX : Hid (R = if check l = 0 then (l, 0, 0) else (zero, 0, check l)) := by rw [Hid, HE.out, List.drop_of_length_le hLn]; rfl
        have HCK := Lib.hid (r_check v l wr (dq_rd hD (by omega)))
        have g0 := hD.blk.c0
        have g1 := hD.blk.c1
        have g2 := hD.blk.c2
        have g3 := hD.blk.c3
        have hgw := hD.blk.lt
        obtain ⟨B1, n1, b1, B2, n2, b2, B3, n3, b3, B4, n4, b4⟩ := v
        simp only [LV.val] at *
        have HDD := Lib.hid hD
        have hwg : w.heap.size < w1.heap.size := by omega
        have hgne : w.heap.size ≠ w1.heap.size := by omega
        have HBR1 := Lib.hid (HB1.out.trans (hbr.mono (by have := HB1.out.size; omega)))
        clear HE hLn hbr hD
        go_wp2_with fail
        (with_reducible refine HCK.out.mono ?_)
        rintro e w5 ⟨rfl, hb5⟩
        have hx5 := (hb5.block w.heap.size (by omega)).trans hx3
        have q0 := (hb5.cell (p := ⟨w1.heap.size, 0, none⟩) hgw).trans g0
        have q1 := (hb5.cell (p := ⟨w1.heap.size, 1, none⟩) hgw).trans g1
        have q2 := (hb5.cell (p := ⟨w1.heap.size, 2, none⟩) hgw).trans g2
        have q3 := (hb5.cell (p := ⟨w1.heap.size, 3, none⟩) hgw).trans g3
        obtain ⟨c0, c1', c2, c3', hf⟩ := four_cells hx5
        have f0 := hf 0
        have f1 := hf 1
        have f2 := hf 2
        have f3 := hf 3
        have HBE := Lib.hid (HBR1.out.trans (hb5.mono HBR1.out.size))
        have HB5 := Lib.hid hb5
        clear hf hx5 hx3 hb5 g0 g1 g2 g3
        cases hcz : decide (check l = 0) with
        | false =>
          have h0 := of_decide_eq_false hcz
          have HE4 : Hid (R = (zero, 0, check l)) := by rw [Hid, HEX.out, if_neg h0]
          have hne : ((check l : Int) != 0) = true := by rw [bne_iff_ne]; exact h0
          generalize check l = z at *
          clear hcz h0
          go_wp2_with fail
          obtain ⟨e0, e1, e2, e3⟩ := Maker.four_set (v0 := .slice none 0 0) (v1 := .slice none 0 0) (v2 := .slice none 0 0) (v3 := .slice none 0 0) c0 c1' c2 c3'
          refine bodyPost_ret (v := .tuple #[.agg #[.slice none 0 0, .slice none 0 0, .slice none 0 0, .slice none 0 0], .int .i64 0, .int .i64 z]) ?_ rfl ?_
          · simp [results, Tryz.results26, go_sem, e0, e1, e2, e3]
          · exact ⟨nilV, by rw [HE4.out]; rfl, by rw [HE4.out]; exact nil_rd _ _, ⟨nofun, nofun, nofun, nofun⟩, set4_below HBE.out (Nat.le_refl _)⟩
        | true =>
          have h0 := of_decide_eq_true hcz
          have HE4 : Hid (R = (l, 0, 0)) := by rw [Hid, HEX.out, if_pos h0]
          rw [h0]
          clear hcz h0
          go_wp2_with fail
          obtain ⟨e0, e1, e2, e3⟩ := Maker.four_set (v0 := .slice B1 n1 b1) (v1 := .slice B2 n2 b2) (v2 := .slice B3 n3 b3) (v3 := .slice B4 n4 b4) c0 c1' c2 c3'
          refine bodyPost_ret (v := .tuple #[.agg #[.slice B1 n1 b1, .slice B2 n2 b2, .slice B3 n3 b3, .slice B4 n4 b4], .int .i64 0, .int .i64 0]) ?_ rfl ?_
          · simp [results, Tryz.results26, go_sem, e0, e1, e2, e3]
          · exact ⟨⟨B1, n1, b1, B2, n2, b2, B3, n3, b3, B4, n4, b4⟩, by rw [HE4.out]; rfl, by
              rw [HE4.out]
              exact dq_set4 HDD.out HB5.out (by omega) (by omega), ⟨fun ad h => by have := own_fresh HDD.out.st h; omega, fun ad h => by have := own_fresh HDD.out.pt h; omega, fun ad h => by have := own_fresh HDD.out.sec h; omega, fun ad h => by have := own_fresh HDD.out.lnk h; omega⟩, set4_below HBE.out (Nat.le_refl _)⟩
end Go.Proofs.YtnfelcjpjodjhaaGreat.RPar
