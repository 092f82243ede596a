/-
  The cursor of the program and the reader of the document in memory: a text, a position, a flag. What keeps them; the program's items and numbers.
  Contracts of the program's cursor: names, sections, links.
  Contracts of the program's reading of lists: names, sections, links.
-/
import Derived.Test.YtepbdcnjhbaehaaSmall
import Derived.Test.YtepbdcnjhbaehaaBin
import Derived.Test.YtepbdcnjhbaehaaRecs
import Derived.Test.YtepbdcnjhbaehaaPEnds
import Derived.Laws.IdiomStrings
import Derived.Deep.QuietTactic
import Derived.BigQuiet
import Derived.Deep.DeepCutAuto
import Derived.Laws.BitsLemmas
import Derived.Test.YtepbdcnjhbaehaaShelf
import Derived.Test.YtepbdcnjhbaehaaRNames
import Derived.Test.YtepbdcnjhbaehaaBldr
namespace Go.Proofs.Ytepbdcnjhbaehaa.Cur
open Go.ChangeShapes Go.WideShapes Go.ChangeAt Go.RowKit Wd Bin Lay Recs PEnds
set_option linter.unusedVariables false

/-- block b (of type t) holds the text s, the position and the flag c -/
def Cu (t : TypeId) (b : Nat) (s : ByteArray) (c : Cur) (w : World) : Prop := w.heap[b]? = some (.cells #[.string s, .int .i64 c.1, .bool c.2] t (0, 0))
section
variable {t : TypeId} {b : Nat} {s : ByteArray} {c : Cur} {w w' : World}
theorem Cu.lt (h : Cu t b s c w) : b < w.heap.size := (Array.getElem?_eq_some_iff.1 h).1
theorem Cu.cells (h : Cu t b s c w) : w.cell? ⟨b, 0, none⟩ = some (.string s) ∧ w.cell? ⟨b, 1, none⟩ = some (.int .i64 c.1) ∧ w.cell? ⟨b, 2, none⟩ = some (.bool c.2) := by
  unfold Cu at h; simp [World.cell?, h]
theorem Cu.free (h : Cu t b s c w) (j : Nat) : w.frozen? ⟨b, j, none⟩ = false := by
  unfold Cu at h; simp [World.frozen?, h]
theorem Cu.drewN (h : Cu t b s c w) (n : Nat) : Cu t b s c (w.drewN n) := h
theorem Cu.stop (h : Cu t b s c w) : Cu t b s (c.1, true) (w.setCell ⟨b, 2, none⟩ (.bool true)) := by
  unfold Cu at h ⊢
  simp [World.setCell, Array.getElem?_modify, h]
theorem Cu.go (h : Cu t b s c w) (p : Nat) : Cu t b s (p, c.2) (w.setCell ⟨b, 1, none⟩ (.int .i64 p)) := by
  unfold Cu at h ⊢
  simp [World.setCell, Array.getElem?_modify, h]
theorem Cu.kept {row : Option Nat} (h : Cu t b s c w) (hg : w.grownBy w' row) (hne : some b ≠ row) : Cu t b s c w' := (hg.block b h.lt hne).trans h
end
/-- what a reading call leaves: its answer v, the cursor at c -/
def Rds (t : TypeId) (b : Nat) (s : ByteArray) (v : Value) (c : Cur) (w : World) (e : Ending) (w' : World) : Prop := e = .returned v ∧ Cu t b s c w' ∧ w.grownBy w' (some b)
theorem below_grown {w w' : World} {row : Option Nat} (h : Below w.heap.size w w') : w.grownBy w' row := ⟨h.os, h.tape, h.output, h.size, fun k hk _ => h.block k hk⟩
theorem grown_draws {w w' : World} {row : Option Nat} (h : w.grownBy w' row) (n : Nat) : w.grownBy (w'.drewN n) row := ⟨h.os, h.tape, h.output, h.size, h.block⟩

theorem extract_str (s : ByteArray) (p n : Nat) : s.extract p (p + n) = str (((bs s).drop p).take n) := bs_ext (by rw [bs_extract, bs_str, show p + n - p = n by omega])
theorem item_stuck (n : Nat) (s : Bs) (p : Nat) : item n s (p, true) = ([], p, true) := by simp [item]
theorem item_short {n : Nat} {s : Bs} {p : Nat} (h : s.length - p < n) (st : Bool) : item n s (p, st) = ([], p, true) := by simp [item, h]
theorem item_yes {n : Nat} {s : Bs} {p : Nat} (h : ¬ s.length - p < n) : item n s (p, false) = ((s.drop p).take n, p + n, false) := by simp [item, h]

set_option maxRecDepth 100000 in
set_option maxHeartbeats 1000000 in
theorem item_any (b n : Nat) (s : ByteArray) (c : Cur) (w : World) (h : Cu 87 b s c w) (hc : c.1 ≤ s.size) (hn : n ≤ 1000) (hs : s.size ≤ 9223372036854775807) :
    Calls Try.prog 41 #[.pointer (some ⟨b, 0, none⟩), .int .i64 n] w (Rds 87 b s (.string (str (item n (bs s) c).1)) (item n (bs s) c).2 w) := by
  obtain ⟨p, st⟩ := c
  simp only at hc
  obtain ⟨c0, c1, c2⟩ := h.cells
  simp only at c1 c2
  have H := Lib.hid h
  have hfz2 := h.free 2
  have hfz1 := h.free 1
  clear h
  cases st with
  | true =>
    have HE := Lib.hid (item_stuck n (bs s) p)
    go_enter Try.func41, Try.ntmps41
    go_wp2
    go_quiet (fail)
    go_wp2
    go_ret
    exact ⟨by rw [HE.out]; rfl, by rw [HE.out]; exact (H.out.drewN _).stop, grown_set (grown_draws (World.grownBy.refl w _) _) _⟩
  | false =>
    by_cases hsh : s.size - p < n
    · have HE := Lib.hid (item_short (n := n) (s := bs s) (p := p) (by rw [bs_length]; exact hsh) false)
      have h1 : (s.size : Int) - (p : Int) < (n : Int) := by omega
      clear hsh
      go_enter Try.func41, Try.ntmps41
      go_wp2
      go_quiet (fail)
      go_wp2
      go_ret
      exact ⟨by rw [HE.out]; rfl, by rw [HE.out]; exact (H.out.drewN _).stop, grown_set (grown_draws (World.grownBy.refl w _) _) _⟩
    · have HE := Lib.hid (item_yes (n := n) (s := bs s) (p := p) (by rw [bs_length]; exact hsh))
      have h1 : ¬ (s.size : Int) - (p : Int) < (n : Int) := by omega
      have h2 : (p : Int) + (n : Int) ≤ (s.size : Int) := by omega
      have h3 : (0 : Int) ≤ p := by omega
      have h4 : (p : Int) ≤ (p : Int) + (n : Int) := by omega
      have HX := Lib.hid (extract_str s p n)
      clear hsh
      go_enter Try.func41, Try.ntmps41
      go_wp2
      go_quiet (fail)
      go_wp2
      generalize hW2 : World.setCell _ ⟨b, 1, none⟩ (.int .i64 ((p : Int) + (n : Int))) = W2
      have HC2 : Hid (Cu 87 b s (p + n, false) W2) := by rw [Hid, ← hW2]; exact (H.out.drewN _).go (p + n)
      have HG2 : Hid (w.grownBy W2 (some b)) := by rw [Hid, ← hW2]; exact grown_set (grown_draws (World.grownBy.refl w _) _) _
      clear hW2 c0 c1 c2 hfz1 hfz2
      obtain ⟨c0, c1, c2⟩ := HC2.out.cells
      have c1 : W2.cell? ⟨b, 1, none⟩ = some (.int .i64 ((p : Int) + (n : Int))) := c1
      have h5 : ((p : Int) + (n : Int)).toNat = p + n := by omega
      have h6 : (p : Int).toNat = p := by omega
      go_quiet (fail)
      go_wp2
      go_ret
      exact ⟨by rw [HE.out]; simp only [HX.out]; rfl, by rw [HE.out]; exact HC2.out.drewN _, grown_draws HG2.out _⟩

/-! ### bytes of a text, as numbers -/

theorem bytes_of (s : ByteArray) (w : World) : ∃ cap W2, (convert 9 36 (.string s)).run Try.prog w = .ok (.slice (some ⟨w.heap.size, 0, none⟩) s.size cap) W2 ∧ Below w.heap.size w W2 ∧ ∀ j (hj : j < s.size), W2.cell? ⟨w.heap.size, j, none⟩ = some (.int .u8 (s[j].toNat : Int)) := by
  refine ⟨_, _, run_bytes_of_string w 9 36 5 s Try.underlying9 Try.underlying36 Try.underlying5, (Below.refl _ _).drew.alloc (Nat.le_refl _) _, fun j hj => ?_⟩
  have h := bytesRow_at s (grownCap w s.size 0 5) j hj
  generalize bytesRow s (grownCap w s.size 0 5) = C at h ⊢
  have hb : (w.drew.alloc (.cells C 5 (C.size, C.size + 1))).heap[w.heap.size]? = some (.cells C 5 (C.size, C.size + 1)) := heap_alloc_new w.drew _
  simp only [World.cell?, hb]
  exact h
theorem val_snoc : ∀ (s : Bs) (b : UInt8), val (s ++ [b]) = val s + b.toNat * 256 ^ s.length
  | [], b => by simp [val]
  | a :: r, b => by
    rw [List.cons_append, val, val_snoc r b, val, List.length_cons, Nat.pow_succ, Nat.mul_add, Nat.mul_comm (256 ^ r.length) 256, ← Nat.mul_assoc 256, Nat.mul_comm 256 b.toNat, Nat.mul_assoc b.toNat]
    omega
theorem wraps_i64 (n : Int) (h₀ : 0 ≤ n) (h₁ : n < 2 ^ 63) : IntKind.i64.wrap n = n := by rw [IntKind.wrap_i64]; omega
/-- a byte laid above the bytes that are read so far -/
theorem or_high (v k : Nat) (b : UInt8) (hk : k ≤ 6) (hv : v < 256 ^ k) : bits .or .i64 (v : Int) (wrap64 ((b.toNat : Int) * 2 ^ (8 * k))) = ((v + b.toNat * 256 ^ k : Nat) : Int) := by
  have e : (256 : Nat) ^ k = 2 ^ (8 * k) := by rw [Nat.pow_mul]
  have hb := b.toNat_lt
  have hp : 256 ^ k ≤ 256 ^ 6 := Nat.pow_le_pow_right (by decide) hk
  have hp0 : 0 < 256 ^ k := Nat.pow_pos (by decide)
  have hx : b.toNat * 256 ^ k < 2 ^ 63 := by
    have : b.toNat * 256 ^ k ≤ 256 * 256 ^ 6 := Nat.mul_le_mul (by omega) hp
    omega
  have hc : ((b.toNat : Int) * 2 ^ (8 * k)) = ((b.toNat * 256 ^ k : Nat) : Int) := by rw [e]; simp
  rw [hc, IntWalk.wrap64_in _ ⟨by omega, by omega⟩]
  obtain ⟨_, h2⟩ := bits_nat .i64 63 (by decide) (fun n h1 h2 => wraps_i64 n h1 h2) (b.toNat * 256 ^ k) v hx (by omega)
  obtain ⟨_, h3⟩ := bits_nat .i64 63 (by decide) (fun n h1 h2 => wraps_i64 n h1 h2) v (b.toNat * 256 ^ k) (by omega) hx
  rw [h3, Nat.or_comm]
  have := Nat.two_pow_add_eq_or_of_lt (i := 8 * k) (b := v) (by rw [← e]; exact hv) b.toNat
  rw [Nat.mul_comm] at this
  rw [e, ← this, Nat.add_comm]

set_option maxRecDepth 100000 in
set_option maxHeartbeats 1000000 in
theorem number_any (b n : Nat) (s : ByteArray) (c : Cur) (w : World) (h : Cu 87 b s c w) (hc : c.1 ≤ s.size) (hn : n ≤ 6) (hs : s.size ≤ 9223372036854775807) :
    Calls Try.prog 43 #[.pointer (some ⟨b, 0, none⟩), .int .i64 n] w (Rds 87 b s (.int .i64 (rdNum n (bs s) c).1) (rdNum n (bs s) c).2 w) := by
  have HI := Lib.hid (item_any b n s c w h hc (by omega) hs)
  have HV : Hid (∀ it : Bs, (item n (bs s) c).1 = it → it.length ≤ n) := fun it hit => by
    rw [← hit]; unfold item; split
    · exact Nat.zero_le _
    · exact Nat.le_trans (List.length_take_le _ _) (Nat.le_refl _)
  have HR : Hid (∀ v, val (item n (bs s) c).1 = v → (rdNum n (bs s) c).1 = v) := fun v hv => hv
  have HC : Hid ((rdNum n (bs s) c).2 = (item n (bs s) c).2) := rfl
  clear h
  obtain ⟨it, hit⟩ : ∃ it, (item n (bs s) c).1 = it := ⟨_, rfl⟩
  have hl := HV.out it hit
  have HR2 := Lib.hid (HR.out (val it) (by rw [hit]))
  rw [hit] at HI
  clear HV HR hit
  go_enter Try.func43, Try.ntmps43
  go_wp2_with fail
  refine HI.out.mono ?_
  rintro e w1 ⟨rfl, hc1, hg1⟩
  obtain ⟨cap, W2, hcv, hb2, hcells⟩ := bytes_of (str it) w1
  have HC1 := Lib.hid (hc1.kept (row := none) (below_grown hb2) (by simp))
  have HG1 := Lib.hid (hg1.trans (below_grown hb2))
  have HCE := Lib.hid hcells
  have HCL := Lib.hid hl
  have hsz : (str it).size = it.length := size_str it
  rw [hsz] at hcv
  obtain ⟨m, hm⟩ : ∃ m, it.length = m := ⟨_, rfl⟩
  rw [hm] at hcv
  have HM := Lib.hid hm
  have HSZ := Lib.hid hsz
  have hmn : m ≤ n := by omega
  clear hc1 hg1 hb2 hcells HI hl hsz hm
  go_wp2
  clear hcv
  go_loop [5, 13] (fun v i => ∃ k : Nat, k ≤ m ∧ i = .int .i64 k ∧ v = .int .i64 (val (it.take k))) (fun _ i => m - (intOf i).toNat)
  case atStart => exact ⟨0, Nat.zero_le _, rfl, by simp [val]⟩
  case round =>
    obtain ⟨k, hk, rfl, rfl⟩ := hrel
    by_cases hlt : k < m
    · have hkn : (k : Int) < (m : Int) := by omega
      obtain ⟨bk, hbk, d0⟩ : ∃ bk, it[k]? = some bk ∧ W2.cell? ⟨w1.heap.size, k, none⟩ = some (.int .u8 (bk.toNat : Int)) := by
        have hj : k < (str it).size := by have := HSZ.out; have := HM.out; omega
        refine ⟨(str it)[k], ?_, HCE.out k hj⟩
        have := bs_get (str it) k hj
        rwa [bs_str] at this
      have d1 : W2.cell? ((⟨w1.heap.size, 0, none⟩ : Addr).add k) = some (.int .u8 (bk.toNat : Int)) := by
        have e : ((⟨w1.heap.size, 0, none⟩ : Addr).add k) = ⟨w1.heap.size, k, none⟩ := by unfold Addr.add; split <;> simp_all
        rw [e]; exact d0
      have htk : it.take (k + 1) = it.take k ++ [bk] := by rw [List.take_add_one, hbk]; rfl
      have hlk : (it.take k).length = k := by rw [List.length_take]; have := HM.out; omega
      have hvk := val_lt (it.take k)
      rw [hlk] at hvk
      have HO := Lib.hid (or_high (val (it.take k)) k bk (by omega) hvk)
      have HN : Hid (val (it.take (k + 1)) = val (it.take k) + bk.toNat * 256 ^ k) := by rw [Hid, htk, val_snoc, hlk]
      have hw8 : IntKind.i64.wrap (8 * (k : Int)) = 8 * (k : Int) := IntWalk.i64_in _ (by omega)
      have h8 : (0 : Int) ≤ 8 * (k : Int) := by omega
      have hbt := bk.toNat_lt
      clear hbk htk hlk hvk
      go_wp2
      go_roundw
      case rel => exact ⟨k + 1, by omega, by go_num, by rw [HO.out, HN.out]⟩
      case measure => simp [intOf]; omega
    · have hkn : ¬ (k : Int) < (m : Int) := by omega
      have HX : Hid (it.take k = it) := List.take_of_length_le (by have := HM.out; omega)
      go_wp2
      go_ret
      exact ⟨by rw [HR2.out, HX.out]; rfl, HC.out ▸ HC1.out, HG1.out⟩
end Go.Proofs.Ytepbdcnjhbaehaa.Cur

namespace Go.Proofs.Ytepbdcnjhbaehaa.Crd
open Go.ChangeShapes Go.WideShapes Go.ChangeAt Go.RowKit Wd Bin Lay Recs PEnds _root_.Go.Proofs.Ytepbdcnjhbaehaa.Cur
set_option linter.unusedVariables false

theorem clone_any (s : ByteArray) (w : World) (hlim : s.size ≤ 281474976710656) : Calls Try.prog 83 #[.string s] w fun e w' => e = .returned (.string s) ∧ Below w.heap.size w w' := by
  go_enter Try.func83, Try.ntmps83
  go_wp2_with fail
  refine (Try.stringslite_Clone s w hlim).mono ?_
  rintro e w1 ⟨rfl, hb⟩
  go_wp2
  go_ret
  exact ⟨rfl, hb⟩
theorem item_len {n : Nat} {s : Bs} {c : Bin.Cur} (h : (item n s c).2.2 = false) : (item n s c).1.length = n := by
  unfold item at h ⊢
  split at h
  · cases h
  · rename_i hc
    rw [if_neg hc]
    simp only [List.length_take, List.length_drop]
    omega
theorem item_none {n : Nat} {s : Bs} {c : Bin.Cur} (h : (item n s c).2.2 = true) : (item n s c).1 = [] := by
  unfold item at h ⊢
  split at h
  · rename_i hc; rw [if_pos hc]
  · cases h
theorem item_pos {n : Nat} {s : Bs} {c : Bin.Cur} (h : c.1 ≤ s.length) : (item n s c).2.1 ≤ s.length := by
  unfold item
  split
  · exact h
  · simp only; omega
theorem size_yes {s : ByteArray} {p : Nat} (h : p < s.size) : size (bs s) p = 1 + s[p].toNat := by unfold size; rw [bs_get s p h]; rfl
theorem size_no {s : ByteArray} {p : Nat} (h : ¬ p < s.size) : size (bs s) p = 1 := by
  unfold size; rw [List.getElem?_eq_none (by rw [bs_length]; omega)]; rfl

set_option maxRecDepth 100000 in
set_option maxHeartbeats 2000000 in
theorem name_any (b : Nat) (s : ByteArray) (c : Bin.Cur) (w : World) (h : Cu 87 b s c w) (hc : c.1 ≤ s.size) (hs : s.size ≤ 9223372036854775807) :
    Calls Try.prog 66 #[.pointer (some ⟨b, 0, none⟩)] w (Rds 87 b s (.string (str (rdName (bs s) c).1)) (rdName (bs s) c).2 w) := by
  have HI := Lib.hid (fun (n : Nat) (wx : World) (hx : Cu 87 b s c wx) (hn : n ≤ 1000) => item_any b n s c wx hx hc hn hs)
  have H := Lib.hid h
  obtain ⟨z, hz⟩ : ∃ z, size (bs s) c.1 = z := ⟨_, rfl⟩
  have hz1 : 1 ≤ z := by rw [← hz]; exact size_pos _ _
  have hz2 : z ≤ 256 := by
    rw [← hz]
    by_cases hp : c.1 < s.size
    · rw [size_yes hp]; have := (s[c.1]'hp).toNat_lt; omega
    · rw [size_no hp]; omega
  have HR : Hid (rdName (bs s) c = ((item z (bs s) c).1.drop 1, (item z (bs s) c).2)) := by unfold rdName; rw [hz]; rfl
  have HIL := Lib.hid (fun hst => item_len (n := z) (s := bs s) (c := c) hst)
  have HIN := Lib.hid (fun hst => item_none (n := z) (s := bs s) (c := c) hst)
  obtain ⟨it, hit⟩ : ∃ it, (item z (bs s) c).1 = it := ⟨_, rfl⟩
  obtain ⟨c', hc'⟩ : ∃ c', (item z (bs s) c).2 = c' := ⟨_, rfl⟩
  have HIZ := Lib.hid (fun (wx : World) (hx : Cu 87 b s c wx) => HI.out z wx hx (by omega))
  rw [hit, hc'] at HIZ HR
  rw [hit, hc'] at HIL HIN
  obtain ⟨p, st⟩ := c
  obtain ⟨p', st'⟩ := c'
  simp only at hc hz HIL HIN
  have HZ := Lib.hid hz
  have HG0 : Hid (∀ k, w.grownBy (w.drewN k) (some b)) := fun k => grown_draws (World.grownBy.refl w _) _
  obtain ⟨c0, c1, c2⟩ := h.cells
  simp only at c1 c2
  have HIX : Hid (∀ (x : Int) (wx : World), x = (z : Int) → Cu 87 b s (p, st) wx → Calls Try.prog 41 #[.pointer (some ⟨b, 0, none⟩), .int .i64 x] wx (Rds 87 b s (.string (str it)) (p', st') wx)) := fun x wx hx h => by subst hx; exact HIZ.out wx h
  clear h hz hit hc' HI HIZ
  have HE : Hid (∀ wx : World, Cu 87 b s (p', st') wx → w.grownBy wx (some b) → ∀ v, v = .string (str (it.drop 1)) → Rds 87 b s (.string (str (rdName (bs s) (p, st)).1)) (rdName (bs s) (p, st)).2 w (.returned v) wx) := fun wx h1 h2 v hv => by
    subst hv; rw [HR.out]; exact ⟨rfl, h1, h2⟩
  have hzz : it.length ≤ 256 := by
    cases st' with
    | true => rw [HIN.out rfl]; exact Nat.zero_le _
    | false => rw [HIL.out rfl]; exact hz2
  have hx1 : st' = false → 1 ≤ (str it).size := fun e => by rw [size_str, HIL.out e]; exact hz1
  have hx2 : st' = true → str it = ⟨#[]⟩ ∧ str (it.drop 1) = ⟨#[]⟩ := fun e => by rw [HIN.out e]; exact ⟨rfl, rfl⟩
  have HX1 := Lib.hid hx1
  have HX2 := Lib.hid hx2
  have HEX : Hid ((str it).extract 1 (str it).size = str (it.drop 1)) := bs_ext (by rw [bs_extract, bs_str, bs_str, size_str]; exact List.take_of_length_le (by simp))
  have hsz : (str it).size ≤ 256 := by rw [size_str]; exact hzz
  obtain ⟨J, hJ⟩ : ∃ J, str it = J := ⟨_, rfl⟩
  obtain ⟨R, hRR⟩ : ∃ R, str (it.drop 1) = R := ⟨_, rfl⟩
  rw [hJ] at HIX HX1 HX2 HEX hsz
  rw [hRR] at HE HX2 HEX
  clear hJ hRR HR HIL HIN hx1 hx2 hzz
  have hRs : R.size ≤ 256 := by rw [← HEX.out, ByteArray.size_extract]; omega
  -- behind the item
  by_cases hp : p < s.size
  · have hp' : (p : Int) < (s.size : Int) := by omega
    have HY : Hid ((1 : Int) + (s[p].toNat : Int) = (z : Int)) := by rw [Hid, ← HZ.out, size_yes hp]; omega
    have hbt := s[p].toNat_lt
    have hp0 : (0 : Int) ≤ (p : Int) := by omega
    go_enter Try.func66, Try.ntmps66
    go_wp2
    go_quiet (fail)
    go_wp2
    go_quiet (fail)
    go_wp2_with fail
    refine (HIX.out _ _ HY.out (H.out.drewN _)).mono ?_
    rintro e w1 ⟨rfl, hc1, hg1⟩
    have HG1 := Lib.hid ((HG0.out _).trans hg1)
    have HC1 := Lib.hid hc1
    clear hc1 hg1 c0 c1 c2
    obtain ⟨c0, c1, c2⟩ := HC1.out.cells
    cases st' with
    | true =>
      obtain ⟨e1, e2⟩ := HX2.out rfl
      have E2 := Lib.hid e2
      clear e1 e2 HX1
      go_wp2
      go_ret
      exact HE.out _ HC1.out HG1.out _ (by rw [E2.out]; rfl)
    | false =>
      have h1 := HX1.out rfl
      have h1' : (1 : Int) ≤ (J.size : Int) := by omega
      have hex := HEX.out
      clear HX1 HX2
      go_wp2_with fail
      refine (clone_any R _ (by omega)).mono ?_
      rintro e w2 ⟨rfl, hb2⟩
      have HC2 := Lib.hid (HC1.out.kept (row := none) (below_grown hb2) (by simp))
      have HG2 := Lib.hid (HG1.out.trans (below_grown hb2))
      clear hb2 hex c0 c1 c2
      go_wp2
      go_ret
      exact HE.out _ HC2.out HG2.out _ rfl
  · have hp' : ¬ (p : Int) < (s.size : Int) := by omega
    have HY : Hid ((1 : Int) = (z : Int)) := by rw [Hid, ← HZ.out, size_no hp]; rfl
    go_enter Try.func66, Try.ntmps66
    go_wp2
    go_quiet (fail)
    go_wp2_with fail
    refine (HIX.out _ _ HY.out (H.out.drewN _)).mono ?_
    rintro e w1 ⟨rfl, hc1, hg1⟩
    have HG1 := Lib.hid ((HG0.out _).trans hg1)
    have HC1 := Lib.hid hc1
    clear hc1 hg1 c0 c1 c2
    obtain ⟨c0, c1, c2⟩ := HC1.out.cells
    cases st' with
    | true =>
      obtain ⟨e1, e2⟩ := HX2.out rfl
      have E2 := Lib.hid e2
      clear e1 e2 HX1
      go_wp2
      go_ret
      exact HE.out _ HC1.out HG1.out _ (by rw [E2.out]; rfl)
    | false =>
      have h1 := HX1.out rfl
      have h1' : (1 : Int) ≤ (J.size : Int) := by omega
      have hex := HEX.out
      clear HX1 HX2
      go_wp2_with fail
      refine (clone_any R _ (by omega)).mono ?_
      rintro e w2 ⟨rfl, hb2⟩
      have HC2 := Lib.hid (HC1.out.kept (row := none) (below_grown hb2) (by simp))
      have HG2 := Lib.hid (HG1.out.trans (below_grown hb2))
      clear hb2 hex c0 c1 c2
      go_wp2
      go_ret
      exact HE.out _ HC2.out HG2.out _ rfl

/-! ### sections and links -/

theorem num_pos {n : Nat} {s : Bs} {c : Bin.Cur} {r : Nat × Bin.Cur} (e : rdNum n s c = r) (h : c.1 ≤ s.length) : r.2.1 ≤ s.length := by
  rw [← e]; exact item_pos h
theorem name_pos {s : Bs} {c : Bin.Cur} {r : Bs × Bin.Cur} (e : rdName s c = r) (h : c.1 ≤ s.length) : r.2.1 ≤ s.length := by
  rw [← e]; exact item_pos h
theorem name_eq (b : Nat) (s : ByteArray) (c : Bin.Cur) (r : Bs × Bin.Cur) (w : World) (e : rdName (bs s) c = r) (h : Cu 87 b s c w) (hc : c.1 ≤ (bs s).length) (hs : s.size ≤ 9223372036854775807) :
    Calls Try.prog 66 #[.pointer (some ⟨b, 0, none⟩)] w (Rds 87 b s (.string (str r.1)) r.2 w) := by
  subst e; exact name_any b s c w h (by rwa [bs_length] at hc) hs
theorem number_eq (b n : Nat) (s : ByteArray) (c : Bin.Cur) (r : Nat × Bin.Cur) (w : World) (e : rdNum n (bs s) c = r) (h : Cu 87 b s c w) (hc : c.1 ≤ (bs s).length) (hn : n ≤ 6) (hs : s.size ≤ 9223372036854775807) :
    Calls Try.prog 43 #[.pointer (some ⟨b, 0, none⟩), .int .i64 n] w (Rds 87 b s (.int .i64 r.1) r.2 w) := by
  subst e; exact Cur.number_any b n s c w h (by rwa [bs_length] at hc) hn hs
theorem num_lt {n : Nat} {s : Bs} {c : Bin.Cur} {r : Nat × Bin.Cur} (e : rdNum n s c = r) : r.1 < 256 ^ n := by
  rw [← e]
  have h1 : (item n s c).1.length ≤ n := by
    unfold item; split
    · exact Nat.zero_le _
    · exact List.length_take_le _ _
  exact Nat.lt_of_lt_of_le (val_lt _) (Nat.pow_le_pow_right (by decide) h1)
theorem grown_new {w w' : World} {row : Option Nat} {g j : Nat} (h : w.grownBy w' row) (hg : w.heap.size ≤ g) (v : Value) : w.grownBy (w'.setCell ⟨g, j, none⟩ v) row :=
  ⟨h.os, h.tape, h.output, by have := h.size; simpa using this, fun k hk hne => (Below.heap_setCell w' ⟨g, j, none⟩ v k (fun e => by have e2 : k = g := e; omega)).trans (h.block k hk hne)⟩
theorem Cu.past {t : TypeId} {b g j : Nat} {s : ByteArray} {c : Bin.Cur} {w : World} (h : Cu t b s c w) (hb : b ≠ g) (v : Value) : Cu t b s c (w.setCell ⟨g, j, none⟩ v) :=
  (Below.heap_setCell w ⟨g, j, none⟩ v b (fun e => hb e)).trans h
/-- the cells of a section, stored one by one -/
theorem five_set {w : World} {g : Nat} {t : TypeId} {u0 u1 u2 u3 u4 v0 v1 v2 v3 v4 : Value} (h : w.heap[g]? = some (.cells #[u0, u1, u2, u3, u4] t (0, 0))) :
    let W := ((((w.setCell ⟨g, 0, none⟩ v0).setCell ⟨g, 1, none⟩ v1).setCell ⟨g, 2, none⟩ v2).setCell ⟨g, 3, none⟩ v3).setCell ⟨g, 4, none⟩ v4
    W.heap[g]? = some (.cells #[v0, v1, v2, v3, v4] t (0, 0)) := by
  simp [World.setCell, Array.getElem?_modify, h]
theorem six_set {w : World} {g : Nat} {t : TypeId} {u0 u1 u2 u3 u4 u5 v0 v1 v2 v3 v4 v5 : Value} (h : w.heap[g]? = some (.cells #[u0, u1, u2, u3, u4, u5] t (0, 0))) :
    let W := (((((w.setCell ⟨g, 0, none⟩ v0).setCell ⟨g, 1, none⟩ v1).setCell ⟨g, 2, none⟩ v2).setCell ⟨g, 3, none⟩ v3).setCell ⟨g, 4, none⟩ v4).setCell ⟨g, 5, none⟩ v5
    W.heap[g]? = some (.cells #[v0, v1, v2, v3, v4, v5] t (0, 0)) := by
  simp [World.setCell, Array.getElem?_modify, h]
def secV (s : Sec) : Value := .agg #[.string (str s.name), .int .i64 s.len, .int .i64 s.lim, .int .i64 s.grade, .int .i64 s.st]
def lnkV (k : Lnk) : Value := .agg #[.int .i64 k.a, .int .i64 k.ae, .int .i64 k.b, .int .i64 k.be, .int .i64 k.pt, .int .i64 k.ps]

set_option maxRecDepth 100000 in
set_option maxHeartbeats 4000000 in
theorem section_any (b : Nat) (s : ByteArray) (c : Bin.Cur) (w : World) (h : Cu 87 b s c w) (hc : c.1 ≤ (bs s).length) (hs : s.size ≤ 9223372036854775807) :
    Calls Try.prog 68 #[.pointer (some ⟨b, 0, none⟩)] w (Rds 87 b s (secV (rdSec (bs s) c).1) (rdSec (bs s) c).2 w) := by
  obtain ⟨⟨a1, k1⟩, h1⟩ : ∃ r, rdName (bs s) c = r := ⟨_, rfl⟩
  obtain ⟨⟨a2, k2⟩, h2⟩ : ∃ r, rdNum 2 (bs s) k1 = r := ⟨_, rfl⟩
  obtain ⟨⟨a3, k3⟩, h3⟩ : ∃ r, rdNum 3 (bs s) k2 = r := ⟨_, rfl⟩
  obtain ⟨⟨a4, k4⟩, h4⟩ : ∃ r, rdNum 1 (bs s) k3 = r := ⟨_, rfl⟩
  obtain ⟨⟨a5, k5⟩, h5⟩ : ∃ r, rdNum 1 (bs s) k4 = r := ⟨_, rfl⟩
  have p1 := name_pos h1 hc
  have p2 := num_pos h2 p1
  have p3 := num_pos h3 p2
  have p4 := num_pos h4 p3
  have l4 := num_lt h4
  have l5 := num_lt h5
  simp only at p1 p2 p3 p4 l4 l5
  have HE : Hid (rdSec (bs s) c = (⟨a1, a2, a3, (a4 : Int) - 40, (a5 : Int) - 1⟩, k5)) := by
    simp only [Hid, rdSec, bnd, ret, h1, h2, h3, h4, h5]
  have N1 := Lib.hid (fun wx hx => name_eq b s c _ wx h1 hx hc hs)
  have N2 := Lib.hid (fun wx hx => number_eq b 2 s k1 _ wx h2 hx p1 (by omega) hs)
  have N3 := Lib.hid (fun wx hx => number_eq b 3 s k2 _ wx h3 hx p2 (by omega) hs)
  have N4 := Lib.hid (fun wx hx => number_eq b 1 s k3 _ wx h4 hx p3 (by omega) hs)
  have N5 := Lib.hid (fun wx hx => number_eq b 1 s k4 _ wx h5 hx p4 (by omega) hs)
  clear h1 h2 h3 h4 h5 p1 p2 p3 p4
  simp only at N1 N2 N3 N4 N5
  have hlt := h.lt
  obtain ⟨W, hW⟩ : ∃ W, w.alloc (.cells #[.string ⟨#[]⟩, .int .i64 0, .int .i64 0, .int .i64 0, .int .i64 0] 66) = W := ⟨_, rfl⟩
  have HC0 : Hid (Cu 87 b s c W) := by rw [Hid, ← hW]; exact h.kept (row := none) (World.grownBy_alloc w _ none) (by simp)
  have HG0 : Hid (w.grownBy W (some b)) := by rw [Hid, ← hW]; exact World.grownBy_alloc w _ _
  have HB0 : Hid (W.heap[w.heap.size]? = some (.cells #[.string ⟨#[]⟩, .int .i64 0, .int .i64 0, .int .i64 0, .int .i64 0] 66 (0, 0))) := by rw [Hid, ← hW]; exact heap_alloc_new _ _
  have hzW : w.heap.size < W.heap.size := by rw [← hW]; simp
  have hbg : b ≠ w.heap.size := by omega
  clear h hlt
  go_enter Try.func68, Try.ntmps68
  go_upto_region 1 with fail
  try rw [hW]
  clear hW
  go_wp2_with fail
  refine (N1.out _ HC0.out).mono ?_
  rintro e w1 ⟨rfl, hc1, hg1⟩
  have HC1 := Lib.hid hc1
  have HG1 := Lib.hid hg1
  clear hc1 hg1 N1 HC0
  go_wp2_with fail
  refine (N2.out _ HC1.out).mono ?_
  rintro e w2 ⟨rfl, hc2, hg2⟩
  have HC2 := Lib.hid hc2
  have HG2 := Lib.hid (HG1.out.trans hg2)
  clear hc2 hg2 N2 HC1 HG1
  go_wp2_with fail
  refine (N3.out _ HC2.out).mono ?_
  rintro e w3 ⟨rfl, hc3, hg3⟩
  have HC3 := Lib.hid hc3
  have HG3 := Lib.hid (HG2.out.trans hg3)
  clear hc3 hg3 N3 HC2 HG2
  go_wp2_with fail
  refine (N4.out _ HC3.out).mono ?_
  rintro e w4 ⟨rfl, hc4, hg4⟩
  have HC4 := Lib.hid hc4
  have HG4 := Lib.hid (HG3.out.trans hg4)
  clear hc4 hg4 N4 HC3 HG3
  go_wp2_with fail
  refine (N5.out _ HC4.out).mono ?_
  rintro e w5 ⟨rfl, hc5, hg5⟩
  have hg := HG4.out.trans hg5
  have hblk : w5.heap[w.heap.size]? = some (.cells #[.string ⟨#[]⟩, .int .i64 0, .int .i64 0, .int .i64 0, .int .i64 0] 66 (0, 0)) := (hg.block _ hzW (fun e => hbg (by injection e with e; exact e.symm))).trans HB0.out
  have HC5 := Lib.hid hc5
  have HG5 := Lib.hid (HG0.out.trans hg)
  have HBK := Lib.hid hblk
  have d0 : w5.cell? ⟨w.heap.size, 0, none⟩ = some (.string ⟨#[]⟩) := by simp [World.cell?, hblk]
  have d1 : w5.cell? ⟨w.heap.size, 1, none⟩ = some (.int .i64 0) := by simp [World.cell?, hblk]
  have d2 : w5.cell? ⟨w.heap.size, 2, none⟩ = some (.int .i64 0) := by simp [World.cell?, hblk]
  have d3 : w5.cell? ⟨w.heap.size, 3, none⟩ = some (.int .i64 0) := by simp [World.cell?, hblk]
  have d4 : w5.cell? ⟨w.heap.size, 4, none⟩ = some (.int .i64 0) := by simp [World.cell?, hblk]
  have f0 : w5.frozen? ⟨w.heap.size, 0, none⟩ = false := by simp [World.frozen?, hblk]
  have f1 : w5.frozen? ⟨w.heap.size, 1, none⟩ = false := by simp [World.frozen?, hblk]
  have f2 : w5.frozen? ⟨w.heap.size, 2, none⟩ = false := by simp [World.frozen?, hblk]
  have f3 : w5.frozen? ⟨w.heap.size, 3, none⟩ = false := by simp [World.frozen?, hblk]
  have f4 : w5.frozen? ⟨w.heap.size, 4, none⟩ = false := by simp [World.frozen?, hblk]
  clear hc5 hg5 hg hblk N5 HC4 HG4 HG0 HB0
  go_wp2_with fail
  have hfin := five_set (v0 := .string (str a1)) (v1 := .int .i64 a2) (v2 := .int .i64 a3) (v3 := .int .i64 ((a4 : Int) - 40)) (v4 := .int .i64 ((a5 : Int) - 1)) HBK.out
  have hcx : Cu 87 b s k5 (((((w5.setCell ⟨w.heap.size, 0, none⟩ (.string (str a1))).setCell ⟨w.heap.size, 1, none⟩ (.int .i64 a2)).setCell ⟨w.heap.size, 2, none⟩ (.int .i64 a3)).setCell ⟨w.heap.size, 3, none⟩ (.int .i64 ((a4 : Int) - 40))).setCell ⟨w.heap.size, 4, none⟩ (.int .i64 ((a5 : Int) - 1))) := (Cu.past (Cu.past (Cu.past (Cu.past (Cu.past HC5.out hbg _) hbg _) hbg _) hbg _) hbg _)
  have hgx : w.grownBy (((((w5.setCell ⟨w.heap.size, 0, none⟩ (.string (str a1))).setCell ⟨w.heap.size, 1, none⟩ (.int .i64 a2)).setCell ⟨w.heap.size, 2, none⟩ (.int .i64 a3)).setCell ⟨w.heap.size, 3, none⟩ (.int .i64 ((a4 : Int) - 40))).setCell ⟨w.heap.size, 4, none⟩ (.int .i64 ((a5 : Int) - 1))) (some b) := (grown_new (grown_new (grown_new (grown_new (grown_new HG5.out (Nat.le_refl _) _) (Nat.le_refl _) _) (Nat.le_refl _) _) (Nat.le_refl _) _) (Nat.le_refl _) _)
  have HCX := Lib.hid hcx
  have HGX := Lib.hid hgx
  clear hcx hgx d0 f0 d1 f1 d2 f2 d3 f3 d4 f4 HC5 HG5 HBK
  generalize (((((w5.setCell ⟨w.heap.size, 0, none⟩ (.string (str a1))).setCell ⟨w.heap.size, 1, none⟩ (.int .i64 a2)).setCell ⟨w.heap.size, 2, none⟩ (.int .i64 a3)).setCell ⟨w.heap.size, 3, none⟩ (.int .i64 ((a4 : Int) - 40))).setCell ⟨w.heap.size, 4, none⟩ (.int .i64 ((a5 : Int) - 1))) = X at *
  have e0 : X.cell? ⟨w.heap.size, 0, none⟩ = some (.string (str a1)) := Lib.cell_of_heap hfin 0
  have e1 : X.cell? ⟨w.heap.size, 1, none⟩ = some (.int .i64 a2) := Lib.cell_of_heap hfin 1
  have e2 : X.cell? ⟨w.heap.size, 2, none⟩ = some (.int .i64 a3) := Lib.cell_of_heap hfin 2
  have e3 : X.cell? ⟨w.heap.size, 3, none⟩ = some (.int .i64 ((a4 : Int) - 40)) := Lib.cell_of_heap hfin 3
  have e4 : X.cell? ⟨w.heap.size, 4, none⟩ = some (.int .i64 ((a5 : Int) - 1)) := Lib.cell_of_heap hfin 4
  clear hfin
  refine bodyPost_ret (v := .agg #[.string (str a1), .int .i64 a2, .int .i64 a3, .int .i64 ((a4 : Int) - 40), .int .i64 ((a5 : Int) - 1)]) ?_ rfl ?_
  · simp [results, Try.results68, go_sem, e0, e1, e2, e3, e4]
  · exact ⟨by rw [HE.out]; rfl, by rw [HE.out]; exact HCX.out, HGX.out⟩

set_option maxRecDepth 100000 in
set_option maxHeartbeats 4000000 in
theorem link_any (b : Nat) (s : ByteArray) (c : Bin.Cur) (w : World) (h : Cu 87 b s c w) (hc : c.1 ≤ (bs s).length) (hs : s.size ≤ 9223372036854775807) :
    Calls Try.prog 70 #[.pointer (some ⟨b, 0, none⟩)] w (Rds 87 b s (lnkV (rdLnk (bs s) c).1) (rdLnk (bs s) c).2 w) := by
  obtain ⟨⟨a1, k1⟩, h1⟩ : ∃ r, rdNum 1 (bs s) c = r := ⟨_, rfl⟩
  obtain ⟨⟨a2, k2⟩, h2⟩ : ∃ r, rdNum 1 (bs s) k1 = r := ⟨_, rfl⟩
  obtain ⟨⟨a3, k3⟩, h3⟩ : ∃ r, rdNum 1 (bs s) k2 = r := ⟨_, rfl⟩
  obtain ⟨⟨a4, k5⟩, h4⟩ : ∃ r, rdNum 1 (bs s) k3 = r := ⟨_, rfl⟩
  have p1 := num_pos h1 hc
  have p2 := num_pos h2 p1
  have p3 := num_pos h3 p2
  have l1 := num_lt h1
  have l2 := num_lt h2
  have l3 := num_lt h3
  simp only at p1 p2 p3 l1 l2 l3
  have HE : Hid (rdLnk (bs s) c = (⟨(a1 : Int) / 2, (a1 : Int) % 2, (a2 : Int) / 2, (a2 : Int) % 2, (a3 : Int) - 1, a4⟩, k5)) := by
    simp only [Hid, rdLnk, bnd, ret, h1, h2, h3, h4]
  have N1 := Lib.hid (fun wx hx => number_eq b 1 s c _ wx h1 hx hc (by omega) hs)
  have N2 := Lib.hid (fun wx hx => number_eq b 1 s k1 _ wx h2 hx p1 (by omega) hs)
  have N3 := Lib.hid (fun wx hx => number_eq b 1 s k2 _ wx h3 hx p2 (by omega) hs)
  have N4 := Lib.hid (fun wx hx => number_eq b 1 s k3 _ wx h4 hx p3 (by omega) hs)
  clear h1 h2 h3 h4 p1 p2 p3
  simp only at N1 N2 N3 N4
  have hlt := h.lt
  obtain ⟨W, hW⟩ : ∃ W, w.alloc (.cells #[.int .i64 0, .int .i64 0, .int .i64 0, .int .i64 0, .int .i64 0, .int .i64 0] 70) = W := ⟨_, rfl⟩
  have HC0 : Hid (Cu 87 b s c W) := by rw [Hid, ← hW]; exact h.kept (row := none) (World.grownBy_alloc w _ none) (by simp)
  have HG0 : Hid (w.grownBy W (some b)) := by rw [Hid, ← hW]; exact World.grownBy_alloc w _ _
  have HB0 : Hid (W.heap[w.heap.size]? = some (.cells #[.int .i64 0, .int .i64 0, .int .i64 0, .int .i64 0, .int .i64 0, .int .i64 0] 70 (0, 0))) := by rw [Hid, ← hW]; exact heap_alloc_new _ _
  have hzW : w.heap.size < W.heap.size := by rw [← hW]; simp
  have hbg : b ≠ w.heap.size := by omega
  clear h hlt
  go_enter Try.func70, Try.ntmps70
  go_upto_region 1 with fail
  try rw [hW]
  clear hW
  go_wp2_with fail
  refine (N1.out _ HC0.out).mono ?_
  rintro e w1 ⟨rfl, hc1, hg1⟩
  have HC1 := Lib.hid hc1
  have HG1 := Lib.hid hg1
  clear hc1 hg1 N1 HC0
  go_wp2_with fail
  refine (N2.out _ HC1.out).mono ?_
  rintro e w2 ⟨rfl, hc2, hg2⟩
  have HC2 := Lib.hid hc2
  have HG2 := Lib.hid (HG1.out.trans hg2)
  clear hc2 hg2 N2 HC1 HG1
  go_wp2_with fail
  refine (N3.out _ HC2.out).mono ?_
  rintro e w3 ⟨rfl, hc3, hg3⟩
  have HC3 := Lib.hid hc3
  have HG3 := Lib.hid (HG2.out.trans hg3)
  clear hc3 hg3 N3 HC2 HG2
  go_wp2_with fail
  refine (N4.out _ HC3.out).mono ?_
  rintro e w5 ⟨rfl, hc5, hg5⟩
  have hg := HG3.out.trans hg5
  have hblk : w5.heap[w.heap.size]? = some (.cells #[.int .i64 0, .int .i64 0, .int .i64 0, .int .i64 0, .int .i64 0, .int .i64 0] 70 (0, 0)) := (hg.block _ hzW (fun e => hbg (by injection e with e; exact e.symm))).trans HB0.out
  have HC5 := Lib.hid hc5
  have HG5 := Lib.hid (HG0.out.trans hg)
  have HBK := Lib.hid hblk
  have d0 : w5.cell? ⟨w.heap.size, 0, none⟩ = some (.int .i64 0) := by simp [World.cell?, hblk]
  have d1 : w5.cell? ⟨w.heap.size, 1, none⟩ = some (.int .i64 0) := by simp [World.cell?, hblk]
  have d2 : w5.cell? ⟨w.heap.size, 2, none⟩ = some (.int .i64 0) := by simp [World.cell?, hblk]
  have d3 : w5.cell? ⟨w.heap.size, 3, none⟩ = some (.int .i64 0) := by simp [World.cell?, hblk]
  have d4 : w5.cell? ⟨w.heap.size, 4, none⟩ = some (.int .i64 0) := by simp [World.cell?, hblk]
  have d5 : w5.cell? ⟨w.heap.size, 5, none⟩ = some (.int .i64 0) := by simp [World.cell?, hblk]
  have f0 : w5.frozen? ⟨w.heap.size, 0, none⟩ = false := by simp [World.frozen?, hblk]
  have f1 : w5.frozen? ⟨w.heap.size, 1, none⟩ = false := by simp [World.frozen?, hblk]
  have f2 : w5.frozen? ⟨w.heap.size, 2, none⟩ = false := by simp [World.frozen?, hblk]
  have f3 : w5.frozen? ⟨w.heap.size, 3, none⟩ = false := by simp [World.frozen?, hblk]
  have f4 : w5.frozen? ⟨w.heap.size, 4, none⟩ = false := by simp [World.frozen?, hblk]
  have f5 : w5.frozen? ⟨w.heap.size, 5, none⟩ = false := by simp [World.frozen?, hblk]
  clear hc5 hg5 hg hblk N4 HC3 HG3 HG0 HB0
  go_wp2_with fail
  have hfin := six_set (v0 := .int .i64 ((a1 : Int) / 2)) (v1 := .int .i64 ((a1 : Int) % 2)) (v2 := .int .i64 ((a2 : Int) / 2)) (v3 := .int .i64 ((a2 : Int) % 2)) (v4 := .int .i64 ((a3 : Int) - 1)) (v5 := .int .i64 a4) HBK.out
  have hcx : Cu 87 b s k5 ((((((w5.setCell ⟨w.heap.size, 0, none⟩ (.int .i64 ((a1 : Int) / 2))).setCell ⟨w.heap.size, 1, none⟩ (.int .i64 ((a1 : Int) % 2))).setCell ⟨w.heap.size, 2, none⟩ (.int .i64 ((a2 : Int) / 2))).setCell ⟨w.heap.size, 3, none⟩ (.int .i64 ((a2 : Int) % 2))).setCell ⟨w.heap.size, 4, none⟩ (.int .i64 ((a3 : Int) - 1))).setCell ⟨w.heap.size, 5, none⟩ (.int .i64 a4)) := (Cu.past (Cu.past (Cu.past (Cu.past (Cu.past (Cu.past HC5.out hbg _) hbg _) hbg _) hbg _) hbg _) hbg _)
  have hgx : w.grownBy ((((((w5.setCell ⟨w.heap.size, 0, none⟩ (.int .i64 ((a1 : Int) / 2))).setCell ⟨w.heap.size, 1, none⟩ (.int .i64 ((a1 : Int) % 2))).setCell ⟨w.heap.size, 2, none⟩ (.int .i64 ((a2 : Int) / 2))).setCell ⟨w.heap.size, 3, none⟩ (.int .i64 ((a2 : Int) % 2))).setCell ⟨w.heap.size, 4, none⟩ (.int .i64 ((a3 : Int) - 1))).setCell ⟨w.heap.size, 5, none⟩ (.int .i64 a4)) (some b) := (grown_new (grown_new (grown_new (grown_new (grown_new (grown_new HG5.out (Nat.le_refl _) _) (Nat.le_refl _) _) (Nat.le_refl _) _) (Nat.le_refl _) _) (Nat.le_refl _) _) (Nat.le_refl _) _)
  have HCX := Lib.hid hcx
  have HGX := Lib.hid hgx
  clear hcx hgx d0 f0 d1 f1 d2 f2 d3 f3 d4 f4 d5 f5 HC5 HG5 HBK
  generalize ((((((w5.setCell ⟨w.heap.size, 0, none⟩ (.int .i64 ((a1 : Int) / 2))).setCell ⟨w.heap.size, 1, none⟩ (.int .i64 ((a1 : Int) % 2))).setCell ⟨w.heap.size, 2, none⟩ (.int .i64 ((a2 : Int) / 2))).setCell ⟨w.heap.size, 3, none⟩ (.int .i64 ((a2 : Int) % 2))).setCell ⟨w.heap.size, 4, none⟩ (.int .i64 ((a3 : Int) - 1))).setCell ⟨w.heap.size, 5, none⟩ (.int .i64 a4)) = X at *
  have e0 : X.cell? ⟨w.heap.size, 0, none⟩ = some (.int .i64 ((a1 : Int) / 2)) := Lib.cell_of_heap hfin 0
  have e1 : X.cell? ⟨w.heap.size, 1, none⟩ = some (.int .i64 ((a1 : Int) % 2)) := Lib.cell_of_heap hfin 1
  have e2 : X.cell? ⟨w.heap.size, 2, none⟩ = some (.int .i64 ((a2 : Int) / 2)) := Lib.cell_of_heap hfin 2
  have e3 : X.cell? ⟨w.heap.size, 3, none⟩ = some (.int .i64 ((a2 : Int) % 2)) := Lib.cell_of_heap hfin 3
  have e4 : X.cell? ⟨w.heap.size, 4, none⟩ = some (.int .i64 ((a3 : Int) - 1)) := Lib.cell_of_heap hfin 4
  have e5 : X.cell? ⟨w.heap.size, 5, none⟩ = some (.int .i64 a4) := Lib.cell_of_heap hfin 5
  clear hfin
  refine bodyPost_ret (v := .agg #[.int .i64 ((a1 : Int) / 2), .int .i64 ((a1 : Int) % 2), .int .i64 ((a2 : Int) / 2), .int .i64 ((a2 : Int) % 2), .int .i64 ((a3 : Int) - 1), .int .i64 a4]) ?_ rfl ?_
  · simp [results, Try.results70, go_sem, e0, e1, e2, e3, e4, e5]
  · exact ⟨by rw [HE.out]; rfl, by rw [HE.out]; exact HCX.out, HGX.out⟩
end Go.Proofs.Ytepbdcnjhbaehaa.Crd

namespace Go.Proofs.Ytepbdcnjhbaehaa.Reach
open Go.ChangeShapes Go.WideShapes Go.ChangeAt Go.RowKit Wd Bin Lay Recs PEnds _root_.Go.Proofs.Ytepbdcnjhbaehaa.Cur Crd
set_option linter.unusedVariables false

/-- what a call leaves that has read a list of its own -/
def ListPost {α : Type} (R : Rec α) (t : TypeId) (b : Nat) (s : ByteArray) (n : Nat) (r : List α × Bin.Cur) (w : World) (e : Ending) (w' : World) : Prop :=
  ∃ A c, e = .returned (.slice A n c) ∧ Own R w' w.heap.size (.slice A n c) n r.1 ∧ Cu t b s r.2 w' ∧ w.grownBy w' (some b)
theorem many_succ {α : Type} (A : Rdr α) (n : Nat) (s : Bs) (c : Bin.Cur) : many A (n + 1) s c = ((many A n s c).1 ++ [(A s (many A n s c).2).1], (A s (many A n s c).2).2) := rfl
theorem many_len {α : Type} (A : Rdr α) (s : Bs) (c : Bin.Cur) : ∀ n, (many A n s c).1.length = n
  | 0 => rfl
  | n + 1 => by rw [many_succ]; simp [many_len A s c n]
theorem many_pos {α : Type} {A : Rdr α} (hA : ∀ s c, c.1 ≤ s.length → (A s c).2.1 ≤ s.length) (s : Bs) (c : Bin.Cur) (hc : c.1 ≤ s.length) : ∀ n, (many A n s c).2.1 ≤ s.length
  | 0 => hc
  | n + 1 => by rw [many_succ]; exact hA s _ (many_pos hA s c hc n)
theorem pos_num (n : Nat) (s : Bs) (c : Bin.Cur) (h : c.1 ≤ s.length) : (rdNum n s c).2.1 ≤ s.length := item_pos h
theorem pos_name (s : Bs) (c : Bin.Cur) (h : c.1 ≤ s.length) : (rdName s c).2.1 ≤ s.length := item_pos h
theorem pos_bnd {α β : Type} {A : Rdr α} {f : α → Rdr β} (hA : ∀ s c, c.1 ≤ s.length → (A s c).2.1 ≤ s.length) (hf : ∀ a s c, c.1 ≤ s.length → (f a s c).2.1 ≤ s.length) (s : Bs) (c : Bin.Cur) (h : c.1 ≤ s.length) : (bnd A f s c).2.1 ≤ s.length := hf _ s _ (hA s c h)
theorem pos_ret {α : Type} (a : α) (s : Bs) (c : Bin.Cur) (h : c.1 ≤ s.length) : ((ret a : Rdr α) s c).2.1 ≤ s.length := h
theorem pos_sec (s : Bs) (c : Bin.Cur) (h : c.1 ≤ s.length) : (rdSec s c).2.1 ≤ s.length :=
  pos_bnd pos_name (fun _ => pos_bnd (pos_num _) (fun _ => pos_bnd (pos_num _) (fun _ => pos_bnd (pos_num _) (fun _ => pos_bnd (pos_num _) (fun _ => pos_ret _))))) s c h
theorem pos_lnk (s : Bs) (c : Bin.Cur) (h : c.1 ≤ s.length) : (rdLnk s c).2.1 ≤ s.length :=
  pos_bnd (pos_num _) (fun _ => pos_bnd (pos_num _) (fun _ => pos_bnd (pos_num _) (fun _ => pos_bnd (pos_num _) (fun _ => pos_ret _)))) s c h
theorem grown_more {w wr w1 : World} {b : Nat} {row : Option Nat} (h : w.grownBy wr (some b)) (hg : wr.grownBy w1 row) (hr : ∀ k, row = some k → w.heap.size ≤ k) : w.grownBy w1 (some b) :=
  ⟨hg.os.trans h.os, hg.tape.trans h.tape, hg.output.trans h.output, Nat.le_trans h.size hg.size, fun k hk hne => (hg.block k (Nat.lt_of_lt_of_le hk h.size) (fun e => by have := hr k e.symm; omega)).trans (h.block k hk hne)⟩
theorem own_ne {α : Type} {R : Rec α} {w : World} {base b n : Nat} {v : Value} {L : List α} (h : Own R w base v n L) (hb : b < base) : v.ownBlock = none ∨ v.ownBlock ≠ some b := by
  cases hv : v.ownBlock with
  | none => exact .inl rfl
  | some g => exact .inr (fun e => by injection e with e; have := (h.2.lt g hv).1; omega)
theorem cu_append {t : TypeId} {b : Nat} {s : ByteArray} {c : Bin.Cur} {wr w1 : World} {row : Option Nat} {base : Nat} {o : Obj} (h : Cu t b s c wr) (hg : (wr.alloc o).grownBy w1 row) (hr : ∀ k, row = some k → base ≤ k) (hb : b < base) : Cu t b s c w1 :=
  (h.kept (row := none) (World.grownBy_alloc wr o none) (by simp)).kept hg (fun e => by have := hr b e.symm; omega)

set_option maxRecDepth 100000 in
set_option maxHeartbeats 2000000 in
theorem each_name (b n : Nat) (s : ByteArray) (c : Bin.Cur) (w : World) (h : Cu 87 b s c w) (hc : c.1 ≤ (bs s).length) (hn : n ≤ 255) (hs : s.size ≤ 9223372036854775807) :
    Calls Try.prog 65 #[.int .i64 n, .func (.func 66) #[.pointer (some ⟨b, 0, none⟩)] #[]] w (ListPost sR 87 b s n (many rdName n (bs s) c) w) := by
  obtain ⟨ih, hih, hz0, hz1, hz2⟩ := info_parts RNames.infoS
  have hbw := h.lt
  have H0 := Lib.hid h
  have HP := Lib.hid (fun k => many_pos pos_name (bs s) c hc k)
  have HL := Lib.hid (fun k => many_len rdName (bs s) c k)
  clear h
  go_enter Try.func65, Try.ntmps65
  go_wp2
  go_loopw [5, 7] (fun v i wr => ∃ (k : Nat) (A : Option Addr) (cc : Nat), k ≤ n ∧ i = .int .i64 k ∧ v = .slice A k cc ∧ Own sR wr w.heap.size (.slice A k cc) k (many rdName k (bs s) c).1 ∧ Cu 87 b s (many rdName k (bs s) c).2 wr ∧ w.grownBy wr (some b)) (fun _ i _ => n - (intOf i).toNat)
  case atStart => exact ⟨0, none, 0, Nat.zero_le _, rfl, rfl, Own.nil _ _, H0.out, World.grownBy.refl w _⟩
  case round =>
    obtain ⟨k, A, cc, hk, rfl, rfl, hO, hC, hg⟩ := hrel
    have hz := hg.size
    by_cases hlt : k < n
    · have hkn : (k : Int) < (n : Int) := by omega
      have HN := Lib.hid (name_eq b s _ _ wr rfl hC (HP.out k) hs)
      obtain ⟨x, hx⟩ : ∃ x, rdName (bs s) (many rdName k (bs s) c).2 = x := ⟨_, rfl⟩
      have HM : Hid (many rdName (k + 1) (bs s) c = ((many rdName k (bs s) c).1 ++ [x.1], x.2)) := by rw [Hid, many_succ, hx]
      rw [hx] at HN
      obtain ⟨L, hL⟩ : ∃ L, (many rdName k (bs s) c).1 = L := ⟨_, rfl⟩
      rw [hL] at HM hO
      have HO := Lib.hid hO
      have HG := Lib.hid hg
      have hn63 : k + 1 ≤ maxLen := by unfold maxLen; omega
      have hby : (k + 1) * 16 ≤ 140737488355328 := by omega
      obtain ⟨x1, c'⟩ := x
      simp only at HN HM
      clear hO hC hg hx hL
      go_wp2_with fail
      refine HN.out.mono ?_
      rintro e wq ⟨rfl, hcq, hgq⟩
      have hzq := hgq.size
      have HOq := Lib.hid (HO.out.grown hgq (own_ne HO.out hbw))
      have HCq := Lib.hid hcq
      have HGq := Lib.hid (HG.out.trans hgq)
      clear hcq hgq HN HO HG
      go_wp2_with (at_builtin; refine wpList_append_own _ rfl _ _ 25 rfl w.heap.size 9 ih _ 1 16 Try.underlying25 hih hz0 hz1 hz2 rfl (by omega) (.slice A k cc) k (sR.cs L) rfl (HOq.out.2.alloc _) ⟨wq.heap.size, 0, none⟩ 1 1 [.string (str x1)] rfl rfl (World.news_of_block (cs := #[.string (str x1)]) (t := 9) (fr := (0, 0)) (heap_alloc_new _ _)) (by simp [Value.oneCell']) hn63 hby (by simp; omega) ?_)
      intro v w7 hown7 hgrow7 _
      have hO7 := Own.push (R := sR) (a := x1) HOq.out.1 hown7
      obtain ⟨A', c7, rfl, _⟩ := hO7.form
      have hgl : ∀ k', (Value.slice A k cc).ownBlock = some k' → w.heap.size ≤ k' := fun k' hk' => (HOq.out.2.lt k' hk').1
      have HC7 := Lib.hid (cu_append HCq.out hgrow7 hgl hbw)
      have HG7 := Lib.hid (grown_more (grown_alloc HGq.out _) hgrow7 hgl)
      have HO7 : Hid (Own sR w7 w.heap.size (.slice A' (k + 1) c7) (k + 1) (many rdName (k + 1) (bs s) c).1) := by rw [Hid, HM.out]; exact hO7
      have HC8 : Hid (Cu 87 b s (many rdName (k + 1) (bs s) c).2 w7) := by rw [Hid, HM.out]; exact HC7.out
      clear hO7 hown7 hgrow7 hgl
      go_wp2_with fail
      go_roundw
      case rel => exact ⟨k + 1, A', c7, by omega, by go_num, rfl, HO7.out, HC8.out, HG7.out⟩
      case measure => simp [intOf]; omega
    · have hkn : ¬ (k : Int) < (n : Int) := by omega
      obtain rfl : k = n := by omega
      have HF : Hid (ListPost sR 87 b s k (many rdName k (bs s) c) w (.returned (.slice A k cc)) wr) := ⟨A, cc, rfl, hO, hC, hg⟩
      clear hO hC hg
      go_wp2
      go_ret
      exact HF.out

set_option maxRecDepth 100000 in
set_option maxHeartbeats 2000000 in
theorem each_sec (b n : Nat) (s : ByteArray) (c : Bin.Cur) (w : World) (h : Cu 87 b s c w) (hc : c.1 ≤ (bs s).length) (hn : n ≤ 255) (hs : s.size ≤ 9223372036854775807) :
    Calls Try.prog 67 #[.int .i64 n, .func (.func 68) #[.pointer (some ⟨b, 0, none⟩)] #[]] w (ListPost secR 87 b s n (many rdSec n (bs s) c) w) := by
  obtain ⟨ih, hih, hz0, hz1, hz2⟩ := info_parts Bldr.infoSec
  have hbw := h.lt
  have H0 := Lib.hid h
  have HP := Lib.hid (fun k => many_pos pos_sec (bs s) c hc k)
  have HL := Lib.hid (fun k => many_len rdSec (bs s) c k)
  clear h
  go_enter Try.func67, Try.ntmps67
  go_wp2
  go_loopw [5, 7] (fun v i wr => ∃ (k : Nat) (A : Option Addr) (cc : Nat), k ≤ n ∧ i = .int .i64 k ∧ v = .slice A k cc ∧ Own secR wr w.heap.size (.slice A k cc) k (many rdSec k (bs s) c).1 ∧ Cu 87 b s (many rdSec k (bs s) c).2 wr ∧ w.grownBy wr (some b)) (fun _ i _ => n - (intOf i).toNat)
  case atStart => exact ⟨0, none, 0, Nat.zero_le _, rfl, rfl, Own.nil _ _, H0.out, World.grownBy.refl w _⟩
  case round =>
    obtain ⟨k, A, cc, hk, rfl, rfl, hO, hC, hg⟩ := hrel
    have hz := hg.size
    by_cases hlt : k < n
    · have hkn : (k : Int) < (n : Int) := by omega
      have HN := Lib.hid (section_any b s _ wr hC (HP.out k) hs)
      obtain ⟨x, hx⟩ : ∃ x, rdSec (bs s) (many rdSec k (bs s) c).2 = x := ⟨_, rfl⟩
      have HM : Hid (many rdSec (k + 1) (bs s) c = ((many rdSec k (bs s) c).1 ++ [x.1], x.2)) := by rw [Hid, many_succ, hx]
      rw [hx] at HN
      obtain ⟨L, hL⟩ : ∃ L, (many rdSec k (bs s) c).1 = L := ⟨_, rfl⟩
      rw [hL] at HM hO
      have HO := Lib.hid hO
      have HG := Lib.hid hg
      have hn63 : k + 1 ≤ maxLen := by unfold maxLen; omega
      have hby : (k + 1) * 48 ≤ 140737488355328 := by omega
      obtain ⟨⟨xn, xl, xm, xg, xs⟩, c'⟩ := x
      simp only [secV] at HN HM
      clear hO hC hg hx hL
      go_wp2_with fail
      refine HN.out.mono ?_
      rintro e wq ⟨rfl, hcq, hgq⟩
      have hzq := hgq.size
      have HOq := Lib.hid (HO.out.grown hgq (own_ne HO.out hbw))
      have HCq := Lib.hid hcq
      have HGq := Lib.hid (HG.out.trans hgq)
      clear hcq hgq HN HO HG
      go_wp2_with (at_builtin; refine wpList_append_own _ rfl _ _ 26 rfl w.heap.size 66 ih _ 5 48 Try.underlying26 hih hz0 hz1 hz2 rfl (by omega) (.slice A k cc) k (secR.cs L) rfl (HOq.out.2.alloc _) ⟨wq.heap.size, 0, none⟩ 1 1 [.string (str xn), .int .i64 xl, .int .i64 xm, .int .i64 xg, .int .i64 xs] rfl rfl (World.news_of_block (cs := #[.string (str xn), .int .i64 xl, .int .i64 xm, .int .i64 xg, .int .i64 xs]) (t := 66) (fr := (0, 0)) (heap_alloc_new _ _)) (by simp [Value.oneCell']) hn63 hby (by simp; omega) ?_)
      intro v w7 hown7 hgrow7 _
      have hO7 := Own.push (R := secR) (a := ⟨xn, xl, xm, xg, xs⟩) HOq.out.1 hown7
      obtain ⟨A', c7, rfl, _⟩ := hO7.form
      have hgl : ∀ k', (Value.slice A k cc).ownBlock = some k' → w.heap.size ≤ k' := fun k' hk' => (HOq.out.2.lt k' hk').1
      have HC7 := Lib.hid (cu_append HCq.out hgrow7 hgl hbw)
      have HG7 := Lib.hid (grown_more (grown_alloc HGq.out _) hgrow7 hgl)
      have HO7 : Hid (Own secR w7 w.heap.size (.slice A' (k + 1) c7) (k + 1) (many rdSec (k + 1) (bs s) c).1) := by rw [Hid, HM.out]; exact hO7
      have HC8 : Hid (Cu 87 b s (many rdSec (k + 1) (bs s) c).2 w7) := by rw [Hid, HM.out]; exact HC7.out
      clear hO7 hown7 hgrow7 hgl
      go_wp2_with fail
      go_roundw
      case rel => exact ⟨k + 1, A', c7, by omega, by go_num, rfl, HO7.out, HC8.out, HG7.out⟩
      case measure => simp [intOf]; omega
    · have hkn : ¬ (k : Int) < (n : Int) := by omega
      obtain rfl : k = n := by omega
      have HF : Hid (ListPost secR 87 b s k (many rdSec k (bs s) c) w (.returned (.slice A k cc)) wr) := ⟨A, cc, rfl, hO, hC, hg⟩
      clear hO hC hg
      go_wp2
      go_ret
      exact HF.out

set_option maxRecDepth 100000 in
set_option maxHeartbeats 2000000 in
theorem each_lnk (b n : Nat) (s : ByteArray) (c : Bin.Cur) (w : World) (h : Cu 87 b s c w) (hc : c.1 ≤ (bs s).length) (hn : n ≤ 255) (hs : s.size ≤ 9223372036854775807) :
    Calls Try.prog 69 #[.int .i64 n, .func (.func 70) #[.pointer (some ⟨b, 0, none⟩)] #[]] w (ListPost lnkR 87 b s n (many rdLnk n (bs s) c) w) := by
  obtain ⟨ih, hih, hz0, hz1, hz2⟩ := info_parts Bldr.infoLnk
  have hbw := h.lt
  have H0 := Lib.hid h
  have HP := Lib.hid (fun k => many_pos pos_lnk (bs s) c hc k)
  have HL := Lib.hid (fun k => many_len rdLnk (bs s) c k)
  clear h
  go_enter Try.func69, Try.ntmps69
  go_wp2
  go_loopw [5, 7] (fun v i wr => ∃ (k : Nat) (A : Option Addr) (cc : Nat), k ≤ n ∧ i = .int .i64 k ∧ v = .slice A k cc ∧ Own lnkR wr w.heap.size (.slice A k cc) k (many rdLnk k (bs s) c).1 ∧ Cu 87 b s (many rdLnk k (bs s) c).2 wr ∧ w.grownBy wr (some b)) (fun _ i _ => n - (intOf i).toNat)
  case atStart => exact ⟨0, none, 0, Nat.zero_le _, rfl, rfl, Own.nil _ _, H0.out, World.grownBy.refl w _⟩
  case round =>
    obtain ⟨k, A, cc, hk, rfl, rfl, hO, hC, hg⟩ := hrel
    have hz := hg.size
    by_cases hlt : k < n
    · have hkn : (k : Int) < (n : Int) := by omega
      have HN := Lib.hid (link_any b s _ wr hC (HP.out k) hs)
      obtain ⟨x, hx⟩ : ∃ x, rdLnk (bs s) (many rdLnk k (bs s) c).2 = x := ⟨_, rfl⟩
      have HM : Hid (many rdLnk (k + 1) (bs s) c = ((many rdLnk k (bs s) c).1 ++ [x.1], x.2)) := by rw [Hid, many_succ, hx]
      rw [hx] at HN
      obtain ⟨L, hL⟩ : ∃ L, (many rdLnk k (bs s) c).1 = L := ⟨_, rfl⟩
      rw [hL] at HM hO
      have HO := Lib.hid hO
      have HG := Lib.hid hg
      have hn63 : k + 1 ≤ maxLen := by unfold maxLen; omega
      have hby : (k + 1) * 48 ≤ 140737488355328 := by omega
      obtain ⟨⟨ya, yb, yc, yd, ye, yf⟩, c'⟩ := x
      simp only [lnkV] at HN HM
      clear hO hC hg hx hL
      go_wp2_with fail
      refine HN.out.mono ?_
      rintro e wq ⟨rfl, hcq, hgq⟩
      have hzq := hgq.size
      have HOq := Lib.hid (HO.out.grown hgq (own_ne HO.out hbw))
      have HCq := Lib.hid hcq
      have HGq := Lib.hid (HG.out.trans hgq)
      clear hcq hgq HN HO HG
      go_wp2_with (at_builtin; refine wpList_append_own _ rfl _ _ 27 rfl w.heap.size 70 ih _ 6 48 Try.underlying27 hih hz0 hz1 hz2 rfl (by omega) (.slice A k cc) k (lnkR.cs L) rfl (HOq.out.2.alloc _) ⟨wq.heap.size, 0, none⟩ 1 1 [.int .i64 ya, .int .i64 yb, .int .i64 yc, .int .i64 yd, .int .i64 ye, .int .i64 yf] rfl rfl (World.news_of_block (cs := #[.int .i64 ya, .int .i64 yb, .int .i64 yc, .int .i64 yd, .int .i64 ye, .int .i64 yf]) (t := 70) (fr := (0, 0)) (heap_alloc_new _ _)) (by simp [Value.oneCell']) hn63 hby (by simp; omega) ?_)
      intro v w7 hown7 hgrow7 _
      have hO7 := Own.push (R := lnkR) (a := ⟨ya, yb, yc, yd, ye, yf⟩) HOq.out.1 hown7
      obtain ⟨A', c7, rfl, _⟩ := hO7.form
      have hgl : ∀ k', (Value.slice A k cc).ownBlock = some k' → w.heap.size ≤ k' := fun k' hk' => (HOq.out.2.lt k' hk').1
      have HC7 := Lib.hid (cu_append HCq.out hgrow7 hgl hbw)
      have HG7 := Lib.hid (grown_more (grown_alloc HGq.out _) hgrow7 hgl)
      have HO7 : Hid (Own lnkR w7 w.heap.size (.slice A' (k + 1) c7) (k + 1) (many rdLnk (k + 1) (bs s) c).1) := by rw [Hid, HM.out]; exact hO7
      have HC8 : Hid (Cu 87 b s (many rdLnk (k + 1) (bs s) c).2 w7) := by rw [Hid, HM.out]; exact HC7.out
      clear hO7 hown7 hgrow7 hgl
      go_wp2_with fail
      go_roundw
      case rel => exact ⟨k + 1, A', c7, by omega, by go_num, rfl, HO7.out, HC8.out, HG7.out⟩
      case measure => simp [intOf]; omega
    · have hkn : ¬ (k : Int) < (n : Int) := by omega
      obtain rfl : k = n := by omega
      have HF : Hid (ListPost lnkR 87 b s k (many rdLnk k (bs s) c) w (.returned (.slice A k cc)) wr) := ⟨A, cc, rfl, hO, hC, hg⟩
      clear hO hC hg
      go_wp2
      go_ret
      exact HF.out
end Go.Proofs.Ytepbdcnjhbaehaa.Reach
