/-
  Contract of the program's function that adds a span to each span of a list.
-/
import Derived.Test.YtapflikdoiedeaaFold
namespace Go.Proofs.Ytapflikdoiedeaa.AddSpan
open Go.ChangeShapes Go.WideShapes Go.ChangeAt Go.RowKit Plain Mem Nums Valid Errs Marks Gather Join Unite Fold
set_option linter.unusedVariables false

def addL (s : Sp) (L : List Sp) : List Sp := L.map fun p => (p.1 + s.1, p.2 + s.2 - 1)
def AddPost (B : Nat) (s : Sp) (L : List Sp) (w : World) (e : Ending) (w' : World) : Prop := ∃ A n c, e = .returned (.slice A n c) ∧ Own w' B (.slice A n c) n (addL s L) ∧ Below B w w'

theorem addL_take (s : Sp) (L : List Sp) (k : Nat) (p : Sp) (h : L[k]? = some p) : addL s (L.take (k + 1)) = addL s (L.take k) ++ [(p.1 + s.1, p.2 + s.2 - 1)] := by
  have hk : k < L.length := (List.getElem?_eq_some_iff.1 h).1
  have e : L[k] = p := (List.getElem?_eq_some_iff.1 h).2
  rw [List.take_succ_eq_append_getElem hk, e]
  simp [addL]

theorem add_any (t : Int) (A : Option Addr) (n c : Nat) (L : List Sp) (s1 s2 : Int) (w : World) (ht : t ≤ 7200) (hS : Spans w w.heap.size A n L) (hn : n ≤ 50000) (hL : vf 0 t L = true) (hs : 0 ≤ s1 ∧ s1 < s2 ∧ s2 ≤ 7201) :
    Calls Try.prog 46 #[.slice A n c, .agg #[.int .i64 s1, .int .i64 s2]] w (AddPost w.heap.size (s1, s2) L w) := by
  obtain ⟨i0, hi, hz0, hz1, hz2⟩ := info_parts info29
  have HS := Lib.hid hS
  have HL := Lib.hid hL
  clear hS hL
  go_enter Try.func46, Try.ntmps46
  go_wp2_with (refine wpList_make_own _ rfl _ _ 22 rfl (w.heap.size + 1) 29 i0 _ 2 Try.underlying22 hi hz0 hz1 .i64 .i64 _ n rfl rfl (by omega) (by rw [hz2]; omega) (by unfold maxLen; omega) (by simp) ?_)
  intro w1 hown hgrow
  have hO : Own w1 (w.heap.size + 1) (.slice (some ⟨w.heap.size + 1, 0, none⟩) 0 n) 0 [] := by
    refine ⟨rfl, ?_⟩
    have := hown
    simp only [cs]
    simpa using this
  have hb0 : Below w.heap.size w (w.alloc (.cells #[.int .i64 s1, .int .i64 s2] 29)) := (Below.refl _ _).alloc (Nat.le_refl _) _
  have hbw : Below (w.heap.size + 1) (w.alloc (.cells #[.int .i64 s1, .int .i64 s2] 29)) w1 := (Below.refl _ _).grown hgrow (by simp) (by simp)
  have b0 : (w.alloc (.cells #[.int .i64 s1, .int .i64 s2] 29)).cell? ⟨w.heap.size, 0, none⟩ = some (.int .i64 s1) := by simp
  have b1 : (w.alloc (.cells #[.int .i64 s1, .int .i64 s2] 29)).cell? ⟨w.heap.size, 1, none⟩ = some (.int .i64 s2) := by simp
  have hz0' : w.heap.size + 1 ≤ w1.heap.size := by have := hbw.size; simpa using this
  generalize w.alloc (.cells #[.int .i64 s1, .int .i64 s2] 29) = w0 at *
  clear hown hgrow
  go_wp2
  go_loopw [5, 13] (fun u i wr => ∃ (k : Nat) (A1 : Option Addr) (c1 : Nat), k ≤ n ∧ i = .int .i64 k ∧ u = .slice A1 k c1 ∧ Own wr (w.heap.size + 1) (.slice A1 k c1) k (addL (s1, s2) (L.take k)) ∧ w.heap.size + 1 ≤ wr.heap.size ∧ Below (w.heap.size + 1) w0 wr) (fun _ i _ => n - (intOf i).toNat)
  case atStart => exact ⟨0, _, _, Nat.zero_le _, rfl, rfl, hO, hz0', hbw⟩
  case round =>
    obtain ⟨k, A1, c1, hk, rfl, rfl, hO1, hz, hbr⟩ := hrel
    have hbr2 : Below w.heap.size w wr := hb0.trans (hbr.mono (by omega))
    by_cases hlt : k < n
    · obtain ⟨ad, p, rfl, hab, hp, d0, d1⟩ := (HS.out.below hbr2).load hlt
      have hpv := vf_get 0 t L k p HL.out hp
      have HT := Lib.hid (addL_take (s1, s2) L k p hp)
      clear hp
      obtain ⟨p1, p2⟩ := p
      simp only at d0 d1 hpv HT
      have e0 : wr.cell? ⟨w.heap.size, 0, none⟩ = some (.int .i64 s1) := (hbr.cell (by simp)).trans b0
      have e1 : wr.cell? ⟨w.heap.size, 1, none⟩ = some (.int .i64 s2) := (hbr.cell (by simp)).trans b1
      have f0 : (wr.alloc (.cells #[.int .i64 p1, .int .i64 p2] 29)).cell? ⟨w.heap.size, 0, none⟩ = some (.int .i64 s1) := by rw [World.cell?_alloc_lt _ _ _ (by simp only; omega)]; exact e0
      have f1 : (wr.alloc (.cells #[.int .i64 p1, .int .i64 p2] 29)).cell? ⟨w.heap.size, 1, none⟩ = some (.int .i64 s2) := by rw [World.cell?_alloc_lt _ _ _ (by simp only; omega)]; exact e1
      have HO1 := Lib.hid hO1
      have hown := (hO1.alloc (.cells #[.int .i64 p1, .int .i64 p2] 29)).2
      clear hO1 e0 e1
      go_wp2_with (at_builtin; go_must (refine wpList_append_own _ rfl (.tmp 17) (.tmp 30) 22 rfl (w.heap.size + 1) 29 i0 _ 2 16 Try.underlying22 hi hz0 hz1 hz2 rfl (by omega) (.slice A1 k c1) k (cs (addL (s1, s2) (L.take k))) rfl (hown.alloc _) ⟨wr.heap.size + 1, 0, none⟩ 1 1 [.int .i64 (p1 + s1), .int .i64 (p2 + s2 - 1)] rfl rfl (new_pair2 _ _ _ _ _) (one_pair _ _) (by unfold maxLen; omega) (by omega) (by simp; omega) ?_))
      intro v w2 hown' hgrow _
      obtain ⟨A', c', rfl, hO', hb'⟩ := appended (hbr.alloc hz _) (by simp; omega) HO1.out.1 hown hown' hgrow
      rw [← HT.out] at hO'
      have hz2' : w.heap.size + 1 ≤ w2.heap.size := by have := hgrow.size; simp at this; omega
      clear hown hown' hgrow f0 f1
      go_wp2
      go_roundw
      case rel => exact ⟨k + 1, A', c', by omega, by go_num, rfl, hO', hz2', hb'⟩
      case measure => simp [intOf]; omega
    · have R : Hid (Own wr w.heap.size (.slice A1 k c1) k (addL (s1, s2) L)) := by
        have h := hO1
        rw [List.take_of_length_le (by have := HS.out.1; omega)] at h
        exact h.base_ (by omega)
      clear hO1
      go_wp2
      go_ret
      exact ⟨A1, k, c1, rfl, R.out, hbr2⟩

end Go.Proofs.Ytapflikdoiedeaa.AddSpan
