/-
  Contract of the program's function that appends a span to a list, or extends the last one.
-/
import Derived.Test.YtapflikdoiedeaaGather
import Derived.BigRegion
import Derived.Deep.DeepMust
namespace Go.Proofs.Ytapflikdoiedeaa.Join
open Go.ChangeShapes Go.WideShapes Go.ChangeAt Go.RowKit Plain Mem Nums Valid Errs Marks Gather
set_option linter.unusedVariables false

def JoinPost (B : Nat) (L : List Sp) (s : Sp) (w : World) (e : Ending) (w' : World) : Prop :=
  ∃ A n c, e = .returned (.slice A n c) ∧ Own w' B (.slice A n c) n (joined L s) ∧ Below B w w'

theorem join_any (B : Nat) (A : Option Addr) (n c : Nat) (L : List Sp) (s1 s2 : Int) (w : World) (hO : Own w B (.slice A n c) n L) (hB : B ≤ w.heap.size) (hn : n ≤ 1000000) :
    Calls Try.prog 55 #[.slice A n c, .agg #[.int .i64 s1, .int .i64 s2]] w (JoinPost B L (s1, s2) w) := by
  obtain ⟨i0, hi, hz0, hz1, hz2⟩ := info_parts info29
  have hl := Lib.hid hO.1
  by_cases hn0 : n = 0
  · have J : Hid (joined L (s1, s2) = L ++ [(s1, s2)]) := by
      have : L = [] := List.eq_nil_of_length_eq_zero (by rw [hO.1, hn0])
      subst this; rfl
    subst hn0
    have HO := Lib.hid hO
    clear hO
    go_enter Try.func55, Try.ntmps55
    go_wp2
    go_quiet (fail)
    rename_i nq
    have hbq : Below B w ((w.alloc (.cells #[.int .i64 s1, .int .i64 s2] 29)).drewN nq) := below_draws ((Below.refl _ _).alloc hB _) nq
    have hown : ((w.alloc (.cells #[.int .i64 s1, .int .i64 s2] 29)).drewN nq).ownsRow B 29 2 (.slice A 0 c) 0 (cs L) := ((HO.out.alloc _).drewN nq).2
    have c0 : ((w.alloc (.cells #[.int .i64 s1, .int .i64 s2] 29)).drewN nq).cell? ⟨w.heap.size, 0, none⟩ = some (.int .i64 s1) := by simp
    have c1 : ((w.alloc (.cells #[.int .i64 s1, .int .i64 s2] 29)).drewN nq).cell? ⟨w.heap.size, 1, none⟩ = some (.int .i64 s2) := by simp
    have hz := Nat.le_trans hB hbq.size
    generalize (w.alloc (.cells #[.int .i64 s1, .int .i64 s2] 29)).drewN nq = wq at *
    go_wp2_with (at_builtin; go_must (refine wpList_append_own _ rfl (.tmp 21) (.tmp 23) 22 rfl B 29 i0 _ 2 16 Try.underlying22 hi hz0 hz1 hz2 rfl (by omega) (.slice A 0 c) 0 (cs L) rfl (hown.alloc _) ⟨wq.heap.size, 0, none⟩ 1 1 [.int .i64 s1, .int .i64 s2] rfl rfl (new_pair _ _ _ _) (one_pair _ _) (by unfold maxLen; omega) (by omega) (by simp; omega) ?_))
    intro v w1 hown' hgrow _
    obtain ⟨A', c', rfl, hO', hb'⟩ := appended hbq hz hl.out hown hown' hgrow
    clear hown hown' hgrow
    go_wp2
    go_ret
    exact ⟨A', 0 + 1, c', rfl, by rw [J.out]; exact hO', hb'⟩
  · obtain ⟨q, rfl⟩ : ∃ q, n = q + 1 := ⟨n - 1, by omega⟩
    obtain ⟨M, p, rfl⟩ := snoc_of L (fun e => by rw [e] at hl; have := hl.out; simp at this)
    obtain ⟨b, rfl, hb1, hb2, d0, d1, d2⟩ := hO.last
    obtain ⟨p1, p2⟩ := p
    simp only at d0 d1
    have HO := Lib.hid hO
    clear hO
    have e0 : (w.alloc (.cells #[.int .i64 s1, .int .i64 s2] 29)).cell? ⟨b, q * 2 + 1, none⟩ = some (.int .i64 p2) := by rw [World.cell?_alloc_lt _ _ _ (by simp only; omega)]; exact d1
    have e1 : (w.alloc (.cells #[.int .i64 s1, .int .i64 s2] 29)).frozen? ⟨b, q * 2 + 1, none⟩ = false := by
      have hbb : Below w.heap.size w (w.alloc (.cells #[.int .i64 s1, .int .i64 s2] 29)) := (Below.refl _ _).alloc (Nat.le_refl _) _
      rw [hbb.frozen (by simp only; omega)]; exact d2
    clear d0 d1 d2
    have q0 : decide ((q : Int) < 0) = false := by simp
    have q1 : (0 : Int) ≤ (q : Int) := by omega
    have q2 : (q : Int) < (q : Int) + 1 := by omega
    by_cases t1 : p2 < s1
    · have J := Lib.hid (joined_far M (p1, p2) (s1, s2) t1)
      go_enter Try.func55, Try.ntmps55
      go_wp2
      go_quiet (fail)
      rename_i nq
      have hbq : Below B w ((w.alloc (.cells #[.int .i64 s1, .int .i64 s2] 29)).drewN nq) := below_draws ((Below.refl _ _).alloc hB _) nq
      have hown : ((w.alloc (.cells #[.int .i64 s1, .int .i64 s2] 29)).drewN nq).ownsRow B 29 2 (.slice (some ⟨b, 0, none⟩) (q + 1) c) (q + 1) (cs (M ++ [(p1, p2)])) := ((HO.out.alloc _).drewN nq).2
      have c0 : ((w.alloc (.cells #[.int .i64 s1, .int .i64 s2] 29)).drewN nq).cell? ⟨w.heap.size, 0, none⟩ = some (.int .i64 s1) := by simp
      have c1 : ((w.alloc (.cells #[.int .i64 s1, .int .i64 s2] 29)).drewN nq).cell? ⟨w.heap.size, 1, none⟩ = some (.int .i64 s2) := by simp
      have hz := Nat.le_trans hB hbq.size
      clear e0 e1
      generalize (w.alloc (.cells #[.int .i64 s1, .int .i64 s2] 29)).drewN nq = wq at *
      go_wp2_with (at_builtin; go_must (refine wpList_append_own _ rfl (.tmp 21) (.tmp 23) 22 rfl B 29 i0 _ 2 16 Try.underlying22 hi hz0 hz1 hz2 rfl (by omega) (.slice (some ⟨b, 0, none⟩) (q + 1) c) (q + 1) (cs (M ++ [(p1, p2)])) rfl (hown.alloc _) ⟨wq.heap.size, 0, none⟩ 1 1 [.int .i64 s1, .int .i64 s2] rfl rfl (new_pair _ _ _ _) (one_pair _ _) (by unfold maxLen; omega) (by omega) (by simp; omega) ?_))
      intro v w1 hown' hgrow _
      obtain ⟨A', c', rfl, hO', hb'⟩ := appended hbq hz hl.out hown hown' hgrow
      clear hown hown' hgrow
      go_wp2
      go_ret
      exact ⟨A', q + 1 + 1, c', rfl, by rw [J.out]; exact hO', hb'⟩
    · have J := Lib.hid (joined_near M (p1, p2) (s1, s2) t1)
      have dt : decide (p2 < s1) = false := by simpa using t1
      go_enter Try.func55, Try.ntmps55
      go_wp2
      go_quiet (fail)
      rename_i nq
      have hbq : Below B w ((w.alloc (.cells #[.int .i64 s1, .int .i64 s2] 29)).drewN nq) := below_draws ((Below.refl _ _).alloc hB _) nq
      have hown : Own ((w.alloc (.cells #[.int .i64 s1, .int .i64 s2] 29)).drewN nq) B (.slice (some ⟨b, 0, none⟩) (q + 1) c) (q + 1) (M ++ [(p1, p2)]) := ((HO.out.alloc _).drewN nq)
      have c0 : ((w.alloc (.cells #[.int .i64 s1, .int .i64 s2] 29)).drewN nq).cell? ⟨w.heap.size, 0, none⟩ = some (.int .i64 s1) := by simp
      have c1 : ((w.alloc (.cells #[.int .i64 s1, .int .i64 s2] 29)).drewN nq).cell? ⟨w.heap.size, 1, none⟩ = some (.int .i64 s2) := by simp
      have f0 : ((w.alloc (.cells #[.int .i64 s1, .int .i64 s2] 29)).drewN nq).cell? ⟨b, q * 2 + 1, none⟩ = some (.int .i64 p2) := e0
      have f1 : ((w.alloc (.cells #[.int .i64 s1, .int .i64 s2] 29)).drewN nq).frozen? ⟨b, q * 2 + 1, none⟩ = false := e1
      clear e0 e1
      generalize (w.alloc (.cells #[.int .i64 s1, .int .i64 s2] 29)).drewN nq = wq at *
      have HW := Lib.hid hown
      clear hown
      go_wp2
      go_region
      all_goals go_wp2
      all_goals go_ret
      · refine ⟨_, _, c, rfl, ?_, (hbq.setCell hb1 _).drew⟩
        rw [J.out, show max p2 s2 = s2 from by omega]
        exact (HW.out.put s2).drewN 1
      · refine ⟨_, _, c, rfl, ?_, (hbq.setCell hb1 _).drew⟩
        rw [J.out, show max p2 s2 = p2 from by omega]
        exact (HW.out.put p2).drewN 1

end Go.Proofs.Ytapflikdoiedeaa.Join
