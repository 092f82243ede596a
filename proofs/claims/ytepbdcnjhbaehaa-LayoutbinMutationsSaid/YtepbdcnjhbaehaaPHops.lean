/-
  Contract of the program's function that finds the hops of a step.
-/
import Derived.Test.YtepbdcnjhbaehaaPStep
import Derived.Deep.RegionHeld3
import Derived.Deep.AppendLies
namespace Go.Proofs.Ytepbdcnjhbaehaa.PHops
open Go.ChangeShapes Go.WideShapes Go.ChangeAt Go.RowKit Wd Small Mem Lay LayT Recs Keep Names PNames PSecs PLinks PEnds PTab PLnk PCheck PStep
set_option linter.unusedVariables false

/-- the hops, as the call answers them -/
def hopsOf (l : Lay) (s : Lay.Step) : List Hop := if hasB l s = true then hops l.links s else []
theorem run_eq_end (a b c d : Int) (w : World) : (binOp .eql 121 (.agg #[.int .i64 a, .int .i64 b]) (.agg #[.int .i64 c, .int .i64 d])).run Try.prog w = .ok (.bool (a == c && b == d)) w := by
  cases h1 : (a == c) <;> cases h2 : (b == d)
  all_goals simp at h1 h2
  all_goals simp [go_sem, run_equalIn_struct, Program.fieldsOf, Try.underlying121, h1, h2]

/-- the comparison of two ends, for the walk: one test, whose answer is known -/
theorem wpList_eq_end (w : World) {ops : Array Oper} {rest : List Oper} {o : Oper} {act : Act} {Q : Exit → Act → World → Prop} (hg : o.guard = none) (m x : Operand) (hop : o.op = Op.binOp BinOp.eql 121 m x 121) (a b c d : Int) (r : Bool) (hr : (a == c && b == d) = r)
    (hm : act.eval m = .agg #[.int .i64 a, .int .i64 b]) (hx : act.eval x = .agg #[.int .i64 c, .int .i64 d]) (hK : wpList Try.prog ops Q rest (act.put o.dst (.bool r)) w) : wpList Try.prog ops Q (o :: rest) act w := by
  refine wpList_plain hg fun K' hK' => ?_
  have hrun := run_eq_end a b c d w
  rw [hr] at hrun
  unfold Oper.wp execOp
  rw [hop]
  dsimp only
  rw [hm, hx]
  have hgd : (eqGuard BinOp.eql 121 m x (.agg #[.int .i64 a, .int .i64 b]) (.agg #[.int .i64 c, .int .i64 d])).run Try.prog w = .ok () w := by
    simp [go_sem, eqGuard]
  simp only [Sem.run_bind, hgd, Result.andThen_ok, hrun, Sem.run_pure]
  exact hK' _ _ hK

theorem hops_step {L : List Lnk} {k : Nat} {x : Lnk} (s : Lay.Step) (h : L[k]? = some x) : hops (L.take (k + 1)) s = hops (L.take k) s ++ if has x (out s) = true then [hopOf (out s) x] else [] := by
  rw [take_succ h]
  unfold hops
  rw [List.filter_append, List.map_append]
  by_cases hx : has x (out s) = true
  · rw [if_pos hx]; simp [hx]
  · rw [if_neg hx]; simp [hx]

theorem pinto_into {a b : Int} (h : b = 0 ∨ b = 1) : pinto a b = into (a, b) := by
  rcases h with rfl | rfl <;> rfl
/-- one more link: it leaves at its first end -/
theorem hops_a {L : List Lnk} {k : Nat} {ka kae kb kbe kpt kps o1 o2 : Int} {s : Lay.Step} {n p : Nat} (h : hops (L.take (k + 1)) s = hops (L.take k) s ++ if has ⟨ka, kae, kb, kbe, kpt, kps⟩ (out s) = true then [hopOf (out s) ⟨ka, kae, kb, kbe, kpt, kps⟩] else []) (ho : out s = (o1, o2)) (hq : (o1 == ka && o2 == kae) = true)
    (hi : inr n p ⟨ka, kae, kb, kbe, kpt, kps⟩ = true) : hops (L.take k) s ++ [⟨pinto kb kbe, kpt, kps⟩] = hops (L.take (k + 1)) s := by
  obtain ⟨g1, g2, g3, g4, g5, g6, g7, g8, g9, g10, g11, g12, g13⟩ := inr_range hi
  simp only at g7 g8
  simp only [Bool.and_eq_true, beq_iff_eq] at hq
  rw [h, ho, pinto_into (by omega)]
  have hx : (⟨ka, kae, kb, kbe, kpt, kps⟩ : Lnk).x = (o1, o2) := by simp only [Lnk.x, hq.1, hq.2]
  rw [if_pos (by rw [has_iff]; exact .inl hx)]
  unfold hopOf other
  rw [if_pos hx]
  rfl
/-- one more link: it leaves at its second end -/
theorem hops_b {L : List Lnk} {k : Nat} {ka kae kb kbe kpt kps o1 o2 : Int} {s : Lay.Step} {n p : Nat} (h : hops (L.take (k + 1)) s = hops (L.take k) s ++ if has ⟨ka, kae, kb, kbe, kpt, kps⟩ (out s) = true then [hopOf (out s) ⟨ka, kae, kb, kbe, kpt, kps⟩] else []) (ho : out s = (o1, o2)) (hq0 : (o1 == ka && o2 == kae) = false) (hq : (o1 == kb && o2 == kbe) = true)
    (hi : inr n p ⟨ka, kae, kb, kbe, kpt, kps⟩ = true) : hops (L.take k) s ++ [⟨pinto ka kae, kpt, kps⟩] = hops (L.take (k + 1)) s := by
  obtain ⟨g1, g2, g3, g4, g5, g6, g7, g8, g9, g10, g11, g12, g13⟩ := inr_range hi
  simp only at g5 g6
  simp only [Bool.and_eq_true, beq_iff_eq] at hq
  rw [h, ho, pinto_into (by omega)]
  have hy : (⟨ka, kae, kb, kbe, kpt, kps⟩ : Lnk).y = (o1, o2) := by simp only [Lnk.y, hq.1, hq.2]
  have hx : (⟨ka, kae, kb, kbe, kpt, kps⟩ : Lnk).x ≠ (o1, o2) := by
    intro e
    simp only [Lnk.x, Prod.mk.injEq] at e
    rw [e.1, e.2] at hq0
    simp at hq0
  rw [if_pos (by rw [has_iff]; exact .inr hy)]
  unfold hopOf other
  rw [if_neg hx]
  rfl
/-- one more link: it has another end -/
theorem hops_c {L : List Lnk} {k : Nat} {ka kae kb kbe kpt kps o1 o2 : Int} {s : Lay.Step} (h : hops (L.take (k + 1)) s = hops (L.take k) s ++ if has ⟨ka, kae, kb, kbe, kpt, kps⟩ (out s) = true then [hopOf (out s) ⟨ka, kae, kb, kbe, kpt, kps⟩] else []) (ho : out s = (o1, o2)) (hq0 : (o1 == ka && o2 == kae) = false) (hq : (o1 == kb && o2 == kbe) = false) :
    hops (L.take k) s = hops (L.take (k + 1)) s := by
  rw [h, ho, if_neg, List.append_nil]
  rw [has_iff]
  rintro (e | e)
  · simp only [Lnk.x, Prod.mk.injEq] at e
    rw [e.1, e.2] at hq0; simp at hq0
  · simp only [Lnk.y, Prod.mk.injEq] at e
    rw [e.1, e.2] at hq; simp at hq

end Go.Proofs.Ytepbdcnjhbaehaa.PHops
