/-
  Facts of the intersection of two valid lists of spans, taken head by head. No program is named here.
-/
import Derived.Test.YtapflikdoiedeaaMath
namespace Go.Proofs.Ytapflikdoiedeaa.Plain
set_option linter.unusedVariables false

def meetC (C : List Sp) (p q : Sp) : List Sp := if max p.1 q.1 < min p.2 q.2 then C ++ [(max p.1 q.1, min p.2 q.2)] else C

structure Meet (t : Int) (f : Int → Bool) (C La Lb : List Sp) : Prop where
  c : vf 0 t C = true
  a : ∃ b, 0 ≤ b ∧ vf b t La = true
  b : ∃ b, 0 ≤ b ∧ vf b t Lb = true
  e : ∃ e, nx 0 C ≤ e ∧ (vf e t La = true ∨ vf e t Lb = true)
  m : ∀ x, (mem C x || (mem La x && mem Lb x)) = f x

theorem Meet.start (t : Int) (La Lb : List Sp) (ha : vf 0 t La = true) (hb : vf 0 t Lb = true) : Meet t (fun x => mem La x && mem Lb x) [] La Lb :=
  ⟨rfl, ⟨0, Int.le_refl _, ha⟩, ⟨0, Int.le_refl _, hb⟩, ⟨0, Int.le_refl _, .inl ha⟩, fun x => by rw [mem_nil, Bool.false_or]⟩

theorem meet_vf {t : Int} {f : Int → Bool} {C r s : List Sp} {p q : Sp} (h : Meet t f C (p :: r) (q :: s)) : vf 0 t (meetC C p q) = true := by
  unfold meetC
  by_cases hc : max p.1 q.1 < min p.2 q.2
  · rw [if_pos hc]
    obtain ⟨e, he, hab⟩ := h.e
    obtain ⟨a0, _, ha⟩ := h.a
    rw [vf_cons] at ha
    refine (vf_snoc C 0 t _).2 ⟨h.c, ?_, hc, by simp only; omega⟩
    rcases hab with hab | hab
    · rw [vf_cons] at hab; simp only; omega
    · rw [vf_cons] at hab; simp only; omega
  · rw [if_neg hc]; exact h.c
theorem meet_mem (C : List Sp) (p q : Sp) (x : Int) : mem (meetC C p q) x = (mem C x || ((decide (p.1 ≤ x) && decide (x < p.2)) && (decide (q.1 ≤ x) && decide (x < q.2)))) := by
  unfold meetC
  by_cases hc : max p.1 q.1 < min p.2 q.2
  · rw [if_pos hc, mem_append, mem_one]
    congr 1
    rw [Bool.eq_iff_iff]; simp; omega
  · rw [if_neg hc]
    have : ((decide (p.1 ≤ x) && decide (x < p.2)) && (decide (q.1 ≤ x) && decide (x < q.2))) = false := by simp; omega
    rw [this, Bool.or_false]

theorem Meet.dropA {t : Int} {f : Int → Bool} {C r s : List Sp} {p q : Sp} (h : Meet t f C (p :: r) (q :: s)) (hlt : p.2 < q.2) : Meet t f (meetC C p q) r (q :: s) := by
  obtain ⟨a0, ha0, ha⟩ := h.a
  obtain ⟨b0, hb0, hb⟩ := h.b
  have ha' := (vf_cons a0 t p r).1 ha
  have hb' := (vf_cons b0 t q s).1 hb
  refine ⟨meet_vf h, ⟨p.2 + 1, by omega, ha'.2.2.2⟩, ⟨b0, hb0, hb⟩, ?_, fun x => ?_⟩
  · obtain ⟨e, he, hab⟩ := h.e
    by_cases hc : max p.1 q.1 < min p.2 q.2
    · refine ⟨p.2 + 1, ?_, .inl ha'.2.2.2⟩
      unfold meetC
      rw [if_pos hc, nx_snoc]; simp only; omega
    · have e1 : meetC C p q = C := by unfold meetC; rw [if_neg hc]
      rw [e1]
      rcases hab with hab | hab
      · have := (vf_cons e t p r).1 hab
        exact ⟨p.2 + 1, by omega, .inl ha'.2.2.2⟩
      · exact ⟨e, he, .inr hab⟩
  · rw [meet_mem, ← h.m x, mem_cons p, mem_cons q]
    have low : x < p.2 → mem s x = false := fun hx => vf_out s (q.2 + 1) t x hb'.2.2.2 (.inl (by omega))
    by_cases hx : x < p.2
    · rw [low hx, vf_out r (p.2 + 1) t x ha'.2.2.2 (.inl (by omega))]
      simp
    · have : (decide (p.1 ≤ x) && decide (x < p.2)) = false := by simp; omega
      rw [this]; simp
theorem Meet.dropB {t : Int} {f : Int → Bool} {C r s : List Sp} {p q : Sp} (h : Meet t f C (p :: r) (q :: s)) (hlt : ¬ p.2 < q.2) : Meet t f (meetC C p q) (p :: r) s := by
  obtain ⟨a0, ha0, ha⟩ := h.a
  obtain ⟨b0, hb0, hb⟩ := h.b
  have ha' := (vf_cons a0 t p r).1 ha
  have hb' := (vf_cons b0 t q s).1 hb
  refine ⟨meet_vf h, ⟨a0, ha0, ha⟩, ⟨q.2 + 1, by omega, hb'.2.2.2⟩, ?_, fun x => ?_⟩
  · obtain ⟨e, he, hab⟩ := h.e
    by_cases hc : max p.1 q.1 < min p.2 q.2
    · refine ⟨q.2 + 1, ?_, .inr hb'.2.2.2⟩
      unfold meetC
      rw [if_pos hc, nx_snoc]; simp only; omega
    · have e1 : meetC C p q = C := by unfold meetC; rw [if_neg hc]
      rw [e1]
      rcases hab with hab | hab
      · exact ⟨e, he, .inl hab⟩
      · have := (vf_cons e t q s).1 hab
        exact ⟨q.2 + 1, by omega, .inr hb'.2.2.2⟩
  · rw [meet_mem, ← h.m x, mem_cons p, mem_cons q]
    by_cases hx : x < q.2
    · have o1 : mem r x = false := vf_out r (p.2 + 1) t x ha'.2.2.2 (.inl (by omega))
      have o2 : mem s x = false := vf_out s (q.2 + 1) t x hb'.2.2.2 (.inl (by omega))
      rw [o1, o2]; simp
    · have : (decide (q.1 ≤ x) && decide (x < q.2)) = false := by simp; omega
      rw [this]; simp

end Go.Proofs.Ytapflikdoiedeaa.Plain
