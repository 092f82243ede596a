/-
  Contracts of Mul of package arith and of the document's own answer: the product, or the error where no int holds it.
-/
import Derived.Test.YtppfkamojppjjaaCalls
namespace Go.Proofs.Ytppfkamojppjjaa.Mul1
open Go.ChangeShapes Go.WideShapes Go.ChangeAt Go.RowKit
set_option linter.unusedVariables false

theorem tq (a m : Int) (hm : 0 ≤ m) (ha : a < 0) : m.tdiv a = -(m / -a) := by
  have e : a = -(-a) := by omega
  rw [e, Int.tdiv_neg, Int.tdiv_eq_ediv_of_nonneg hm]; simp
theorem b2 (b : Int) (hb : b < 0) : -9223372036854775808 ≤ Int.tdiv 9223372036854775807 b ∧ Int.tdiv 9223372036854775807 b ≤ 9223372036854775807 := by
  rw [tq b _ (by omega) hb]
  obtain ⟨h1, h2, _⟩ := Plain.pos_div 9223372036854775807 (-b) (by omega) (by omega)
  omega
theorem b3 (b : Int) (hb : 0 < b) : -9223372036854775808 ≤ -Int.tdiv 9223372036854775808 b ∧ -Int.tdiv 9223372036854775808 b ≤ 9223372036854775807 := by
  rw [Int.tdiv_eq_ediv_of_nonneg (by omega)]
  obtain ⟨h1, h2, _⟩ := Plain.pos_div 9223372036854775808 b (by omega) (by omega)
  omega

/-- The four tests that the program makes, and what each decides. -/
theorem t1 (a b : Int) (hb : 0 < b) : 9223372036854775807 / b < a ↔ 9223372036854775807 < a * b := by
  have := Plain.pp a b hb
  omega
theorem t2 (a b : Int) (hb : b < 0) : a < Int.tdiv 9223372036854775807 b ↔ 9223372036854775807 < a * b := by
  have := Plain.pp (-a) (-b) (by omega)
  rw [tq b _ (by omega) hb]
  rw [Int.neg_mul_neg] at this
  omega
theorem t3 (a b : Int) (ha : 0 < a) : b < -Int.tdiv 9223372036854775808 a ↔ a * b < -9223372036854775808 := by
  have := Plain.pq (-b) a ha
  rw [Int.tdiv_eq_ediv_of_nonneg (by omega)]
  rw [Int.neg_mul, Int.mul_comm b a] at this
  omega
theorem t4 (a b : Int) (hb : 0 < b) : a < -Int.tdiv 9223372036854775808 b ↔ a * b < -9223372036854775808 := by
  have := Plain.pq (-a) b hb
  rw [Int.tdiv_eq_ediv_of_nonneg (by omega)]
  rw [Int.neg_mul] at this
  omega

theorem sgn_pp (a b : Int) (ha : 0 < a) (hb : 0 < b) : 0 < a * b := Int.mul_pos ha hb
theorem sgn_nn (a b : Int) (ha : a < 0) (hb : b < 0) : 0 < a * b := Int.mul_pos_of_neg_of_neg ha hb
theorem sgn_pn (a b : Int) (ha : 0 < a) (hb : b < 0) : a * b < 0 := Int.mul_neg_of_pos_of_neg ha hb
theorem sgn_np (a b : Int) (ha : a < 0) (hb : 0 < b) : a * b < 0 := Int.mul_neg_of_neg_of_pos ha hb

theorem over_no (a b : Int) (w : World) (a1 : -9223372036854775808 ≤ a) (a2 : a ≤ 9223372036854775807) (c1 : -9223372036854775808 ≤ b) (c2 : b ≤ 9223372036854775807)
    (h : Hid (Plain.Fits a b)) :
    Calls Try.prog 27 #[.int .i64 a, .int .i64 b] w fun e w' => e = .returned (.bool false) ∧ w = w' := by
  rcases Int.lt_trichotomy a 0 with ha | ha | ha
  · rcases Int.lt_trichotomy b 0 with hb | hb | hb
    · have g := b2 b hb
      have f : ¬ a < Int.tdiv 9223372036854775807 b := by rw [t2 a b hb]; have := h.out.2; omega
      go_enter Try.func27, Try.ntmps27
      go_wp2
      all_goals go_ret
      all_goals exact ⟨rfl, rfl⟩
    · subst hb
      go_enter Try.func27, Try.ntmps27
      go_wp2
      all_goals go_ret
      all_goals exact ⟨rfl, rfl⟩
    · have g := b3 b hb
      have f : ¬ a < -Int.tdiv 9223372036854775808 b := by rw [t4 a b hb]; have := h.out.1; omega
      go_enter Try.func27, Try.ntmps27
      go_wp2
      all_goals go_ret
      all_goals exact ⟨rfl, rfl⟩
  · subst ha
    go_enter Try.func27, Try.ntmps27
    go_wp2
    all_goals go_ret
    all_goals exact ⟨rfl, rfl⟩
  · rcases Int.lt_trichotomy b 0 with hb | hb | hb
    · have g := b3 a ha
      have f : ¬ b < -Int.tdiv 9223372036854775808 a := by rw [t3 a b ha]; have := h.out.1; omega
      go_enter Try.func27, Try.ntmps27
      go_wp2
      all_goals go_ret
      all_goals exact ⟨rfl, rfl⟩
    · subst hb
      go_enter Try.func27, Try.ntmps27
      go_wp2
      all_goals go_ret
      all_goals exact ⟨rfl, rfl⟩
    · have f : ¬ 9223372036854775807 / b < a := by rw [t1 a b hb]; have := h.out.2; omega
      go_enter Try.func27, Try.ntmps27
      go_wp2
      all_goals go_ret
      all_goals exact ⟨rfl, rfl⟩

theorem over_yes (a b : Int) (w : World) (a1 : -9223372036854775808 ≤ a) (a2 : a ≤ 9223372036854775807) (c1 : -9223372036854775808 ≤ b) (c2 : b ≤ 9223372036854775807)
    (h : Hid (¬ Plain.Fits a b)) :
    Calls Try.prog 27 #[.int .i64 a, .int .i64 b] w fun e w' => e = .returned (.bool true) ∧ w = w' := by
  rcases Int.lt_trichotomy a 0 with ha | ha | ha
  · rcases Int.lt_trichotomy b 0 with hb | hb | hb
    · have g := b2 b hb
      have f : a < Int.tdiv 9223372036854775807 b := by rw [t2 a b hb]; have := h.out; have := sgn_nn a b ha hb; unfold Plain.Fits at *; omega
      go_enter Try.func27, Try.ntmps27
      go_wp2
      all_goals go_ret
      all_goals exact ⟨rfl, rfl⟩
    · subst hb
      exact absurd ⟨by omega, by omega⟩ h.out
    · have g := b3 b hb
      have f : a < -Int.tdiv 9223372036854775808 b := by rw [t4 a b hb]; have := h.out; have := sgn_np a b ha hb; unfold Plain.Fits at *; omega
      go_enter Try.func27, Try.ntmps27
      go_wp2
      all_goals go_ret
      all_goals exact ⟨rfl, rfl⟩
  · subst ha
    exact absurd ⟨by omega, by omega⟩ h.out
  · rcases Int.lt_trichotomy b 0 with hb | hb | hb
    · have g := b3 a ha
      have f : b < -Int.tdiv 9223372036854775808 a := by rw [t3 a b ha]; have := h.out; have := sgn_pn a b ha hb; unfold Plain.Fits at *; omega
      go_enter Try.func27, Try.ntmps27
      go_wp2
      all_goals go_ret
      all_goals exact ⟨rfl, rfl⟩
    · subst hb
      exact absurd ⟨by omega, by omega⟩ h.out
    · have f : 9223372036854775807 / b < a := by rw [t1 a b hb]; have := h.out; have := sgn_pp a b ha hb; unfold Plain.Fits at *; omega
      go_enter Try.func27, Try.ntmps27
      go_wp2
      all_goals go_ret
      all_goals exact ⟨rfl, rfl⟩

theorem mul_no (a b : Int) (w : World) (a1 : -9223372036854775808 ≤ a) (a2 : a ≤ 9223372036854775807) (c1 : -9223372036854775808 ≤ b) (c2 : b ≤ 9223372036854775807)
    (h : Plain.Fits a b) :
    Calls Try.prog 19 #[.int .i64 a, .int .i64 b] w fun e w' => e = .returned (.tuple #[.int .i64 (a * b), .int .i64 0]) ∧ w = w' := by
  have H := Lib.hid h
  obtain ⟨f1, f2⟩ := h
  go_enter Try.func19, Try.ntmps19
  go_wp2_with (go_at_call 27; refine (over_no a b _ a1 a2 c1 c2 H).mono ?_; rintro e w' ⟨rfl, rfl⟩)
  all_goals go_ret2
  all_goals exact ⟨rfl, rfl⟩

theorem mul_yes (a b : Int) (w : World) (a1 : -9223372036854775808 ≤ a) (a2 : a ≤ 9223372036854775807) (c1 : -9223372036854775808 ≤ b) (c2 : b ≤ 9223372036854775807)
    (h : Hid (¬ Plain.Fits a b)) :
    Calls Try.prog 19 #[.int .i64 a, .int .i64 b] w fun e w' => e = .returned (.tuple #[.int .i64 0, .int .i64 8]) ∧ w = w' := by
  go_enter Try.func19, Try.ntmps19
  go_wp2_with (go_at_call 27; refine (over_yes a b _ a1 a2 c1 c2 h).mono ?_; rintro e w' ⟨rfl, rfl⟩)
  all_goals go_ret2
  all_goals exact ⟨rfl, rfl⟩

theorem ref_no (a b : Int) (w : World) (a1 : -9223372036854775808 ≤ a) (a2 : a ≤ 9223372036854775807) (c1 : -9223372036854775808 ≤ b) (c2 : b ≤ 9223372036854775807)
    (h : Plain.Fits a b) :
    Calls Try.prog 20 #[.int .i64 a, .int .i64 b] w fun e w' => e = .returned (.tuple #[.int .i64 (a * b), .int .i64 0]) ∧ w = w' := by
  have H := Lib.hid h
  obtain ⟨f1, f2⟩ := h
  by_cases ha : a = 0
  · subst ha
    go_enter Try.func20, Try.ntmps20
    go_wp2
    all_goals go_ret2
    all_goals exact ⟨Calls1.ret2 (k := .i64) (by omega) rfl, rfl⟩
  · by_cases hb : b = 0
    · subst hb
      go_enter Try.func20, Try.ntmps20
      go_wp2
      all_goals go_ret2
      all_goals exact ⟨Calls1.ret2 (k := .i64) (by omega) rfl, rfl⟩
    · have q : (a * b).tdiv b = a := Int.mul_tdiv_cancel a hb
      have q1 : ((a * b).tdiv b != a) = false := by rw [q]; simp
      have q2 : a = -1 → b ≠ -9223372036854775808 := by intro e; subst e; omega
      have q3 : b = -1 → a ≠ -9223372036854775808 := by intro e; subst e; omega
      have ha0 : (a == 0) = false := beq_eq_false_iff_ne.2 ha
      have hb0 : (b == 0) = false := beq_eq_false_iff_ne.2 hb
      clear q
      go_enter Try.func20, Try.ntmps20
      go_wp2
      all_goals go_ret2
      all_goals exact ⟨Calls1.ret2 (k := .i64) (by first | rfl | (simp [*]; done) | omega) rfl, rfl⟩

theorem wrap_quo (a b : Int) (a1 : -9223372036854775808 ≤ a) (a2 : a ≤ 9223372036854775807) (c1 : -9223372036854775808 ≤ b) (c2 : b ≤ 9223372036854775807) (h : ¬ Plain.Fits a b) (hb : b ≠ 0) (hb1 : b ≠ -1) :
    (wrap64 (a * b)).tdiv b ≠ a ∧ -9223372036854775808 ≤ (wrap64 (a * b)).tdiv b ∧ (wrap64 (a * b)).tdiv b ≤ 9223372036854775807 := by
  unfold Plain.Fits at h
  unfold wrap64
  generalize hx : a * b = x at *
  generalize hc : (x + 9223372036854775808) % 18446744073709551616 - 9223372036854775808 = c
  have l1 : -9223372036854775808 ≤ c := by omega
  have l2 : c ≤ 9223372036854775807 := by omega
  have e1 : b * c.tdiv b + c.tmod b = c := Int.mul_tdiv_add_tmod c b
  have e2 : (c.tmod b).natAbs < b.natAbs := by
    rw [Int.natAbs_tmod]; exact Nat.mod_lt _ (by omega)
  have e3 : (c.tdiv b).natAbs ≤ c.natAbs / 2 := by
    rw [Int.natAbs_tdiv]
    rcases Nat.lt_or_ge b.natAbs 2 with h2 | h2
    · have : b = 1 := by omega
      subst this
      exfalso
      omega
    · exact Nat.div_le_div_left h2 (by decide)
  refine ⟨?_, by omega, by omega⟩
  intro e
  rw [e, Int.mul_comm, hx] at e1
  omega

theorem ref_yes (a b : Int) (w : World) (a1 : -9223372036854775808 ≤ a) (a2 : a ≤ 9223372036854775807) (c1 : -9223372036854775808 ≤ b) (c2 : b ≤ 9223372036854775807)
    (h : Hid (¬ Plain.Fits a b)) :
    Calls Try.prog 20 #[.int .i64 a, .int .i64 b] w fun e w' => e = .returned (.tuple #[.int .i64 0, .int .i64 8]) ∧ w = w' := by
  have ha : a ≠ 0 := by intro e; subst e; exact h.out ⟨by omega, by omega⟩
  have hb : b ≠ 0 := by intro e; subst e; exact h.out ⟨by omega, by omega⟩
  by_cases ha1 : a = -1
  · obtain rfl : b = -9223372036854775808 := by subst ha1; have := h.out; unfold Plain.Fits at this; omega
    subst ha1
    clear h ha hb
    go_enter Try.func20, Try.ntmps20
    go_wp2
    all_goals go_ret2
    all_goals exact ⟨rfl, rfl⟩
  · by_cases hb1 : b = -1
    · obtain rfl : a = -9223372036854775808 := by subst hb1; have := h.out; unfold Plain.Fits at this; omega
      subst hb1
      clear h ha hb
      go_enter Try.func20, Try.ntmps20
      go_wp2
      all_goals go_ret2
      all_goals exact ⟨rfl, rfl⟩
    · obtain ⟨q, q2, q3⟩ := wrap_quo a b a1 a2 c1 c2 h.out hb hb1
      have q1 : ((wrap64 (a * b)).tdiv b != a) = true := by rw [bne_iff_ne]; exact q
      have ha0 : (a == 0) = false := beq_eq_false_iff_ne.2 ha
      have hb0 : (b == 0) = false := beq_eq_false_iff_ne.2 hb
      have ha2 : (a == -1) = false := beq_eq_false_iff_ne.2 ha1
      have hb2 : (b == -1) = false := beq_eq_false_iff_ne.2 hb1
      clear q
      go_enter Try.func20, Try.ntmps20
      go_wp2
      all_goals go_ret2
      all_goals exact ⟨rfl, rfl⟩

end Go.Proofs.Ytppfkamojppjjaa.Mul1
