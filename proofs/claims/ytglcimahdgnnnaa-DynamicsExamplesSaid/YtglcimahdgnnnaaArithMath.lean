/-
  Facts of plain integer arithmetic that the walks of this seat use: quotients, remainders, products that fit, Newton's steps. No program is named here.
-/
namespace Go.Proofs.Ytglcimahdgnnnaa.Plain

theorem pos_div (a b : Int) (ha : 0 ≤ a) (hb : 1 ≤ b) : 0 ≤ a / b ∧ a / b ≤ a ∧ 0 ≤ a % b ∧ a % b < b ∧ b * (a / b) + a % b = a ∧ (0 < a % b → a / b < a) := by
  have h1 : 0 ≤ a / b := Int.ediv_nonneg ha (by omega)
  have h2 : 0 ≤ a % b := Int.emod_nonneg a (by omega)
  have h3 : a % b < b := Int.emod_lt_of_pos a (by omega)
  have h4 : b * (a / b) + a % b = a := Int.mul_ediv_add_emod a b
  have h5 : 1 * (a / b) ≤ b * (a / b) := Int.mul_le_mul_of_nonneg_right hb h1
  exact ⟨h1, by omega, h2, h3, h4, fun h => by omega⟩

theorem neg_div (a b : Int) (ha : a < 0) (hb : 1 ≤ b) : a.tdiv b ≤ 0 ∧ a ≤ a.tdiv b ∧ a.tmod b ≤ 0 ∧ -b < a.tmod b ∧ b * (a.tdiv b) + a.tmod b = a ∧ (a.tmod b < 0 → a < a.tdiv b) := by
  obtain ⟨h1, h2, h3, h4, h5, h6⟩ := pos_div (-a) b (by omega) hb
  have e1 : a.tdiv b = -((-a) / b) := by
    have : a = -(-a) := by omega
    rw [this, Int.neg_tdiv, Int.tdiv_eq_ediv_of_nonneg (by omega)]; simp
  have e2 : a.tmod b = -((-a) % b) := by
    have : a = -(-a) := by omega
    rw [this, Int.neg_tmod, Int.tmod_eq_emod_of_nonneg (by omega)]; simp
  rw [e1, e2, Int.mul_neg]
  exact ⟨by omega, by omega, by omega, by omega, by omega, fun h => by omega⟩

theorem div_unique (a b q r : Int) (hb : 1 ≤ b) (h : b * q + r = a) (h0 : 0 ≤ r) (h1 : r < b) : a / b = q ∧ a % b = r :=
  (Int.ediv_emod_unique (by omega)).2 ⟨by omega, h0, h1⟩

theorem floor_neg_lt (a b : Int) (ha : a < 0) (hb : 1 ≤ b) (hr : a.tmod b < 0) : a / b = a.tdiv b - 1 ∧ a % b = a.tmod b + b := by
  obtain ⟨h1, h2, h3, h4, h5, h6⟩ := neg_div a b ha hb
  exact div_unique a b _ _ hb (by rw [Int.mul_sub]; omega) (by omega) (by omega)

theorem floor_neg_eq (a b : Int) (ha : a < 0) (hb : 1 ≤ b) (hr : ¬ a.tmod b < 0) : a / b = a.tdiv b ∧ a % b = a.tmod b := by
  obtain ⟨h1, h2, h3, h4, h5, h6⟩ := neg_div a b ha hb
  exact div_unique a b _ _ hb (by omega) (by omega) (by omega)

theorem ceil_pos_gt (a b : Int) (ha : 0 ≤ a) (hb : 1 ≤ b) (hr : 0 < a % b) : -((-a) / b) = a / b + 1 := by
  obtain ⟨h1, h2, h3, h4, h5, h6⟩ := pos_div a b ha hb
  have := (div_unique (-a) b (-(a / b) - 1) (b - a % b) hb (by rw [Int.mul_sub, Int.mul_neg]; omega) (by omega) (by omega)).1
  omega

theorem ceil_pos_eq (a b : Int) (ha : 0 ≤ a) (hb : 1 ≤ b) (hr : ¬ 0 < a % b) : -((-a) / b) = a / b := by
  obtain ⟨h1, h2, h3, h4, h5, h6⟩ := pos_div a b ha hb
  have := (div_unique (-a) b (-(a / b)) 0 hb (by rw [Int.mul_neg]; omega) (by omega) (by omega)).1
  omega

theorem ceil_neg (a b : Int) (ha : a < 0) : -((-a) / b) = a.tdiv b := by
  have : a = -(-a) := by omega
  rw [this, Int.neg_tdiv, Int.tdiv_eq_ediv_of_nonneg (by omega)]; simp

theorem fb (a b : Int) (h1 : -4611686018427387904 ≤ a) (h2 : a ≤ 9223372036854775807) (hb : 1 ≤ b) (hb2 : b ≤ 9223372036854775807) :
    -9223372036854775808 ≤ a / b * b ∧ a / b * b ≤ 9223372036854775807 ∧ 0 ≤ a % b ∧ a % b < b ∧ a / b * b + a % b = a ∧ -4611686018427387904 ≤ a / b ∧ a / b ≤ 9223372036854775807 := by
  have h3 := Int.mul_ediv_add_emod a b
  have h4 : 0 ≤ a % b := Int.emod_nonneg a (by omega)
  have h5 : a % b < b := Int.emod_lt_of_pos a (by omega)
  have h6 : a / b * b + a % b = a := by rw [Int.mul_comm]; exact h3
  rcases Int.lt_or_le a 0 with hn | hn
  · have h7 : a / b < 0 := Int.ediv_neg_of_neg_of_pos hn (by omega)
    have h8 : a / b * b ≤ a / b * 1 := Int.mul_le_mul_of_nonpos_left (by omega) hb
    rcases Int.lt_or_le (a / b) (-1) with hq | hq
    · have : a / b * b ≤ (-2) * b := Int.mul_le_mul_of_nonneg_right (by omega) (by omega)
      have h9 : (a / b + 1) * b ≤ (a / b + 1) * 1 := Int.mul_le_mul_of_nonpos_left (by omega) hb
      rw [Int.add_mul] at h9
      exact ⟨by omega, by omega, h4, h5, h6, by omega, by omega⟩
    · have e : a / b = -1 := by omega
      rw [e] at h6 ⊢
      exact ⟨by omega, by omega, h4, h5, h6, by omega, by omega⟩
  · have h7 : 0 ≤ a / b := Int.ediv_nonneg hn (by omega)
    have h8 : a / b * 1 ≤ a / b * b := Int.mul_le_mul_of_nonneg_left hb h7
    exact ⟨by omega, by omega, h4, h5, h6, by omega, by omega⟩

/-! ### Products -/
def Fits (a b : Int) : Prop := -9223372036854775808 ≤ a * b ∧ a * b ≤ 9223372036854775807

theorem pp (a b : Int) (hb : 0 < b) : a ≤ 9223372036854775807 / b ↔ a * b ≤ 9223372036854775807 := Int.le_ediv_iff_mul_le hb
theorem pq (a b : Int) (hb : 0 < b) : a ≤ 9223372036854775808 / b ↔ a * b ≤ 9223372036854775808 := Int.le_ediv_iff_mul_le hb

/-- Newton: the next number is no less than the root, less one. -/
theorem newton_keeps (n r : Int) (hr : 1 ≤ r) (hn : 1 ≤ n) (h : n < (r + 1) * (r + 1)) : 1 ≤ (r + n / r) / 2 ∧ n < ((r + n / r) / 2 + 1) * ((r + n / r) / 2 + 1) := by
  have h1 := Int.mul_ediv_add_emod n r
  have h2 : n % r < r := Int.emod_lt_of_pos n (by omega)
  have h3 : 0 ≤ n / r := Int.ediv_nonneg (by omega) (by omega)
  have h0 : 0 ≤ n % r := Int.emod_nonneg n (by omega)
  generalize n / r = q at *
  generalize n % r = s at *
  generalize hm : (r + q) / 2 = m
  have h4 : r + (q + 1) ≤ 2 * (m + 1) := by omega
  have h5 : n < r * (q + 1) := by rw [Int.mul_add]; omega
  have h6 : 4 * (r * (q + 1)) ≤ 4 * ((m + 1) * (m + 1)) := by
    have a1 : (r + (q + 1)) * (r + (q + 1)) ≤ (2 * (m + 1)) * (2 * (m + 1)) := Int.mul_le_mul h4 h4 (by omega) (by omega)
    have a2 : 0 ≤ (r - (q + 1)) * (r - (q + 1)) := by
      rcases Int.le_total 0 (r - (q + 1)) with h | h
      · exact Int.mul_nonneg h h
      · exact Int.mul_nonneg_of_nonpos_of_nonpos h h
    grind
  refine ⟨?_, by omega⟩
  rcases Int.lt_or_le r 2 with hlt | hge
  · have : r = 1 := by omega
    subst this
    omega
  · omega

theorem newton_ends (n r : Int) (hr : 1 ≤ r) (h : r ≤ (r + n / r) / 2) : r * r ≤ n := by
  have h1 := Int.mul_ediv_add_emod n r
  have h0 : 0 ≤ n % r := Int.emod_nonneg n (by omega)
  have h2 : r ≤ n / r := by omega
  have h3 : r * r ≤ r * (n / r) := Int.mul_le_mul_of_nonneg_left h2 (by omega)
  omega

theorem root_small (n r : Int) (hn : n ≤ 9223372036854775807) (h : r * r ≤ n) : r ≤ 3037000499 := by
  rcases Int.lt_or_le 3037000499 r with hlt | hge
  · have : 3037000500 * 3037000500 ≤ r * r := Int.mul_le_mul (by omega) (by omega) (by omega) (by omega)
    omega
  · exact hge

theorem newton_small (n r : Int) (hr : 1 ≤ r) (hn : 1 ≤ n) (h : n < (r + 1) * (r + 1)) : 0 ≤ n / r ∧ n / r ≤ r + 2 := by
  refine ⟨Int.ediv_nonneg (by omega) (by omega), ?_⟩
  have h1 : n / r < r + 3 := Int.ediv_lt_of_lt_mul (by omega) (by grind)
  omega

theorem sq_fits (r : Int) (h0 : 0 ≤ r) (h : r ≤ 3037000499) : 0 ≤ r * r ∧ r * r ≤ 9223372036854775807 := by
  have h1 : r * r ≤ 3037000499 * 3037000499 := Int.mul_le_mul h h h0 (by omega)
  exact ⟨Int.mul_nonneg h0 h0, by omega⟩

end Go.Proofs.Ytglcimahdgnnnaa.Plain
