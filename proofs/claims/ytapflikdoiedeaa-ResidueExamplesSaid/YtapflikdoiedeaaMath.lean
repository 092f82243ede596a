/-
  Facts of sets of residues as lists of spans that the walks of this seat use: members, valid lists, that a valid list is told by its members, joining, folding. No program is named here.
-/
namespace Go.Proofs.Ytapflikdoiedeaa.Plain

abbrev Sp := Int × Int

/-- x lies in a span of the list -/
def mem (L : List Sp) (x : Int) : Bool := L.any fun p => decide (p.1 ≤ x) && decide (x < p.2)

/-- a valid list of spans from a on, up to t: ascending, neither empty nor overlapping nor touching -/
def vf (a t : Int) : List Sp → Bool
  | [] => true
  | p :: r => decide (a ≤ p.1) && decide (p.1 < p.2) && decide (p.2 ≤ t) && vf (p.2 + 1) t r

/-- a list of spans that ascend by their first numbers from a on, none empty, up to t -/
def af (a t : Int) : List Sp → Bool
  | [] => true
  | p :: r => decide (a ≤ p.1) && decide (p.1 < p.2) && decide (p.2 ≤ t) && af p.1 t r

theorem mem_nil (x : Int) : mem [] x = false := rfl
theorem mem_cons (p : Sp) (r : List Sp) (x : Int) : mem (p :: r) x = ((decide (p.1 ≤ x) && decide (x < p.2)) || mem r x) := rfl
theorem mem_append (L M : List Sp) (x : Int) : mem (L ++ M) x = (mem L x || mem M x) := by simp [mem]
theorem mem_one (p : Sp) (x : Int) : mem [p] x = (decide (p.1 ≤ x) && decide (x < p.2)) := by simp [mem]
theorem vf_nil (a t : Int) : vf a t [] = true := rfl
theorem vf_cons (a t : Int) (p : Sp) (r : List Sp) : vf a t (p :: r) = true ↔ a ≤ p.1 ∧ p.1 < p.2 ∧ p.2 ≤ t ∧ vf (p.2 + 1) t r = true := by
  simp [vf, and_assoc]
theorem af_nil (a t : Int) : af a t [] = true := rfl
theorem af_cons (a t : Int) (p : Sp) (r : List Sp) : af a t (p :: r) = true ↔ a ≤ p.1 ∧ p.1 < p.2 ∧ p.2 ≤ t ∧ af p.1 t r = true := by
  simp [af, and_assoc]

theorem vf_mono (L : List Sp) (a b t s : Int) (hb : b ≤ a) (ht : t ≤ s) (h : vf a t L = true) : vf b s L = true := by
  induction L generalizing a b with
  | nil => rfl
  | cons p r ih =>
    rw [vf_cons] at h ⊢
    exact ⟨by omega, h.2.1, by omega, ih _ _ (Int.le_refl _) h.2.2.2⟩
theorem af_mono (L : List Sp) (a b t s : Int) (hb : b ≤ a) (ht : t ≤ s) (h : af a t L = true) : af b s L = true := by
  induction L generalizing a b with
  | nil => rfl
  | cons p r ih =>
    rw [af_cons] at h ⊢
    exact ⟨by omega, h.2.1, by omega, ih _ _ (Int.le_refl _) h.2.2.2⟩
theorem af_of_vf (L : List Sp) (a b t : Int) (hb : b ≤ a) (h : vf a t L = true) : af b t L = true := by
  induction L generalizing a b with
  | nil => rfl
  | cons p r ih =>
    rw [vf_cons] at h
    rw [af_cons]
    exact ⟨by omega, h.2.1, by omega, ih _ _ (by omega) h.2.2.2⟩

theorem af_mem (L : List Sp) (a t x : Int) (h : af a t L = true) (hx : mem L x = true) : a ≤ x ∧ x < t := by
  induction L generalizing a with
  | nil => cases hx
  | cons p r ih =>
    rw [af_cons] at h
    rw [mem_cons] at hx
    simp only [Bool.or_eq_true, Bool.and_eq_true, decide_eq_true_eq] at hx
    rcases hx with hx | hx
    · omega
    · have := ih _ h.2.2.2 hx; omega
theorem vf_mem (L : List Sp) (a t x : Int) (h : vf a t L = true) (hx : mem L x = true) : a ≤ x ∧ x < t := af_mem L a t x (af_of_vf L a a t (Int.le_refl _) h) hx
theorem vf_out (L : List Sp) (a t x : Int) (h : vf a t L = true) (hx : x < a ∨ t ≤ x) : mem L x = false := by
  cases hm : mem L x with
  | false => rfl
  | true => have := vf_mem L a t x h hm; omega

/-- A valid list is told by its members. -/
theorem vf_ext (L M : List Sp) (a t : Int) (hL : vf a t L = true) (hM : vf a t M = true) (h : ∀ x, mem L x = mem M x) : L = M := by
  induction L generalizing a M with
  | nil =>
    cases M with
    | nil => rfl
    | cons q M =>
      rw [vf_cons] at hM
      have := h q.1
      rw [mem_cons] at this
      simp [mem_nil, hM.2.1] at this
  | cons p L ih =>
    cases M with
    | nil =>
      rw [vf_cons] at hL
      have := h p.1
      rw [mem_cons] at this
      simp [mem_nil, hL.2.1] at this
    | cons q M =>
      rw [vf_cons] at hL hM
      obtain ⟨p1, p2⟩ := p
      obtain ⟨q1, q2⟩ := q
      simp only at hL hM
      have lowL := fun x => vf_out L (p2 + 1) t x hL.2.2.2
      have lowM := fun x => vf_out M (q2 + 1) t x hM.2.2.2
      have e1 : p1 = q1 := by
        have a1 := h p1
        have a2 := h q1
        simp only [mem_cons] at a1 a2
        rcases Int.lt_trichotomy p1 q1 with hlt | heq | hgt
        · rw [lowM p1 (by omega)] at a1
          simp [hL.2.1] at a1; omega
        · exact heq
        · rw [lowL q1 (by omega)] at a2
          simp [hM.2.1] at a2; omega
      subst e1
      have e2 : p2 = q2 := by
        have a1 := h p2
        have a2 := h q2
        simp only [mem_cons] at a1 a2
        rcases Int.lt_trichotomy p2 q2 with hlt | heq | hgt
        · rw [lowL p2 (by omega), lowM p2 (by omega)] at a1
          simp at a1; omega
        · exact heq
        · rw [lowL q2 (by omega), lowM q2 (by omega)] at a2
          simp at a2; omega
      subst e2
      have : L = M := ih M (p2 + 1) hL.2.2.2 hM.2.2.2 (fun x => by
        have a1 := h x
        simp only [mem_cons] at a1
        rcases Int.lt_or_le x (p2 + 1) with hlt | hge
        · rw [lowL x (.inl hlt), lowM x (.inl hlt)]
        · have e : decide (x < p2) = false := by simp; omega
          simpa [e] using a1)
      rw [this]

theorem vf_len (L : List Sp) (a t : Int) (h : vf a t L = true) (ha : a ≤ t + 1) : (L.length : Int) ≤ t + 1 - a := by
  induction L generalizing a with
  | nil => simp; omega
  | cons p r ih =>
    rw [vf_cons] at h
    have := ih _ h.2.2.2 (by omega)
    rw [List.length_cons]
    omega

/-! ### The end of a list -/
/-- where the span behind the last one may begin -/
def nx (a : Int) (L : List Sp) : Int := match L.getLast? with | none => a | some p => p.2 + 1
theorem nx_nil (a : Int) : nx a [] = a := rfl
theorem nx_snoc (a : Int) (L : List Sp) (p : Sp) : nx a (L ++ [p]) = p.2 + 1 := by simp [nx]
theorem nx_cons (a : Int) (p : Sp) (L : List Sp) : nx a (p :: L) = nx (p.2 + 1) L := by
  cases L with
  | nil => rfl
  | cons q L => simp [nx, List.getLast?_cons_cons]; rfl
theorem vf_snoc (L : List Sp) (a t : Int) (p : Sp) : vf a t (L ++ [p]) = true ↔ vf a t L = true ∧ nx a L ≤ p.1 ∧ p.1 < p.2 ∧ p.2 ≤ t := by
  induction L generalizing a with
  | nil => simp [vf, nx_nil, and_assoc]
  | cons q L ih => rw [List.cons_append, vf_cons, vf_cons, ih, nx_cons]; simp only [and_assoc]
theorem nx_le (L : List Sp) (a t : Int) (h : vf a t L = true) (ha : a ≤ t + 1) : a ≤ nx a L ∧ nx a L ≤ t + 1 := by
  induction L generalizing a with
  | nil => exact ⟨Int.le_refl _, ha⟩
  | cons p L ih =>
    rw [vf_cons] at h
    rw [nx_cons]
    have := ih _ h.2.2.2 (by omega)
    omega
theorem nx_out (L : List Sp) (a t x : Int) (h : vf a t L = true) (hx : nx a L ≤ x + 1) (hax : a ≤ x + 1) : mem L x = false := by
  induction L generalizing a with
  | nil => rfl
  | cons p L ih =>
    rw [vf_cons] at h
    rw [nx_cons] at hx
    rw [mem_cons]
    have hle := fun ha => (nx_le L (p.2 + 1) t h.2.2.2 ha).1
    have h1 := hle (by omega)
    rw [ih _ h.2.2.2 hx (by omega)]
    simp; omega

/-! ### Joining a span to a list -/
def joined (L : List Sp) (s : Sp) : List Sp :=
  match L.getLast? with
  | none => [s]
  | some p => if p.2 < s.1 then L ++ [s] else L.dropLast ++ [(p.1, max p.2 s.2)]
/-- the first number of the last span -/
def lf (L : List Sp) : Int := match L.getLast? with | none => 0 | some p => p.1
theorem lf_nil : lf [] = 0 := rfl
theorem lf_snoc (L : List Sp) (p : Sp) : lf (L ++ [p]) = p.1 := by simp [lf]
theorem snoc_of (L : List Sp) (h : L ≠ []) : ∃ M p, L = M ++ [p] := ⟨L.dropLast, L.getLast h, (List.dropLast_concat_getLast h).symm⟩
theorem joined_nil (s : Sp) : joined [] s = [s] := rfl
theorem joined_far (M : List Sp) (p s : Sp) (h : p.2 < s.1) : joined (M ++ [p]) s = M ++ [p] ++ [s] := by simp [joined, h]
theorem joined_near (M : List Sp) (p s : Sp) (h : ¬ p.2 < s.1) : joined (M ++ [p]) s = M ++ [(p.1, max p.2 s.2)] := by simp [joined, h]
theorem joined_vf (L : List Sp) (s : Sp) (t : Int) (h : vf 0 t L = true) (hl : lf L ≤ s.1) (h0 : 0 ≤ s.1) (h1 : s.1 < s.2) (h2 : s.2 ≤ t) :
    vf 0 t (joined L s) = true ∧ lf (joined L s) ≤ s.1 ∧ ∀ x, mem (joined L s) x = (mem L x || (decide (s.1 ≤ x) && decide (x < s.2))) := by
  by_cases hn : L = []
  · subst hn
    rw [joined_nil]
    refine ⟨by rw [vf_cons]; exact ⟨h0, h1, h2, rfl⟩, by simp [lf], fun x => by simp [mem]⟩
  · obtain ⟨M, p, rfl⟩ := snoc_of L hn
    rw [lf_snoc] at hl
    have hv := (vf_snoc M 0 t p).1 h
    by_cases hf : p.2 < s.1
    · rw [joined_far M p s hf]
      refine ⟨(vf_snoc _ 0 t s).2 ⟨h, by rw [nx_snoc]; omega, h1, h2⟩, by rw [lf_snoc]; omega, fun x => by simp only [mem_append, mem_one]⟩
    · rw [joined_near M p s hf]
      refine ⟨(vf_snoc _ 0 t _).2 ⟨hv.1, hv.2.1, by simp only; omega, by simp only; omega⟩, by rw [lf_snoc]; exact hl, fun x => ?_⟩
      simp only [mem_append, mem_one]
      cases mem M x with
      | true => rfl
      | false =>
        rw [Bool.eq_iff_iff]
        simp
        omega

/-! ### Quotients and remainders -/
theorem pos_div (a b : Int) (ha : 0 ≤ a) (hb : 1 ≤ b) : 0 ≤ a / b ∧ a / b ≤ a ∧ 0 ≤ a % b ∧ a % b < b ∧ b * (a / b) + a % b = a ∧ (0 < a % b → a / b < a) := by
  have h1 : 0 ≤ a / b := Int.ediv_nonneg ha (by omega)
  have h2 : 0 ≤ a % b := Int.emod_nonneg a (by omega)
  have h3 : a % b < b := Int.emod_lt_of_pos a (by omega)
  have h4 : b * (a / b) + a % b = a := Int.mul_ediv_add_emod a b
  have h5 : 1 * (a / b) ≤ b * (a / b) := Int.mul_le_mul_of_nonneg_right hb h1
  exact ⟨h1, by omega, h2, h3, h4, fun h => by omega⟩

theorem neg_div (a b : Int) (ha : a < 0) (hb : 1 ≤ b) : a.tdiv b ≤ 0 ∧ a ≤ a.tdiv b ∧ a.tmod b ≤ 0 ∧ -b < a.tmod b ∧ b * (a.tdiv b) + a.tmod b = a ∧ (a.tmod b < 0 → a < a.tdiv b) := by
  obtain ⟨h1, h2, h3, h4, h5, h6⟩ := pos_div (-a) b (by omega) hb
  have e1 : a.tdiv b = -((-a) / b) := by
    have : a = -(-a) := by omega
    rw [this, Int.neg_tdiv, Int.tdiv_eq_ediv_of_nonneg (by omega)]; simp
  have e2 : a.tmod b = -((-a) % b) := by
    have : a = -(-a) := by omega
    rw [this, Int.neg_tmod, Int.tmod_eq_emod_of_nonneg (by omega)]; simp
  rw [e1, e2, Int.mul_neg]
  exact ⟨by omega, by omega, by omega, by omega, by omega, fun h => by omega⟩

theorem div_unique (a b q r : Int) (hb : 1 ≤ b) (h : b * q + r = a) (h0 : 0 ≤ r) (h1 : r < b) : a / b = q ∧ a % b = r :=
  (Int.ediv_emod_unique (by omega)).2 ⟨by omega, h0, h1⟩

theorem floor_neg_lt (a b : Int) (ha : a < 0) (hb : 1 ≤ b) (hr : a.tmod b < 0) : a / b = a.tdiv b - 1 ∧ a % b = a.tmod b + b := by
  obtain ⟨h1, h2, h3, h4, h5, h6⟩ := neg_div a b ha hb
  exact div_unique a b _ _ hb (by rw [Int.mul_sub]; omega) (by omega) (by omega)

theorem floor_neg_eq (a b : Int) (ha : a < 0) (hb : 1 ≤ b) (hr : ¬ a.tmod b < 0) : a / b = a.tdiv b ∧ a % b = a.tmod b := by
  obtain ⟨h1, h2, h3, h4, h5, h6⟩ := neg_div a b ha hb
  exact div_unique a b _ _ hb (by omega) (by omega) (by omega)

end Go.Proofs.Ytapflikdoiedeaa.Plain
