/-
  Facts of folding lists of spans between 0 and twice the period. No program is named here.
-/
import Derived.Test.YtapflikdoiedeaaTurns
namespace Go.Proofs.Ytapflikdoiedeaa.Plain
set_option linter.unusedVariables false

theorem arc_two (t s e x : Int) (ht : 1 ≤ t) (hs : 0 ≤ s) (he : e ≤ 2 * t) (h0 : 0 ≤ x) (h1 : x < t) :
    ((decide (s ≤ x) && decide (x < e)) || (decide (s ≤ x + t) && decide (x + t < e))) = arc t s (e - s) x := by
  have r0 : 0 ≤ (x - s) % t := Int.emod_nonneg _ (by omega)
  have r1 : (x - s) % t < t := Int.emod_lt_of_pos _ (by omega)
  by_cases c1 : s ≤ x
  · have e1 : (x - s) % t = x - s := Int.emod_eq_of_lt (by omega) (by omega)
    rw [Bool.eq_iff_iff]
    simp [arc, e1]; omega
  · by_cases c2 : s ≤ x + t
    · have e1 : (x - s) % t = x - s + t := by
        have : (x - s + t) % t = (x - s) % t := Int.add_emod_right _ _
        rw [← this]
        exact Int.emod_eq_of_lt (by omega) (by omega)
      rw [Bool.eq_iff_iff]
      simp [arc, e1]; omega
    · by_cases c3 : s ≤ e
      · have e1 : (x - s) % t = x - s + t + t := by
          have a1 : (x - s + t) % t = (x - s) % t := Int.add_emod_right _ _
          have a2 : (x - s + t + t) % t = (x - s + t) % t := Int.add_emod_right _ _
          rw [← a1, ← a2]
          exact Int.emod_eq_of_lt (by omega) (by omega)
        rw [Bool.eq_iff_iff]
        simp [arc, e1]; omega
      · rw [Bool.eq_iff_iff]
        simp [arc]; omega

theorem arc_min (t s n x : Int) (ht : 1 ≤ t) : arc t s (min n t) x = arc t s n x := by
  have r1 : (x - s) % t < t := Int.emod_lt_of_pos _ (by omega)
  rw [Bool.eq_iff_iff]
  simp [arc]; omega

def addL' (s : Sp) (L : List Sp) : List Sp := L.map fun p => (p.1 + s.1, p.2 + s.2 - 1)
theorem addL_af (L : List Sp) (a t : Int) (s : Sp) (h : vf a t L = true) (h1 : s.1 < s.2) (h2 : s.2 ≤ t) (b : Int) (hb : b ≤ a + s.1) : af b (2 * t) (addL' s L) = true := by
  induction L generalizing a b with
  | nil => rfl
  | cons p r ih =>
    rw [vf_cons] at h
    show af b (2 * t) ((p.1 + s.1, p.2 + s.2 - 1) :: addL' s r) = true
    rw [af_cons]
    exact ⟨by simp only; omega, by simp only; omega, by simp only; omega, ih (p.2 + 1) h.2.2.2 _ (by simp only; omega)⟩
theorem addL_mem (L : List Sp) (s : Sp) (x : Int) : mem (addL' s L) x = L.any fun p => decide (p.1 + s.1 ≤ x) && decide (x < p.2 + s.2 - 1) := by
  simp [mem, addL', List.any_map, Function.comp_def]
theorem addL_one (L : List Sp) (d x : Int) : mem (addL' (d, d + 1) L) x = mem L (x - d) := by
  rw [addL_mem]
  unfold mem
  congr 1
  funext p
  rw [Bool.eq_iff_iff]
  simp; omega
theorem turn_two (L : List Sp) (t d x : Int) (h : vf 0 t L = true) (ht : 1 ≤ t) (hd0 : 0 ≤ d) (hd1 : d < t) (h0 : 0 ≤ x) (h1 : x < t) : (mem L (x - d) || mem L (x + t - d)) = turned t d (mem L) x := by
  unfold turned
  by_cases c : d ≤ x
  · rw [Int.emod_eq_of_lt (by omega) (by omega), vf_out L 0 t (x + t - d) h (.inr (by omega)), Bool.or_false]
  · have e1 : (x - d) % t = x + t - d := by
      have : (x - d + t) % t = (x - d) % t := Int.add_emod_right _ _
      rw [← this, Int.emod_eq_of_lt (by omega) (by omega)]
      omega
    rw [e1, vf_out L 0 t (x - d) h (.inl (by omega)), Bool.false_or]

/-- the sums of one number of each of two lists, not folded -/
def sumZ (L M : List Sp) (x : Int) : Bool := M.any fun q => L.any fun p => decide (p.1 + q.1 ≤ x) && decide (x < p.2 + q.2 - 1)
theorem sumZ_take (L M : List Sp) (k : Nat) (q : Sp) (x : Int) (h : M[k]? = some q) : sumZ L (M.take (k + 1)) x = (sumZ L (M.take k) x || mem (addL' q L) x) := by
  have hk : k < M.length := (List.getElem?_eq_some_iff.1 h).1
  have e : M[k] = q := (List.getElem?_eq_some_iff.1 h).2
  rw [addL_mem, List.take_succ_eq_append_getElem hk, e]
  simp [sumZ]
theorem vf_all (L : List Sp) (a t : Int) (h : vf a t L = true) : ∀ p ∈ L, a ≤ p.1 ∧ p.1 < p.2 ∧ p.2 ≤ t := by
  induction L generalizing a with
  | nil => intro p hp; cases hp
  | cons q r ih =>
    rw [vf_cons] at h
    intro p hp
    rcases List.mem_cons.1 hp with rfl | hp
    · exact ⟨h.1, h.2.1, h.2.2.1⟩
    · have := ih _ h.2.2.2 p hp; omega
theorem sum_two (t : Int) (L M : List Sp) (x : Int) (ht : 1 ≤ t) (hL : vf 0 t L = true) (hM : vf 0 t M = true) (h0 : 0 ≤ x) (h1 : x < t) : (sumZ L M x || sumZ L M (x + t)) = sumOf t L M x := by
  rw [Bool.eq_iff_iff]
  simp only [sumZ, sumOf, Bool.or_eq_true, List.any_eq_true]
  have key : ∀ p ∈ L, ∀ q ∈ M, ((decide (p.1 + q.1 ≤ x) && decide (x < p.2 + q.2 - 1)) = true ∨ (decide (p.1 + q.1 ≤ x + t) && decide (x + t < p.2 + q.2 - 1)) = true) ↔ arc t (p.1 + q.1) (p.2 - p.1 + q.2 - q.1 - 1) x = true := by
    intro p hp q hq
    have a1 := vf_all L 0 t hL p hp
    have a2 := vf_all M 0 t hM q hq
    have := arc_two t (p.1 + q.1) (p.2 + q.2 - 1) x ht (by omega) (by omega) h0 h1
    rw [show p.2 + q.2 - 1 - (p.1 + q.1) = p.2 - p.1 + q.2 - q.1 - 1 from by omega] at this
    rw [← this, Bool.or_eq_true]
  constructor
  · rintro (⟨q, hq, p, hp, h⟩ | ⟨q, hq, p, hp, h⟩)
    · exact ⟨p, hp, q, hq, (key p hp q hq).1 (.inl h)⟩
    · exact ⟨p, hp, q, hq, (key p hp q hq).1 (.inr h)⟩
  · rintro ⟨p, hp, q, hq, h⟩
    rcases (key p hp q hq).2 h with h | h
    · exact .inl ⟨q, hq, p, hp, h⟩
    · exact .inr ⟨q, hq, p, hp, h⟩
theorem sum_swap (t : Int) (L M : List Sp) (x : Int) : sumOf t M L x = sumOf t L M x := by
  rw [Bool.eq_iff_iff]
  simp only [sumOf, List.any_eq_true]
  constructor
  · rintro ⟨p, hp, q, hq, h⟩
    refine ⟨q, hq, p, hp, ?_⟩
    rw [show q.1 + p.1 = p.1 + q.1 from by omega, show q.2 - q.1 + p.2 - p.1 - 1 = p.2 - p.1 + q.2 - q.1 - 1 from by omega]
    exact h
  · rintro ⟨p, hp, q, hq, h⟩
    refine ⟨q, hq, p, hp, ?_⟩
    rw [show q.1 + p.1 = p.1 + q.1 from by omega, show q.2 - q.1 + p.2 - p.1 - 1 = p.2 - p.1 + q.2 - q.1 - 1 from by omega]
    exact h

end Go.Proofs.Ytapflikdoiedeaa.Plain
