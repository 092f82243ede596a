/-
  Facts of the questions that are asked of a set: how many residues it has, which is the next. No program is named here.
-/
import Derived.Test.YtapflikdoiedeaaTurns
namespace Go.Proofs.Ytapflikdoiedeaa.Plain
set_option linter.unusedVariables false

/-- how many numbers the spans of a list have together -/
def size : List Sp → Int
  | [] => 0
  | p :: r => p.2 - p.1 + size r
theorem size_append (L M : List Sp) : size (L ++ M) = size L + size M := by
  induction L with
  | nil => simp [size]
  | cons p r ih => simp only [List.cons_append, size, ih]; omega
theorem size_take (L : List Sp) (k : Nat) (p : Sp) (h : L[k]? = some p) : size (L.take (k + 1)) = size (L.take k) + (p.2 - p.1) := by
  have hk : k < L.length := (List.getElem?_eq_some_iff.1 h).1
  have e : L[k] = p := (List.getElem?_eq_some_iff.1 h).2
  rw [List.take_succ_eq_append_getElem hk, size_append, e]
  simp [size]
theorem vf_take (L : List Sp) (a t : Int) (k : Nat) (h : vf a t L = true) : vf a t (L.take k) = true := by
  induction L generalizing a k with
  | nil => simp [vf]
  | cons p r ih =>
    cases k with
    | zero => rfl
    | succ k =>
      rw [vf_cons] at h
      rw [List.take_succ_cons, vf_cons]
      exact ⟨h.1, h.2.1, h.2.2.1, ih _ _ h.2.2.2⟩
theorem vf_dropk (L : List Sp) (a t : Int) (k : Nat) (h : vf a t L = true) : ∃ b, vf b t (L.drop k) = true := by
  induction L generalizing a k with
  | nil => exact ⟨a, by simp [vf]⟩
  | cons p r ih =>
    cases k with
    | zero => exact ⟨a, h⟩
    | succ k =>
      rw [vf_cons] at h
      exact ih _ k h.2.2.2
theorem size_range (L : List Sp) (a t : Int) (h : vf a t L = true) (ha : a ≤ t + 1) : 0 ≤ size L ∧ size L ≤ t + 1 - a := by
  induction L generalizing a with
  | nil => simp [size]; omega
  | cons p r ih =>
    rw [vf_cons] at h
    have := ih _ h.2.2.2 (by omega)
    simp only [size]
    omega

/-- d is the least number that is not negative for which the residue of s + d is in the set; ok tells whether there is one -/
def NextIs (v : Bool) (t : Int) (f : Int → Bool) (s d : Int) (ok : Bool) : Prop :=
  (ok = true ∧ v = true ∧ 0 ≤ d ∧ d < t ∧ f ((s + d) % t) = true ∧ ∀ k, 0 ≤ k → k < d → f ((s + k) % t) = false) ∨
  (ok = false ∧ d = 0 ∧ (v = false ∨ ∀ k, 0 ≤ k → k < t → f ((s + k) % t) = false))
theorem NextIs.same {v : Bool} {t s d d' : Int} {ok ok' : Bool} {f : Int → Bool} (h : NextIs v t f s d ok) (h' : NextIs v t f s d' ok') : d = d' ∧ ok = ok' := by
  rcases h with ⟨rfl, hv, h0, h1, h2, h3⟩ | ⟨rfl, rfl, h4⟩ <;> rcases h' with ⟨rfl, hv', k0, k1, k2, k3⟩ | ⟨rfl, rfl, k4⟩
  · refine ⟨?_, rfl⟩
    rcases Int.lt_trichotomy d d' with hlt | heq | hgt
    · rw [k3 d h0 hlt] at h2; cases h2
    · exact heq
    · rw [h3 d' k0 hgt] at k2; cases k2
  · rcases k4 with k4 | k4
    · rw [hv] at k4; cases k4
    · rw [k4 d h0 h1] at h2; cases h2
  · rcases h4 with h4 | h4
    · rw [hv'] at h4; cases h4
    · rw [h4 d' k0 k1] at k2; cases k2
  · exact ⟨rfl, rfl⟩
theorem NextIs.mod {v : Bool} {t s d : Int} {ok : Bool} {f : Int → Bool} (h : NextIs v t f (s % t) d ok) : NextIs v t f s d ok := by
  have e : ∀ k, (s % t + k) % t = (s + k) % t := fun k => Int.emod_add_emod s t k
  rcases h with ⟨rfl, hv, h0, h1, h2, h3⟩ | ⟨rfl, rfl, h4⟩
  · exact .inl ⟨rfl, hv, h0, h1, by rw [← e]; exact h2, fun k a b => by rw [← e]; exact h3 k a b⟩
  · exact .inr ⟨rfl, rfl, h4.imp id fun h k a b => by rw [← e]; exact h k a b⟩

/-- no member below a that is not below the ends of the spans before k -/
theorem mem_between (L : List Sp) (a t : Int) (k : Nat) (p : Sp) (x s : Int) (h : vf a t L = true) (hp : L[k]? = some p) (hs : ∀ j q, j < k → L[j]? = some q → q.2 ≤ s) (h1 : s ≤ x) (h2 : x < p.1) : mem L x = false := by
  induction L generalizing a k with
  | nil => rfl
  | cons q r ih =>
    rw [vf_cons] at h
    rw [mem_cons]
    cases k with
    | zero =>
      have : q = p := by simpa using hp
      subst this
      rw [vf_out r (q.2 + 1) t x h.2.2.2 (.inl (by omega))]
      simp; omega
    | succ k =>
      have hq := hs 0 q (by omega) (by simp)
      rw [ih (q.2 + 1) k h.2.2.2 (by simpa using hp) (fun j q' hj hq' => hs (j + 1) q' (by omega) (by simpa using hq'))]
      simp; omega
theorem mem_get (L : List Sp) (k : Nat) (p : Sp) (x : Int) (hp : L[k]? = some p) (h1 : p.1 ≤ x) (h2 : x < p.2) : mem L x = true := by
  have : p ∈ L := List.mem_of_getElem? hp
  simp only [mem, List.any_eq_true]
  exact ⟨p, this, by simp; omega⟩
theorem mem_after (L : List Sp) (x s : Int) (hs : ∀ q ∈ L, q.2 ≤ s) (h1 : s ≤ x) : mem L x = false := by
  rw [Bool.eq_false_iff]
  intro h
  simp only [mem, List.any_eq_true] at h
  obtain ⟨q, hq, h⟩ := h
  have := hs q hq
  simp at h; omega
theorem mem_first (p : Sp) (r : List Sp) (a t x : Int) (h : vf a t (p :: r) = true) (hx : x < p.1) : mem (p :: r) x = false := by
  rw [vf_cons] at h
  rw [mem_cons, vf_out r (p.2 + 1) t x h.2.2.2 (.inl (by omega))]
  simp; omega

/-- the answer where a span ends behind the start -/
theorem next_here (L : List Sp) (t s : Int) (k : Nat) (p : Sp) (ht : 1 ≤ t) (h : vf 0 t L = true) (h0 : 0 ≤ s) (h1 : s < t) (hp : L[k]? = some p) (hs : ∀ j q, j < k → L[j]? = some q → q.2 ≤ s) (hlt : s < p.2) (hpr : p.1 < p.2 ∧ p.2 ≤ t) :
    NextIs true t (mem L) s (max (p.1 - s) 0) true := by
  refine .inl ⟨rfl, rfl, by omega, by omega, ?_, fun j j0 j1 => ?_⟩
  · rw [Int.emod_eq_of_lt (by omega) (by omega)]
    exact mem_get L k p _ hp (by omega) (by omega)
  · rw [Int.emod_eq_of_lt (by omega) (by omega)]
    exact mem_between L 0 t k p _ s h hp hs (by omega) (by omega)
/-- the answer where none does -/
theorem next_round (p : Sp) (r : List Sp) (t s : Int) (ht : 1 ≤ t) (h : vf 0 t (p :: r) = true) (h0 : 0 ≤ s) (h1 : s < t) (hs : ∀ q ∈ p :: r, q.2 ≤ s) :
    NextIs true t (mem (p :: r)) s (t - s + p.1) true := by
  have hv := (vf_cons 0 t p r).1 h
  have hp := hs p (by simp)
  refine .inl ⟨rfl, rfl, by omega, by omega, ?_, fun j j0 j1 => ?_⟩
  · have e : (s + (t - s + p.1)) % t = p.1 := by
      rw [show s + (t - s + p.1) = p.1 + t from by omega, Int.add_emod_right, Int.emod_eq_of_lt (by omega) (by omega)]
    rw [e]
    exact mem_get _ 0 p _ (by simp) (by omega) (by omega)
  · by_cases e : s + j < t
    · rw [Int.emod_eq_of_lt (by omega) e]
      exact mem_after _ _ s hs (by omega)
    · have e2 : (s + j) % t = s + j - t := by
        have e4 : (s + j - t + t) % t = (s + j - t) % t := Int.add_emod_right _ _
        rw [show s + j - t + t = s + j from by omega] at e4
        rw [e4, Int.emod_eq_of_lt (by omega) (by omega)]
      rw [e2]
      exact mem_first p r 0 t _ h (by omega)

end Go.Proofs.Ytapflikdoiedeaa.Plain
