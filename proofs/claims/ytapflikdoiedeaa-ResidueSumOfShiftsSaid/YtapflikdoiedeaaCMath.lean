/-
  Facts of counting residues: the size of a set, of its complement, of a shifted set; sums with one residue; shifts that add up; members of sums. No program is named here.
-/
import Derived.Test.YtapflikdoiedeaaQMath
import Derived.Test.YtapflikdoiedeaaOMath
namespace Go.Proofs.Ytapflikdoiedeaa.Plain
set_option linter.unusedVariables false

/-- how many of the n numbers from a on have f -/
def cntR (f : Int → Bool) : Int → Nat → Int
  | _, 0 => 0
  | a, n + 1 => (if f a then 1 else 0) + cntR f (a + 1) n

theorem cnt_split (f : Int → Bool) (a : Int) (m n : Nat) : cntR f a (m + n) = cntR f a m + cntR f (a + m) n := by
  induction m generalizing a with
  | zero => simp [cntR]
  | succ m ih =>
    rw [show m + 1 + n = (m + n) + 1 from by omega]
    simp only [cntR]
    rw [ih, show a + 1 + (m : Int) = a + ((m + 1 : Nat) : Int) from by omega]
    omega
theorem cnt_congr (f g : Int → Bool) (a : Int) (n : Nat) (h : ∀ x, a ≤ x → x < a + n → f x = g x) : cntR f a n = cntR g a n := by
  induction n generalizing a with
  | zero => rfl
  | succ n ih =>
    simp only [cntR]
    rw [h a (Int.le_refl _) (by omega), ih (a + 1) (fun x h1 h2 => h x (by omega) (by omega))]
theorem cnt_not (f : Int → Bool) (a : Int) (n : Nat) : cntR f a n + cntR (fun x => !f x) a n = n := by
  induction n generalizing a with
  | zero => rfl
  | succ n ih =>
    have := ih (a + 1)
    simp only [cntR]
    by_cases c : f a = true
    · simp [c]; omega
    · simp [c]; omega
theorem cnt_shift (f : Int → Bool) (c a : Int) (n : Nat) : cntR (fun i => f (i + c)) a n = cntR f (a + c) n := by
  induction n generalizing a with
  | zero => rfl
  | succ n ih =>
    simp only [cntR]
    rw [ih, show a + 1 + c = a + c + 1 from by omega]
theorem cnt_all (f : Int → Bool) (a : Int) (n : Nat) (h : ∀ x, a ≤ x → x < a + n → f x = true) : cntR f a n = n := by
  induction n generalizing a with
  | zero => rfl
  | succ n ih =>
    simp only [cntR]
    rw [h a (Int.le_refl _) (by omega), ih (a + 1) (fun x h1 h2 => h x (by omega) (by omega))]
    simp; omega
theorem cnt_none (f : Int → Bool) (a : Int) (n : Nat) (h : ∀ x, a ≤ x → x < a + n → f x = false) : cntR f a n = 0 := by
  induction n generalizing a with
  | zero => rfl
  | succ n ih =>
    simp only [cntR]
    rw [h a (Int.le_refl _) (by omega), ih (a + 1) (fun x h1 h2 => h x (by omega) (by omega))]
    simp

theorem size_cnt (L : List Sp) (a b t : Int) (h : vf a t L = true) (hb : b ≤ a) (ht : b ≤ t) : size L = cntR (mem L) b (t - b).toNat := by
  induction L generalizing a b with
  | nil => rw [cnt_none (mem []) _ _ (fun x _ _ => mem_nil x)]; rfl
  | cons p r ih =>
    rw [vf_cons] at h
    have low := fun x (hx : x < p.2 + 1) => vf_out r (p.2 + 1) t x h.2.2.2 (.inl hx)
    have e1 : (t - b).toNat = (p.1 - b).toNat + ((p.2 - p.1).toNat + (t - p.2).toNat) := by omega
    rw [e1, cnt_split, cnt_split]
    rw [cnt_none _ b _ (fun x h1 h2 => by rw [mem_cons, low x (by omega)]; simp; omega)]
    rw [cnt_all _ (b + ((p.1 - b).toNat : Int)) _ (fun x h1 h2 => by rw [mem_cons]; simp; left; omega)]
    rw [show b + ((p.1 - b).toNat : Int) + ((p.2 - p.1).toNat : Int) = p.2 from by omega]
    rw [cnt_congr (mem (p :: r)) (mem r) p.2 _ (fun x h1 h2 => by
      rw [mem_cons]
      have : decide (x < p.2) = false := by simp; omega
      rw [this]; simp)]
    rw [← ih (p.2 + 1) p.2 h.2.2.2 (by omega) h.2.2.1]
    simp only [size]
    omega

theorem compl_size (t : Int) (L M : List Sp) (ht : 1 ≤ t) (hL : vf 0 t L = true) (hM : vf 0 t M = true) (h : ∀ x, 0 ≤ x → x < t → mem M x = !mem L x) : size L + size M = t := by
  rw [size_cnt L 0 0 t hL (Int.le_refl _) (by omega), size_cnt M 0 0 t hM (Int.le_refl _) (by omega), cnt_congr (mem M) (fun x => !mem L x) 0 _ (fun x h1 h2 => h x h1 (by omega)), cnt_not]
  omega

theorem turned_at (t D : Int) (f : Int → Bool) (x : Int) (h0 : 0 ≤ x) (h1 : x < t) (d0 : 0 ≤ D) (d1 : D < t) : turned t D f x = if D ≤ x then f (x - D) else f (x - D + t) := by
  unfold turned
  by_cases c : D ≤ x
  · rw [if_pos c, Int.emod_eq_of_lt (by omega) (by omega)]
  · rw [if_neg c]
    have : (x - D + t) % t = (x - D) % t := Int.add_emod_right _ _
    rw [← this, Int.emod_eq_of_lt (by omega) (by omega)]

theorem cnt_turned (t d : Int) (f : Int → Bool) (ht : 1 ≤ t) : cntR (turned t d f) 0 t.toNat = cntR f 0 t.toNat := by
  have d0 : 0 ≤ d % t := Int.emod_nonneg _ (by omega)
  have d1 : d % t < t := Int.emod_lt_of_pos _ (by omega)
  have e0 : cntR (turned t d f) 0 t.toNat = cntR (turned t (d % t) f) 0 t.toNat := cnt_congr _ _ _ _ (fun x _ _ => (turned_mod t d f x).symm)
  rw [e0]
  generalize d % t = D at *
  have e1 : t.toNat = D.toNat + (t - D).toNat := by omega
  have e2 : t.toNat = (t - D).toNat + D.toNat := by omega
  have a1 : cntR (turned t D f) 0 D.toNat = cntR f (t - D) D.toNat := by
    have := cnt_shift f (t - D) 0 D.toNat
    rw [Int.zero_add] at this
    rw [← this]
    exact cnt_congr _ _ _ _ (fun x h1 h2 => by rw [turned_at t D f x h1 (by omega) d0 d1, if_neg (by omega)]; congr 1; omega)
  have a2 : cntR (turned t D f) (0 + (D.toNat : Int)) (t - D).toNat = cntR f 0 (t - D).toNat := by
    have := cnt_shift f (-D) D (t - D).toNat
    rw [show D + -D = 0 from by omega] at this
    rw [← this, show (0 : Int) + (D.toNat : Int) = D from by omega]
    exact cnt_congr _ _ _ _ (fun x h1 h2 => by rw [turned_at t D f x (by omega) (by omega) d0 d1, if_pos (by omega)]; congr 1)
  have b1 := cnt_split (turned t D f) 0 D.toNat (t - D).toNat
  have b2 := cnt_split f 0 (t - D).toNat D.toNat
  rw [← e1] at b1
  rw [← e2] at b2
  rw [b1, b2, a1, a2, show (0 : Int) + ((t - D).toNat : Int) = t - D from by omega]
  omega

theorem turned_size (t d : Int) (L M : List Sp) (ht : 1 ≤ t) (hL : vf 0 t L = true) (hM : vf 0 t M = true) (h : ∀ x, 0 ≤ x → x < t → mem M x = turned t d (mem L) x) : size M = size L := by
  rw [size_cnt L 0 0 t hL (Int.le_refl _) (by omega), size_cnt M 0 0 t hM (Int.le_refl _) (by omega), cnt_congr (mem M) (turned t d (mem L)) 0 _ (fun x h1 h2 => h x h1 (by omega)), Int.sub_zero, cnt_turned t d _ ht]

/-- shifts add up -/
theorem turned_twice (t x y z : Int) (L H : List Sp) (ht : 1 ≤ t) (h : ∀ w, 0 ≤ w → w < t → mem H w = turned t x (mem L) w) : turned t y (mem H) z = turned t (x + y) (mem L) z := by
  have r0 : 0 ≤ (z - y) % t := Int.emod_nonneg _ (by omega)
  have r1 : (z - y) % t < t := Int.emod_lt_of_pos _ (by omega)
  unfold turned
  rw [h _ r0 r1]
  unfold turned
  rw [Int.emod_sub_emod]
  congr 2
  omega

/-- one residue alone -/
theorem one_list (t x : Int) (One : List Sp) (hx0 : 0 ≤ x) (hx1 : x < t) (h1 : vf 0 t One = true) (h2 : ∀ y, 0 ≤ y → y < t → mem One y = arc t x 1 y) : One = [(x, x + 1)] := by
  refine vf_ext One _ 0 t h1 ((vf_cons 0 t (x, x + 1) []).2 ⟨hx0, by simp only; omega, by simp only; omega, rfl⟩) fun y => ?_
  rw [mem_one]
  by_cases hy : 0 ≤ y ∧ y < t
  · rw [h2 y hy.1 hy.2]
    have r0 : 0 ≤ (y - x) % t := Int.emod_nonneg _ (by omega)
    have k := rot_eq y x 0 t hy.1 hy.2 (Int.le_refl _) (by omega)
    rw [Int.add_zero, Int.emod_eq_of_lt hx0 hx1] at k
    rw [Bool.eq_iff_iff]
    simp only [arc, decide_eq_true_eq, Bool.and_eq_true]
    omega
  · rw [vf_out One 0 t y h1 (by omega)]
    symm
    simp; omega
theorem sum_one (t x : Int) (L : List Sp) (z : Int) (ht : 1 ≤ t) (hL : vf 0 t L = true) : sumOf t L [(x, x + 1)] z = turned t x (mem L) z := by
  have r0 : 0 ≤ (z - x) % t := Int.emod_nonneg _ (by omega)
  have r1 : (z - x) % t < t := Int.emod_lt_of_pos _ (by omega)
  unfold turned
  rw [Bool.eq_iff_iff]
  simp only [sumOf, mem, List.any_eq_true, List.mem_singleton, exists_eq_left]
  have key : ∀ p ∈ L, arc t (p.1 + x) (p.2 - p.1 + (x + 1) - x - 1) z = (decide (p.1 ≤ (z - x) % t) && decide ((z - x) % t < p.2)) := by
    intro p hp
    have hv := vf_all L 0 t hL p hp
    have e : (z - (p.1 + x)) % t = ((z - x) % t - p.1) % t := by rw [Int.emod_sub_emod]; congr 1; omega
    unfold arc
    rw [e]
    generalize (z - x) % t = r at *
    rw [Bool.eq_iff_iff]
    by_cases c : p.1 ≤ r
    · rw [Int.emod_eq_of_lt (by omega) (by omega)]
      simp; omega
    · have e2 : (r - p.1) % t = r - p.1 + t := by
        have : (r - p.1 + t) % t = (r - p.1) % t := Int.add_emod_right _ _
        rw [← this, Int.emod_eq_of_lt (by omega) (by omega)]
      rw [e2]
      simp; omega
  constructor
  · rintro ⟨p, hp, h⟩
    exact ⟨p, hp, by rw [← key p hp]; exact h⟩
  · rintro ⟨p, hp, h⟩
    exact ⟨p, hp, by rw [key p hp]; exact h⟩

/-- the members of a sum -/
theorem sum_iff (t : Int) (L M : List Sp) (x : Int) (ht : 1 ≤ t) (hL : vf 0 t L = true) (hM : vf 0 t M = true) (h0 : 0 ≤ x) (h1 : x < t) :
    sumOf t L M x = true ↔ ∃ d, 0 ≤ d ∧ d < t ∧ mem L d = true ∧ mem M ((x - d) % t) = true := by
  rw [← sum_two t L M x ht hL hM h0 h1]
  have z : ∀ y, sumZ L M y = true ↔ ∃ q ∈ M, ∃ p ∈ L, p.1 + q.1 ≤ y ∧ y < p.2 + q.2 - 1 := fun y => by
    simp [sumZ]
  have mk : ∀ d, mem L d = true ↔ ∃ p ∈ L, p.1 ≤ d ∧ d < p.2 := fun d => by simp [mem]
  have mk2 : ∀ d, mem M d = true ↔ ∃ q ∈ M, q.1 ≤ d ∧ d < q.2 := fun d => by simp [mem]
  have one : ∀ y, (y = x ∨ y = x + t) → sumZ L M y = true → ∃ d, 0 ≤ d ∧ d < t ∧ mem L d = true ∧ mem M ((x - d) % t) = true := by
    intro y hy h
    obtain ⟨q, hq, p, hp, h1', h2'⟩ := (z y).1 h
    have a1 := vf_all L 0 t hL p hp
    have a2 := vf_all M 0 t hM q hq
    -- the part of y in the first span
    have hd : ∃ d, p.1 ≤ d ∧ d < p.2 ∧ q.1 ≤ y - d ∧ y - d < q.2 := by
      by_cases c : y - q.1 < p.2
      · exact ⟨y - q.1, by omega, c, by omega, by omega⟩
      · exact ⟨p.2 - 1, by omega, by omega, by omega, by omega⟩
    obtain ⟨d, d1, d2, d3, d4⟩ := hd
    refine ⟨d, by omega, by omega, (mk d).2 ⟨p, hp, d1, d2⟩, (mk2 _).2 ⟨q, hq, ?_⟩⟩
    have e : (x - d) % t = y - d := by
      rcases hy with rfl | rfl
      · exact Int.emod_eq_of_lt (by omega) (by omega)
      · have : (x - d + t) % t = (x - d) % t := Int.add_emod_right _ _
        rw [← this, Int.emod_eq_of_lt (by omega) (by omega)]
        omega
    rw [e]
    exact ⟨d3, d4⟩
  rw [Bool.or_eq_true]
  constructor
  · rintro (h | h)
    · exact one x (.inl rfl) h
    · exact one (x + t) (.inr rfl) h
  · rintro ⟨d, d0, d1, hl, hm⟩
    obtain ⟨p, hp, p1, p2⟩ := (mk d).1 hl
    obtain ⟨q, hq, q1, q2⟩ := (mk2 _).1 hm
    have a2 := vf_all M 0 t hM q hq
    by_cases c : d ≤ x
    · rw [Int.emod_eq_of_lt (by omega) (by omega)] at q1 q2
      exact .inl ((z x).2 ⟨q, hq, p, hp, by omega, by omega⟩)
    · have e : (x - d) % t = x - d + t := by
        have : (x - d + t) % t = (x - d) % t := Int.add_emod_right _ _
        rw [← this, Int.emod_eq_of_lt (by omega) (by omega)]
      rw [e] at q1 q2
      exact .inr ((z (x + t)).2 ⟨q, hq, p, hp, by omega, by omega⟩)

end Go.Proofs.Ytapflikdoiedeaa.Plain
