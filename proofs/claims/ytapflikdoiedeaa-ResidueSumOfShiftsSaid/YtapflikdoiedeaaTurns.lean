/-
  Facts of residues that the walks of this seat use: turning a set round its period, sums of spans. No program is named here.
-/
import Derived.Test.YtapflikdoiedeaaMath
namespace Go.Proofs.Ytapflikdoiedeaa.Plain

theorem rot_eq (i s k t : Int) (h0 : 0 ≤ i) (h1 : i < t) (k0 : 0 ≤ k) (k1 : k < t) : (i - s) % t = k ↔ i = (s + k) % t := by
  constructor
  · intro h
    have : (s + (i - s) % t) % t = i % t := by rw [Int.add_emod_emod]; congr 1; omega
    rw [← h, this, Int.emod_eq_of_lt h0 h1]
  · intro h
    have : ((s + k) % t - s) % t = k % t := by rw [Int.emod_sub_emod]; congr 1; omega
    rw [h, this, Int.emod_eq_of_lt k0 k1]

/-- the residues of s, s + 1, .., s + n - 1 -/
def arc (t s n : Int) (x : Int) : Bool := decide ((x - s) % t < n)
theorem arc_none (t s n x : Int) (ht : 1 ≤ t) (hn : n < 1) : arc t s n x = false := by
  have := Int.emod_nonneg (x - s) (show t ≠ 0 by omega)
  simp [arc]; omega
theorem arc_all (t s n x : Int) (ht : 1 ≤ t) (hn : t ≤ n) : arc t s n x = true := by
  have := Int.emod_lt_of_pos (x - s) (show 0 < t by omega)
  simp [arc]; omega
theorem arc_step (t s k i : Int) (h0 : 0 ≤ i) (h1 : i < t) (k0 : 0 ≤ k) (k1 : k < t) : (if i = (s + k) % t then true else arc t s k i) = arc t s (k + 1) i := by
  have h := rot_eq i s k t h0 h1 k0 k1
  by_cases e : i = (s + k) % t
  · rw [if_pos e]
    have := h.2 e
    simp [arc]; omega
  · rw [if_neg e]
    have : (i - s) % t ≠ k := fun h' => e (h.1 h')
    rw [Bool.eq_iff_iff]
    simp [arc]; omega
theorem arc_mod (t s n x : Int) : arc t (s % t) n x = arc t s n x := by
  unfold arc
  rw [Int.sub_emod_emod]

/-- the residues that the set f has, turned by d -/
def turned (t d : Int) (f : Int → Bool) (x : Int) : Bool := f ((x - d) % t)
theorem turned_mod (t d : Int) (f : Int → Bool) (x : Int) : turned t (d % t) f x = turned t d f x := by
  unfold turned
  rw [Int.sub_emod_emod]
theorem turned_step (t d k i : Int) (f : Int → Bool) (h0 : 0 ≤ i) (h1 : i < t) (k0 : 0 ≤ k) (k1 : k < t) (hf : f k = true) :
    (if i = (k + d) % t then true else (turned t d f i && decide ((i - d) % t < k))) = (turned t d f i && decide ((i - d) % t < k + 1)) := by
  have h := rot_eq i d k t h0 h1 k0 k1
  rw [show d + k = k + d from by omega] at h
  by_cases e : i = (k + d) % t
  · rw [if_pos e]
    have e2 := h.2 e
    simp [turned, e2, hf]; omega
  · rw [if_neg e]
    have : (i - d) % t ≠ k := fun h' => e (h.1 h')
    congr 1
    rw [Bool.eq_iff_iff]
    simp; omega
theorem turned_skip (t d k i : Int) (f : Int → Bool) (hf : f k = false) :
    (turned t d f i && decide ((i - d) % t < k)) = (turned t d f i && decide ((i - d) % t < k + 1)) := by
  by_cases e : (i - d) % t = k
  · simp [turned, e, hf]
  · congr 1
    rw [Bool.eq_iff_iff]
    simp; omega

/-- the residues of the sums of one number of each of two lists -/
def sumOf (t : Int) (L M : List Sp) (x : Int) : Bool := L.any fun p => M.any fun q => arc t (p.1 + q.1) (p.2 - p.1 + q.2 - q.1 - 1) x
/-- the part of the sum of one span -/
def sumOne (t : Int) (p : Sp) (M : List Sp) (x : Int) : Bool := M.any fun q => arc t (p.1 + q.1) (p.2 - p.1 + q.2 - q.1 - 1) x
theorem sumOf_take (t : Int) (L M : List Sp) (k : Nat) (p : Sp) (x : Int) (h : L[k]? = some p) : sumOf t (L.take (k + 1)) M x = (sumOf t (L.take k) M x || sumOne t p M x) := by
  have hk : k < L.length := (List.getElem?_eq_some_iff.1 h).1
  have e : L[k] = p := (List.getElem?_eq_some_iff.1 h).2
  rw [List.take_succ_eq_append_getElem hk, e]
  simp [sumOf, sumOne]
theorem sumOne_take (t : Int) (p : Sp) (M : List Sp) (k : Nat) (q : Sp) (x : Int) (h : M[k]? = some q) : sumOne t p (M.take (k + 1)) x = (sumOne t p (M.take k) x || arc t (p.1 + q.1) (p.2 - p.1 + q.2 - q.1 - 1) x) := by
  have hk : k < M.length := (List.getElem?_eq_some_iff.1 h).1
  have e : M[k] = q := (List.getElem?_eq_some_iff.1 h).2
  rw [List.take_succ_eq_append_getElem hk, e]
  simp [sumOne]

end Go.Proofs.Ytapflikdoiedeaa.Plain
