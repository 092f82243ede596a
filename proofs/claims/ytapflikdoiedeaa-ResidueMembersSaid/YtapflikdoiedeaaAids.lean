/-
  Facts that the last walks of this seat use: a question with a known answer, members of sums told one by one, where no next residue is.
-/
import Derived.Test.YtapflikdoiedeaaUni
import Derived.Test.YtapflikdoiedeaaAsk
import Derived.Test.YtapflikdoiedeaaCMath
namespace Go.Proofs.Ytapflikdoiedeaa.Aids
open Go.ChangeShapes Go.WideShapes Go.ChangeAt Go.RowKit Plain Mem
set_option linter.unusedVariables false

theorem has_is (t : Int) (A : Option Addr) (n c : Nat) (L : List Sp) (x : Int) (b : Bool) (w : World) (h : RefAsk.hasB t L x = b) (ht0 : -9223372036854775808 ≤ t) (ht : t ≤ 9223372036854775807) (hx0 : -9223372036854775808 ≤ x) (hx1 : x ≤ 9223372036854775807)
    (hS : Spans w w.heap.size A n L) (hn : n ≤ 9223372036854775807) :
    Calls Try.prog 36 #[.int .i64 t, .slice A n c, .int .i64 x] w fun e w' => e = .returned (.bool b) ∧ Below w.heap.size w w' := h ▸ Ask.has_any t A n c L x w ht0 ht hx0 hx1 hS hn
theorem has_at (k : Nat) (L : List Sp) (x : Int) (h : Valid.vl (k : Int) L = true) : RefAsk.hasB (k : Int) L x = mem L (x % k) := by
  unfold RefAsk.hasB
  rw [h]
  rfl

/-- whether one of the first d residues of the one set has its difference in the other one -/
def wantB (k : Int) (La Lb : List Sp) (X : Int) (d : Nat) : Bool := (List.range d).any fun (e : Nat) => mem La (e : Int) && mem Lb ((X - (e : Int)) % k)
theorem wantB_succ (k : Int) (La Lb : List Sp) (X : Int) (d : Nat) : wantB k La Lb X (d + 1) = (wantB k La Lb X d || (mem La (d : Int) && mem Lb ((X - (d : Int)) % k))) := by
  simp [wantB, List.range_succ]
theorem wantB_all (k : Nat) (La Lb : List Sp) (X : Int) (hk : 1 ≤ k) (ha : vf 0 k La = true) (hb : vf 0 k Lb = true) (h0 : 0 ≤ X) (h1 : X < k) : wantB k La Lb X k = sumOf k La Lb X := by
  rw [Bool.eq_iff_iff, sum_iff k La Lb X (by omega) ha hb h0 h1]
  simp only [wantB, List.any_eq_true, List.mem_range, Bool.and_eq_true]
  constructor
  · rintro ⟨e, he, h⟩
    exact ⟨e, by omega, by omega, h.1, h.2⟩
  · rintro ⟨d, d0, d1, h1, h2⟩
    refine ⟨d.toNat, by omega, ?_⟩
    rw [Int.toNat_of_nonneg d0]
    exact ⟨h1, h2⟩
theorem none_empty (t s d : Int) (L : List Sp) (ht : 1 ≤ t) (hL : vf 0 t L = true) (h : NextIs true t (mem L) s d false) : L = [] ∧ d = 0 := by
  rcases h with ⟨h, _⟩ | ⟨_, rfl, h⟩
  · cases h
  · rcases h with h | h
    · cases h
    · refine ⟨?_, rfl⟩
      cases L with
      | nil => rfl
      | cons p r =>
        have hp := (vf_cons 0 t p r).1 hL
        have k0 : 0 ≤ (p.1 - s) % t := Int.emod_nonneg _ (by omega)
        have k1 : (p.1 - s) % t < t := Int.emod_lt_of_pos _ (by omega)
        have := h _ k0 k1
        rw [Int.add_emod_emod, show s + (p.1 - s) = p.1 from by omega, Int.emod_eq_of_lt (by omega) (by omega), mem_cons] at this
        simp [hp.2.1] at this
theorem found_at {t s d : Int} {f : Int → Bool} (h : NextIs true t f s d true) : 0 ≤ d ∧ d < t ∧ f ((s + d) % t) = true ∧ ∀ k, 0 ≤ k → k < d → f ((s + k) % t) = false := by
  rcases h with ⟨_, _, h0, h1, h2, h3⟩ | ⟨h, _⟩
  · exact ⟨h0, h1, h2, h3⟩
  · cases h

/-- a set of residues of 10 is told by its ten answers -/
theorem ten (L M : List Sp) (f : Int → Bool) (h : Uni.Is 0 10 f L) (hM : vf 0 10 M = true) (hf : ((List.range 10).all fun (n : Nat) => f (n : Int) == mem M (n : Int)) = true) : L = M := by
  obtain ⟨h1, h2⟩ := h.1 rfl
  refine vf_ext L M 0 10 h1 hM fun y => ?_
  by_cases hy : 0 ≤ y ∧ y < 10
  · rw [h2 y hy.1 hy.2]
    have := List.all_eq_true.1 hf y.toNat (List.mem_range.2 (by omega))
    rw [Int.toNat_of_nonneg hy.1] at this
    exact beq_iff_eq.1 this
  · rw [vf_out L 0 10 y h1 (by omega), vf_out M 0 10 y hM (by omega)]
theorem two_spans (w : World) (a b c d : Int) (T : TypeId) : Spans (w.alloc (.cells #[.int .i64 a, .int .i64 b, .int .i64 c, .int .i64 d] T)) (w.heap.size + 1) (some ⟨w.heap.size, 0, none⟩) 2 [(a, b), (c, d)] := by
  refine ⟨rfl, fun j u hu => ⟨_, rfl, by simp, ?_⟩⟩
  match j, hu with
  | 0, hu => simp [cs] at hu; subst hu; simp [Addr.add]
  | 1, hu => simp [cs] at hu; subst hu; simp [Addr.add]
  | 2, hu => simp [cs] at hu; subst hu; simp [Addr.add]
  | 3, hu => simp [cs] at hu; subst hu; simp [Addr.add]

end Go.Proofs.Ytapflikdoiedeaa.Aids
