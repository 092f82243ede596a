/-
  The comparison of two lists of numbers that are the same.
-/
import Derived.Test.YtglcimahdgnnnaaMak
namespace Go.Proofs.Ytglcimahdgnnnaa.Eq6
open Go.ChangeShapes Go.WideShapes Go.ChangeAt Go.RowKit Dyn Mem Src PSm PChk PLim PPer PSpd PTim
set_option linter.unusedVariables false

/-- the slice of n numbers at A reads as f -/
def Fn (w : World) (A : Option Addr) (n : Nat) (f : Nat → Int) : Prop := ∀ i, i < n → ∃ ad, A = some ad ∧ ad.block < w.heap.size ∧ w.cell? (ad.add i) = some (.int .i64 (f i))
section
variable {w w' : World} {A : Option Addr} {n : Nat} {f f' : Nat → Int} {g : Nat}
theorem Fn.nil : Fn w A 0 f := fun i h => by omega
theorem Fn.below (h : Fn w A n f) (hb : Below w.heap.size w w') : Fn w' A n f := fun i hi => by
  obtain ⟨ad, e, h1, h2⟩ := h i hi
  exact ⟨ad, e, Nat.lt_of_lt_of_le h1 hb.size, (hb.cell (by rw [Mem.block_add]; exact h1)).trans h2⟩
theorem Fn.row (h : Row w g n f) : Fn w (some ⟨g, 0, none⟩) n f := fun i hi => ⟨_, rfl, h.lt, by
  have ea : (⟨g, 0, none⟩ : Addr).add i = ⟨g, i, none⟩ := by
    unfold Addr.add
    by_cases h0 : i = 0
    · subst h0; rfl
    · simp [h0]
  rw [ea]; exact h.cell hi⟩
theorem Fn.congr (h : Fn w A n f) (e : ∀ i, i < n → f i = f' i) : Fn w A n f' := fun i hi => by
  obtain ⟨ad, e1, h1, h2⟩ := h i hi
  exact ⟨ad, e1, h1, by rw [← e i hi]; exact h2⟩
end
set_option maxHeartbeats 1000000 in
theorem same_fn (A : Option Addr) (n c : Nat) (A2 : Option Addr) (c2 : Nat) (f : Nat → Int) (w : World) (hL : Fn w A n f) (hM : Fn w A2 n f) (hn : n ≤ 9223372036854775807) :
    Calls Try.prog 17 #[.slice A n c, .slice A2 n c2] w (BoolPost true w) := by
  go_enter Try.func17, Try.ntmps17
  go_wp2
  go_loopw [13] (fun i wr => ∃ k : Nat, k ≤ n ∧ i = .int .i64 k ∧ Below w.heap.size w wr) (fun i _ => n - (intOf i).toNat)
  case atStart => exact ⟨0, Nat.zero_le _, rfl, Below.refl _ _⟩
  case round =>
    obtain ⟨k, hk, rfl, hbw⟩ := hrel
    by_cases hlt : k < n
    · obtain ⟨ad, rfl, hab, d0⟩ := hL.below hbw k hlt
      obtain ⟨ad2, rfl, hab2, e0⟩ := hM.below hbw k hlt
      have hkn : (k : Int) < (n : Int) := by omega
      clear hL hM
      go_wp2
      go_quiet (fail)
      go_wp2
      go_roundw
      case rel => exact ⟨k + 1, by omega, by go_num, Mem.below_draws hbw _⟩
      case measure => simp [intOf]; omega
    · clear hL hM
      go_wp2
      go_ret
      exact ⟨rfl, hbw⟩
end Go.Proofs.Ytglcimahdgnnnaa.Eq6
