/-
  Contracts of Gcd of package arith and of the document's own answer: the greatest common divisor.
-/
import Derived.Test.YtppfkamojppjjaaCalls
namespace Go.Proofs.Ytppfkamojppjjaa.Gcd1
open Go.ChangeShapes Go.WideShapes Go.ChangeAt Go.RowKit
set_option linter.unusedVariables false

theorem gcd_step (x y : Nat) : Nat.gcd y (x % y) = Nat.gcd x y := by
  rw [Nat.gcd_comm x y, Nat.gcd_rec y x, Nat.gcd_comm]

theorem grown_drewN {w w' : World} (n : Nat) (h : Grown w w') : Grown w (w'.drewN n) := by
  induction n with
  | zero => simpa [World.drewN] using h
  | succ n ih => exact ih.drew

theorem gcd_any (a b : Nat) (w : World) (h1 : (a : Int) ≤ 9223372036854775807) (h2 : (b : Int) ≤ 9223372036854775807) :
    Calls Try.prog 14 #[.int .i64 a, .int .i64 b] w fun e w' => e = .returned (.tuple #[.int .i64 (Nat.gcd a b), .int .i64 0]) ∧ ∃ m, w' = w.drewN m := by
  go_enter Try.func14, Try.ntmps14
  go_wp2
  go_loopw [0, 1] (fun x y w' => ∃ c d : Nat, (c : Int) ≤ 9223372036854775807 ∧ (d : Int) ≤ 9223372036854775807 ∧ Hid (Nat.gcd c d = Nat.gcd a b) ∧ (∃ m, w' = w.drewN m) ∧ x = .int .i64 c ∧ y = .int .i64 d) (fun _ y _ => (intOf y).toNat)
  case atStart => exact ⟨a, b, h1, h2, Lib.hid rfl, ⟨0, rfl⟩, rfl, rfl⟩
  case round =>
    obtain ⟨c, d, c1, d1, G, ⟨m, rfl⟩, rfl, rfl⟩ := hrel
    by_cases hd : d = 0
    · subst hd
      go_wp2
      all_goals go_ret2
      all_goals exact ⟨Calls1.ret2 (k := .i64) (by have := G.out; rw [Nat.gcd_zero_right] at this; omega) rfl, m, rfl⟩
    · have hd2 : 1 ≤ (d : Int) := by omega
      have hr : (c : Int) % d < d := Int.emod_lt_of_pos _ (by omega)
      have hr0 : 0 ≤ (c : Int) % d := Int.emod_nonneg _ (by omega)
      go_wp2
      go_quiet (fail)
      all_goals go_wp2
      all_goals go_roundw
      case rel => exact ⟨d, c % d, d1, by rw [Int.natCast_emod]; omega, Lib.hid (by rw [gcd_step]; exact G.out), ⟨m + nq, by simp⟩, rfl, by rw [Int.natCast_emod]⟩
      case measure => simp [intOf]; omega

theorem gcd_ref (a b : Nat) (w : World) (h1 : (a : Int) ≤ 9223372036854775807) (h2 : (b : Int) ≤ 9223372036854775807) :
    Calls Try.prog 24 #[.int .i64 a, .int .i64 b] w fun e w' => e = .returned (.tuple #[.int .i64 (Nat.gcd a b), .int .i64 0]) ∧ ∃ m, w' = w.drewN m := by
  go_enter Try.func24, Try.ntmps24
  go_wp2
  go_loopw [0, 1] (fun x y w' => ∃ c d : Nat, (c : Int) ≤ 9223372036854775807 ∧ (d : Int) ≤ 9223372036854775807 ∧ Hid (Nat.gcd c d = Nat.gcd a b) ∧ (∃ m, w' = w.drewN m) ∧ x = .int .i64 c ∧ y = .int .i64 d) (fun _ y _ => (intOf y).toNat)
  case atStart => exact ⟨a, b, h1, h2, Lib.hid rfl, ⟨0, rfl⟩, rfl, rfl⟩
  case round =>
    obtain ⟨c, d, c1, d1, G, ⟨m, rfl⟩, rfl, rfl⟩ := hrel
    by_cases hd : d = 0
    · subst hd
      go_wp2
      all_goals go_ret2
      all_goals exact ⟨Calls1.ret2 (k := .i64) (by have := G.out; rw [Nat.gcd_zero_right] at this; omega) rfl, m, rfl⟩
    · have hd2 : 1 ≤ (d : Int) := by omega
      have hr : (c : Int) % d < d := Int.emod_lt_of_pos _ (by omega)
      have hr0 : 0 ≤ (c : Int) % d := Int.emod_nonneg _ (by omega)
      go_wp2
      go_quiet (fail)
      all_goals go_wp2
      all_goals go_roundw
      case rel => exact ⟨d, c % d, d1, by rw [Int.natCast_emod]; omega, Lib.hid (by rw [gcd_step]; exact G.out), ⟨m + nq, by simp⟩, rfl, by rw [Int.natCast_emod]⟩
      case measure => simp [intOf]; omega

theorem gcd_neg (a b : Int) (w : World) (h : a < 0 ∨ b < 0) :
    Calls Try.prog 14 #[.int .i64 a, .int .i64 b] w fun e w' => e = .returned (.tuple #[.int .i64 0, .int .i64 1]) ∧ w = w' := by
  by_cases ha : a < 0
  · clear h
    go_enter Try.func14, Try.ntmps14
    go_wp2
    all_goals go_ret2
    all_goals exact ⟨rfl, rfl⟩
  · have hb : b < 0 := by omega
    clear h
    go_enter Try.func14, Try.ntmps14
    go_wp2
    all_goals go_ret2
    all_goals exact ⟨rfl, rfl⟩

theorem gcd_at (x y : Int) (a b g : Nat) (w : World) (hx : x = a) (hy : y = b) (hg : Nat.gcd a b = g) (h1 : x ≤ 9223372036854775807) (h2 : y ≤ 9223372036854775807) :
    Calls Try.prog 14 #[.int .i64 x, .int .i64 y] w fun e w' => e = .returned (.tuple #[.int .i64 g, .int .i64 0]) ∧ ∃ m, w' = w.drewN m := by
  subst hx hy hg
  exact gcd_any a b w h1 h2
theorem gcd_rat (x y : Int) (a b g : Nat) (w : World) (hx : x = a) (hy : y = b) (hg : Nat.gcd a b = g) (h1 : x ≤ 9223372036854775807) (h2 : y ≤ 9223372036854775807) :
    Calls Try.prog 24 #[.int .i64 x, .int .i64 y] w fun e w' => e = .returned (.tuple #[.int .i64 g, .int .i64 0]) ∧ ∃ m, w' = w.drewN m := by
  subst hx hy hg
  exact gcd_ref a b w h1 h2
theorem gcd_facts (a b g k : Nat) (hg : Nat.gcd a b = g) (h : 1 ≤ a ∨ 1 ≤ b) (ha : (a : Int) ≤ 9223372036854775807) (hb : (b : Int) ≤ 9223372036854775807) :
    1 ≤ (g : Int) ∧ (g : Int) ≤ 9223372036854775807 ∧ (a : Int) % g = 0 ∧ (b : Int) % g = 0 ∧ Nat.gcd (a + k * b) b = g := by
  subst hg
  have d1 : (Nat.gcd a b) ∣ a := Nat.gcd_dvd_left a b
  have d2 : (Nat.gcd a b) ∣ b := Nat.gcd_dvd_right a b
  have hp : 0 < Nat.gcd a b := by
    rcases h with h | h
    · exact Nat.gcd_pos_of_pos_left b h
    · exact Nat.gcd_pos_of_pos_right a h
  have hl : Nat.gcd a b ≤ a ∨ Nat.gcd a b ≤ b := by
    rcases h with h | h
    · exact Or.inl (Nat.le_of_dvd h d1)
    · exact Or.inr (Nat.le_of_dvd h d2)
  refine ⟨by omega, by omega, ?_, ?_, by simp⟩
  · exact_mod_cast Nat.mod_eq_zero_of_dvd d1
  · exact_mod_cast Nat.mod_eq_zero_of_dvd d2
theorem prod_u8 (k b : Nat) (h : k ≤ 255) (hb : (b : Int) ≤ 1099511627776) : 0 ≤ (k : Int) * b ∧ (k : Int) * b ≤ 280375465082880 := by
  have a1 : (k : Int) * b ≤ 255 * b := Int.mul_le_mul_of_nonneg_right (by omega) (by omega)
  have a2 : 0 ≤ (k : Int) * b := Int.mul_nonneg (by omega) (by omega)
  exact ⟨a2, by omega⟩

end Go.Proofs.Ytppfkamojppjjaa.Gcd1
