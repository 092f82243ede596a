/-
  Contracts of math/bits.Len64 and Len for numbers of an int, of powerAboveRoot and of Sqrt.
-/
import Derived.Test.YtglcimahdgnnnaaArithCalls
namespace Go.Proofs.Ytglcimahdgnnnaa.Root
open Go.ChangeShapes Go.WideShapes Go.ChangeAt Go.RowKit
set_option linter.unusedVariables false

def tabl : List UInt8 := [0, 1, 2, 2, 3, 3, 3, 3, 4, 4, 4, 4, 4, 4, 4, 4, 5, 5, 5, 5, 5, 5, 5, 5, 5, 5, 5, 5, 5, 5, 5, 5, 6, 6, 6, 6, 6, 6, 6, 6, 6, 6, 6, 6, 6, 6, 6, 6, 6, 6,
    6, 6, 6, 6, 6, 6, 6, 6, 6, 6, 6, 6, 6, 6, 7, 7, 7, 7, 7, 7, 7, 7, 7, 7, 7, 7, 7, 7, 7, 7, 7, 7, 7, 7, 7, 7, 7, 7, 7, 7, 7, 7, 7, 7, 7, 7, 7, 7, 7, 7,
    7, 7, 7, 7, 7, 7, 7, 7, 7, 7, 7, 7, 7, 7, 7, 7, 7, 7, 7, 7, 7, 7, 7, 7, 7, 7, 7, 7, 8, 8, 8, 8, 8, 8, 8, 8, 8, 8, 8, 8, 8, 8, 8, 8, 8, 8, 8, 8, 8, 8,
    8, 8, 8, 8, 8, 8, 8, 8, 8, 8, 8, 8, 8, 8, 8, 8, 8, 8, 8, 8, 8, 8, 8, 8, 8, 8, 8, 8, 8, 8, 8, 8, 8, 8, 8, 8, 8, 8, 8, 8, 8, 8, 8, 8, 8, 8, 8, 8, 8, 8,
    8, 8, 8, 8, 8, 8, 8, 8, 8, 8, 8, 8, 8, 8, 8, 8, 8, 8, 8, 8, 8, 8, 8, 8, 8, 8, 8, 8, 8, 8, 8, 8, 8, 8, 8, 8, 8, 8, 8, 8, 8, 8, 8, 8, 8, 8, 8, 8, 8, 8,
    8, 8, 8, 8, 8, 8]
def tab : ByteArray := ⟨tabl.toArray⟩
theorem tabl_len : tabl.length = 256 := by decide +kernel
theorem tab_size : tab.size = 256 := by decide +kernel
theorem tab_all : (List.range 256).all (fun x => decide ((tabl.getD x 0).toNat ≤ 8 ∧ x < 2 ^ (tabl.getD x 0).toNat)) = true := by decide +kernel
theorem tab_ok (x : Nat) (h : x < tab.size) : (tab[x]'h).toNat ≤ 8 ∧ x < 2 ^ (tab[x]'h).toNat := by
  have hx : x < 256 := by rw [← tab_size]; exact h
  have h2 := List.all_eq_true.1 tab_all x (by simp; omega)
  have e : tab[x]'h = tabl.getD x 0 := by
    show tabl.toArray[x]'(by simpa [tab, ByteArray.size] using h) = _
    rw [List.getElem_toArray, List.getD_eq_getElem?_getD, List.getElem?_eq_getElem (by rw [tabl_len]; exact hx)]
    rfl
  rw [e]
  exact of_decide_eq_true h2

def SomeLen (n : Int) (w : World) (e : Ending) (w' : World) : Prop := ∃ k : Int, e = .returned (.int .i64 k) ∧ 0 ≤ k ∧ k ≤ 64 ∧ n < 2 ^ k.toNat ∧ w = w'

theorem pow_split (c b : Nat) (n x : Int) (hx : 0 ≤ x) (hn : n < (x + 1) * 2 ^ c) (h : x.toNat < 2 ^ b) : n < 2 ^ (c + b) := by
  have h1 : x + 1 ≤ 2 ^ b := by
    have : ((x.toNat : Nat) : Int) + 1 ≤ ((2 ^ b : Nat) : Int) := by exact_mod_cast h
    push_cast at this
    omega
  have h2 : (x + 1) * 2 ^ c ≤ 2 ^ b * 2 ^ c := Int.mul_le_mul_of_nonneg_right h1 (Int.le_of_lt (Int.pow_pos (by decide)))
  have h3 : (2 : Int) ^ (c + b) = 2 ^ b * 2 ^ c := by rw [Int.pow_add, Int.mul_comm]
  omega

theorem close (n : Int) (c : Nat) (x : Int) (w : World) (h : x.toNat < tab.size) (hc : c ≤ 56) (hx : 0 ≤ x) (hn : n < (x + 1) * 2 ^ c) :
    SomeLen n w (.returned (.int .i64 (wrap64 ((c : Int) + wrap64 ↑(tab[x.toNat]'h).toNat)))) w := by
  obtain ⟨h1, h2⟩ := tab_ok x.toNat h
  generalize (tab[x.toNat]'h).toNat = b at h1 h2
  rw [IntWalk.wrap64_in (b : Int) (by omega), IntWalk.wrap64_in _ (by omega)]
  refine ⟨_, rfl, by omega, by omega, ?_, rfl⟩
  have := pow_split c b n x hx hn h2
  rw [show ((c : Int) + (b : Int)).toNat = c + b from by omega]
  exact this

theorem close0 (n : Int) (w : World) (h : n.toNat < tab.size) (hx : 0 ≤ n) :
    SomeLen n w (.returned (.int .i64 (wrap64 (wrap64 ↑(tab[n.toNat]'h).toNat)))) w := by
  have := close n 0 n w h (by omega) hx (by simp; omega)
  simpa using this

set_option maxRecDepth 100000 in
theorem len64_any (n : Int) (w : World) (h1 : 0 ≤ n) (h2 : n ≤ 9223372036854775807) :
    Calls Try.prog 54 #[.int .u64 n] w (SomeLen n w) := by
  by_cases c32 : 4294967296 ≤ n
  · by_cases c16 : 65536 ≤ n / 4294967296
    · by_cases c8 : 256 ≤ n / 4294967296 / 65536
      · go_enter Try.func54, Try.ntmps54
        go_wp2
        all_goals go_ret
        all_goals exact close n 56 (n / 4294967296 / 65536 / 256) w (by rw [tab_size]; omega) (by omega) (by omega) (by omega)
      · go_enter Try.func54, Try.ntmps54
        go_wp2
        all_goals go_ret
        all_goals exact close n 48 (n / 4294967296 / 65536) w (by rw [tab_size]; omega) (by omega) (by omega) (by omega)
    · by_cases c8 : 256 ≤ n / 4294967296
      · go_enter Try.func54, Try.ntmps54
        go_wp2
        all_goals go_ret
        all_goals exact close n 40 (n / 4294967296 / 256) w (by rw [tab_size]; omega) (by omega) (by omega) (by omega)
      · go_enter Try.func54, Try.ntmps54
        go_wp2
        all_goals go_ret
        all_goals exact close n 32 (n / 4294967296) w (by rw [tab_size]; omega) (by omega) (by omega) (by omega)
  · by_cases c16 : 65536 ≤ n
    · by_cases c8 : 256 ≤ n / 65536
      · go_enter Try.func54, Try.ntmps54
        go_wp2
        all_goals go_ret
        all_goals exact close n 24 (n / 65536 / 256) w (by rw [tab_size]; omega) (by omega) (by omega) (by omega)
      · go_enter Try.func54, Try.ntmps54
        go_wp2
        all_goals go_ret
        all_goals exact close n 16 (n / 65536) w (by rw [tab_size]; omega) (by omega) (by omega) (by omega)
    · by_cases c8 : 256 ≤ n
      · go_enter Try.func54, Try.ntmps54
        go_wp2
        all_goals go_ret
        all_goals exact close n 8 (n / 256) w (by rw [tab_size]; omega) (by omega) (by omega) (by omega)
      · go_enter Try.func54, Try.ntmps54
        go_wp2
        all_goals go_ret
        all_goals exact close0 n w (by rw [tab_size]; omega) (by omega)

theorem len_any (n : Int) (w : World) (h1 : 0 ≤ n) (h2 : n ≤ 9223372036854775807) :
    Calls Try.prog 52 #[.int .u64 n] w (SomeLen n w) := by
  go_enter Try.func52, Try.ntmps52
  go_wp2_with (go_at_call 54; refine (len64_any _ _ h1 h2).mono ?_; rintro e w' ⟨k, rfl, k1, k2, k3, rfl⟩; have K := Lib.hid k3; clear k3)
  all_goals go_ret
  all_goals exact ⟨_, rfl, k1, k2, K.out, rfl⟩

def SomePower (n : Int) (w : World) (e : Ending) (w' : World) : Prop := ∃ p : Int, e = .returned (.int .i64 p) ∧ 1 ≤ p ∧ p ≤ 4294967296 ∧ n < p * p ∧ w = w'

theorem pow_mono (a b : Nat) (h : a ≤ b) : (2 : Int) ^ a ≤ 2 ^ b := by
  have : (2 : Nat) ^ a ≤ 2 ^ b := Nat.pow_le_pow_right (by decide) h
  exact_mod_cast this

theorem power_mk (n : Int) (w : World) (k : Int) (h0 : 0 ≤ k) (h1 : k ≤ 64) (h : n < 2 ^ k.toNat) : SomePower n w (.returned (.int .i64 (wrap64 (2 ^ ((k + 1) / 2).toNat)))) w := by
  obtain ⟨m, hm⟩ : ∃ m : Nat, m = ((k + 1) / 2).toNat := ⟨_, rfl⟩
  rw [← hm]
  have hm2 : m ≤ 32 := by omega
  have a1 : (2 : Int) ^ m ≤ 2 ^ 32 := pow_mono _ _ hm2
  have a2 : (0 : Int) < 2 ^ m := Int.pow_pos (by decide)
  have a3 : (2 : Int) ^ m * 2 ^ m = 2 ^ (m + m) := by rw [Int.pow_add]
  have a4 : (2 : Int) ^ k.toNat ≤ 2 ^ (m + m) := pow_mono _ _ (by omega)
  rw [IntWalk.wrap64_in _ ⟨by omega, by omega⟩]
  exact ⟨_, rfl, by omega, by omega, by omega, rfl⟩

theorem power_any (n : Int) (w : World) (h1 : 0 ≤ n) (h2 : n ≤ 9223372036854775807) :
    Calls Try.prog 40 #[.int .i64 n] w (SomePower n w) := by
  go_enter Try.func40, Try.ntmps40
  go_wp2_with (go_at_call 52; refine (len_any _ _ h1 h2).mono ?_; rintro e w' ⟨k, rfl, k1, k2, k3, rfl⟩; have K := Lib.hid k3; clear k3)
  all_goals go_ret
  all_goals exact power_mk n w k k1 k2 K.out

def SomeRoot (n : Int) (w : World) (e : Ending) (w' : World) : Prop := ∃ r : Int, e = .returned (.int .i64 r) ∧ 0 ≤ r ∧ r ≤ 3037000499 ∧ r * r ≤ n ∧ n < (r + 1) * (r + 1) ∧ w = w'

theorem sqrt_one (n : Int) (w : World) (h1 : 1 ≤ n) (h2 : n ≤ 9223372036854775807) :
    Calls Try.prog 25 #[.int .i64 n] w (SomeRoot n w) := by
  go_enter Try.func25, Try.ntmps25
  go_wp2_with (go_at_call 40; refine (power_any _ _ (by omega) h2).mono ?_; rintro e w' ⟨p, rfl, p1, p2, p3, rfl⟩; have K := Lib.hid p3; clear p3)
  go_loop [3] (fun t => ∃ r : Int, 1 ≤ r ∧ r ≤ 4294967296 ∧ Hid (n < (r + 1) * (r + 1)) ∧ t = .int .i64 r) (fun t => (intOf t).toNat)
  case atStart =>
    refine ⟨p, p1, p2, Lib.hid ?_, rfl⟩
    have := K.out
    have : p * p ≤ (p + 1) * (p + 1) := Int.mul_le_mul (by omega) (by omega) (by omega) (by omega)
    omega
  case round =>
    obtain ⟨r, r1, r2, R, rfl⟩ := hrel
    obtain ⟨d1, d2⟩ := Plain.newton_small n r r1 h1 R.out
    obtain ⟨g1, g2⟩ := Plain.newton_keeps n r r1 h1 R.out
    have G := Lib.hid g2
    clear g2
    by_cases hx : r ≤ (r + n / r) / 2
    · have E := Lib.hid (Plain.newton_ends n r r1 hx)
      go_wp2
      all_goals go_ret
      all_goals exact ⟨r, rfl, by omega, Plain.root_small n r h2 E.out, E.out, R.out, rfl⟩
    · go_wp2
      all_goals go_round
      case rel => exact ⟨_, g1, by omega, G, rfl⟩
      case measure => simp [intOf]; omega

theorem sqrt_low (n : Int) (w : World) (h1 : -9223372036854775808 ≤ n) (h2 : n < 1) :
    Calls Try.prog 25 #[.int .i64 n] w fun e w' => e = .returned (.int .i64 0) ∧ w = w' := by
  go_enter Try.func25, Try.ntmps25
  go_wp2
  all_goals go_ret
  all_goals exact ⟨rfl, rfl⟩

theorem sqrt_50 (w : World) : Calls Try.prog 25 #[.int .i64 50] w fun e w' => e = .returned (.int .i64 7) ∧ w = w' :=
  (sqrt_one 50 w (by omega) (by omega)).mono fun e w' ⟨r, he, r0, _, r2, r3, hw⟩ => by
    have : r = 7 := by
      rcases Int.lt_or_le r 7 with h | h
      · have : (r + 1) * (r + 1) ≤ 7 * 7 := Int.mul_le_mul (by omega) (by omega) (by omega) (by omega)
        omega
      · rcases Int.lt_or_le 7 r with h' | h'
        · have : 8 * 8 ≤ r * r := Int.mul_le_mul (by omega) (by omega) (by omega) (by omega)
          omega
        · omega
    subst this
    exact ⟨he, hw⟩

theorem sqrt_99 (w : World) : Calls Try.prog 25 #[.int .i64 99] w fun e w' => e = .returned (.int .i64 9) ∧ w = w' :=
  (sqrt_one 99 w (by omega) (by omega)).mono fun e w' ⟨r, he, r0, _, r2, r3, hw⟩ => by
    have : r = 9 := by
      rcases Int.lt_or_le r 9 with h | h
      · have : (r + 1) * (r + 1) ≤ 9 * 9 := Int.mul_le_mul (by omega) (by omega) (by omega) (by omega)
        omega
      · rcases Int.lt_or_le 9 r with h' | h'
        · have : 10 * 10 ≤ r * r := Int.mul_le_mul (by omega) (by omega) (by omega) (by omega)
          omega
        · omega
    subst this
    exact ⟨he, hw⟩

theorem shr_bounds (a : Int) (k : Nat) (h : -9223372036854775808 ≤ a ∧ a ≤ 9223372036854775807) : -9223372036854775808 ≤ a / 2 ^ k ∧ a / 2 ^ k ≤ 9223372036854775807 := by
  have hp : (0 : Int) < 2 ^ k := Int.pow_pos (by decide)
  rcases Int.lt_or_le a 0 with hn | hn
  · have h1 : a / 2 ^ k < 0 := Int.ediv_neg_of_neg_of_pos hn hp
    have h2 : -9223372036854775808 ≤ a / 2 ^ k := (Int.le_ediv_iff_mul_le hp).2 (by
      have : (-9223372036854775808 : Int) * 2 ^ k ≤ -9223372036854775808 * 1 := Int.mul_le_mul_of_nonpos_left (by decide) hp
      omega)
    exact ⟨h2, by omega⟩
  · have h1 : 0 ≤ a / 2 ^ k := Int.ediv_nonneg hn (by omega)
    have h2 : a / 2 ^ k ≤ a := Int.ediv_le_self _ hn
    exact ⟨by omega, by omega⟩

end Go.Proofs.Ytglcimahdgnnnaa.Root
