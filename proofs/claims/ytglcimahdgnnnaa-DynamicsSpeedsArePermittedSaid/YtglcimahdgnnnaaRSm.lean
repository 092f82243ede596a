/-
  Contracts of the document's own small functions: ranges, the stock's check, rates, roots, quotients, the limit of a cell, the errors.
-/
import Derived.Test.YtglcimahdgnnnaaPTim
namespace Go.Proofs.Ytglcimahdgnnnaa.RSm
open Go.ChangeShapes Go.WideShapes Go.ChangeAt Go.RowKit Dyn Mem Src PSm PChk PLim PPer PSpd PTim
set_option linter.unusedVariables false

theorem r_in (n lo hi : Int) (w : World) : Calls Try.prog 47 #[.int .i64 n, .int .i64 lo, .int .i64 hi] w fun e w' => e = .returned (.bool (btw n lo hi)) ∧ w = w' := by
  by_cases h1 : lo ≤ n
  · by_cases h2 : n ≤ hi
    · have E : Hid (btw n lo hi = true) := by simp [Hid, btw, h1, h2]
      go_enter Try.func47, Try.ntmps47
      go_wp2
      all_goals go_ret
      all_goals exact ⟨retb E.out.symm, rfl⟩
    · have E : Hid (btw n lo hi = false) := by simp [Hid, btw, h2]
      go_enter Try.func47, Try.ntmps47
      go_wp2
      all_goals go_ret
      all_goals exact ⟨retb E.out.symm, rfl⟩
  · have E : Hid (btw n lo hi = false) := by simp [Hid, btw, h1]
    go_enter Try.func47, Try.ntmps47
    go_wp2
    all_goals go_ret
    all_goals exact ⟨retb E.out.symm, rfl⟩

set_option maxRecDepth 100000 in
set_option maxHeartbeats 8000000 in
theorem r_check (x : ByteArray) (s : Stk) (w : World) : Calls Try.prog 31 #[stk x s] w (BoolPost (okStk s) w) := by
  rw [okStk_btw]
  obtain ⟨len, spd, acc, brk⟩ := s
  simp only [stk]
  cases h1 : btw len 1 40 <;> cases h2 : btw spd 1000 100000 <;> cases h3 : btw acc 100 2000 <;> cases h4 : btw brk 100 2000
  all_goals
    go_enter Try.func31, Try.ntmps31
    go_wp2_with (go_at_call 47; first
      | ((with_reducible refine (r_in len _ _ _).mono ?_); rw [h1]; rintro e w' ⟨rfl, rfl⟩)
      | ((with_reducible refine (r_in spd _ _ _).mono ?_); rw [h2]; rintro e w' ⟨rfl, rfl⟩)
      | ((with_reducible refine (r_in acc _ _ _).mono ?_); rw [h3]; rintro e w' ⟨rfl, rfl⟩)
      | ((with_reducible refine (r_in brk _ _ _).mono ?_); rw [h4]; rintro e w' ⟨rfl, rfl⟩))
    all_goals go_ret
    all_goals refine ⟨rfl, ?_⟩
    all_goals repeat (first | exact Below.refl _ _ | refine Below.drew ?_ | refine Below.alloc ?_ (by simp; try omega) _)


set_option maxRecDepth 100000 in
set_option maxHeartbeats 2000000 in
theorem r_acc (c : Cel) (x : ByteArray) (s : Stk) (w : World) (hc : okCel c = true) (hs : okStk s = true) : Calls Try.prog 43 #[.agg #[.int .i64 c.lim, .int .i64 c.gr], stk x s] w (IntPost (acc c s) w) := by
  have h1 := okCel_iff.1 hc
  have h2 := okStk_iff.1 hs
  have E : Hid (acc c s = rate c.gr s.acc) := by unfold acc rate; rfl
  obtain ⟨len, spd, ac, brk⟩ := s
  obtain ⟨lim, gr⟩ := c
  simp only [stk] at *
  clear hc hs
  by_cases h : 0 < gr
  · have E2 : Hid (rate gr ac = max 50 (ac - 10 * gr)) := by unfold rate; rw [Hid, if_pos h]
    go_enter Try.func43, Try.ntmps43
    go_wp2
    all_goals go_ret
    all_goals refine ⟨ret1 (by have := E.out; have := E2.out; omega), ?_⟩
    all_goals repeat (first | exact Below.refl _ _ | refine Below.drew ?_ | refine Below.alloc ?_ (by simp; try omega) _)
  · have E2 : Hid (rate gr ac = ac) := by unfold rate; rw [Hid, if_neg h]
    go_enter Try.func43, Try.ntmps43
    go_wp2
    all_goals go_ret
    all_goals refine ⟨ret1 (by have := E.out; have := E2.out; omega), ?_⟩
    all_goals repeat (first | exact Below.refl _ _ | refine Below.drew ?_ | refine Below.alloc ?_ (by simp; try omega) _)

set_option maxRecDepth 100000 in
set_option maxHeartbeats 2000000 in
theorem r_brk (c : Cel) (x : ByteArray) (s : Stk) (w : World) (hc : okCel c = true) (hs : okStk s = true) : Calls Try.prog 44 #[.agg #[.int .i64 c.lim, .int .i64 c.gr], stk x s] w (IntPost (brk c s) w) := by
  have h1 := okCel_iff.1 hc
  have h2 := okStk_iff.1 hs
  have E : Hid (brk c s = if c.gr < 0 then max 50 (s.brk + 10 * c.gr) else s.brk) := rfl
  obtain ⟨len, spd, ac, bk⟩ := s
  obtain ⟨lim, gr⟩ := c
  simp only [stk] at *
  clear hc hs
  by_cases h : gr < 0
  · have E2 : Hid (brk ⟨lim, gr⟩ ⟨len, spd, ac, bk⟩ = max 50 (bk + 10 * gr)) := by rw [Hid, E.out, if_pos h]
    go_enter Try.func44, Try.ntmps44
    go_wp2
    all_goals go_ret
    all_goals refine ⟨ret1 (by have := E2.out; omega), ?_⟩
    all_goals repeat (first | exact Below.refl _ _ | refine Below.drew ?_ | refine Below.alloc ?_ (by simp; try omega) _)
  · have E2 : Hid (brk ⟨lim, gr⟩ ⟨len, spd, ac, bk⟩ = bk) := by rw [Hid, E.out, if_neg h]
    go_enter Try.func44, Try.ntmps44
    go_wp2
    all_goals go_ret
    all_goals refine ⟨ret1 (by have := E2.out; omega), ?_⟩
    all_goals repeat (first | exact Below.refl _ _ | refine Below.drew ?_ | refine Below.alloc ?_ (by simp; try omega) _)

theorem r_ceil (a b : Int) (w : World) (ha : 0 ≤ a) (h2 : a ≤ 9223372036854775807) (hb : 1 ≤ b) (hb2 : b ≤ 9223372036854775807) :
    Calls Try.prog 46 #[.int .i64 a, .int .i64 b] w fun e w' => e = .returned (.int .i64 (ceil a b)) ∧ w = w' := by
  obtain ⟨g1, g2, g3, _, _, g6⟩ := Plain.pos_div a b ha hb
  by_cases hr : 0 < a % b
  · have g7 := g6 hr
    clear g6
    have E : Hid (ceil a b = a / b + 1) := Plain.ceil_pos_gt a b ha hb hr
    go_enter Try.func46, Try.ntmps46
    go_wp2
    all_goals go_ret
    all_goals exact ⟨ret1 E.out.symm, rfl⟩
  · have E : Hid (ceil a b = a / b) := Plain.ceil_pos_eq a b ha hb hr
    clear g6
    go_enter Try.func46, Try.ntmps46
    go_wp2
    all_goals go_ret
    all_goals exact ⟨ret1 E.out.symm, rfl⟩

theorem mid_in (lo hi : Int) (h0 : 0 ≤ lo) (h : lo < hi) (h1 : hi ≤ 3037000499) : lo < (lo + hi + 1) / 2 ∧ (lo + hi + 1) / 2 ≤ hi := by omega
set_option maxHeartbeats 2000000 in
theorem r_sqrt (n : Int) (w : World) (h0 : 0 ≤ n) (h1 : n ≤ 9223372036854775807) : Calls Try.prog 45 #[.int .i64 n] w fun e w' => e = .returned (.int .i64 (root n)) ∧ w = w' := by
  by_cases h : n ≤ 0
  · obtain rfl : n = 0 := by omega
    have E := Lib.hid root_zero
    go_enter Try.func45, Try.ntmps45
    go_wp2
    all_goals go_ret
    all_goals exact ⟨ret1 E.out.symm, rfl⟩
  · go_enter Try.func45, Try.ntmps45
    go_wp2
    go_loop [3, 4] (fun a b => ∃ lo hi : Int, 0 ≤ lo ∧ lo ≤ hi ∧ hi ≤ 3037000499 ∧ Hid (lo * lo ≤ n ∧ n < (hi + 1) * (hi + 1)) ∧ a = .int .i64 lo ∧ b = .int .i64 hi) (fun a b => (intOf b - intOf a).toNat)
    case atStart => exact ⟨0, 3037000499, by omega, by omega, by omega, ⟨by omega, by omega⟩, rfl, rfl⟩
    case round =>
      obtain ⟨lo, hi, l0, l1, l2, H, rfl, rfl⟩ := hrel
      by_cases hlt : lo < hi
      · obtain ⟨m0, m1⟩ := mid_in lo hi l0 hlt l2
        obtain ⟨m, hm⟩ : ∃ m, (lo + hi + 1) / 2 = m := ⟨_, rfl⟩
        rw [hm] at m0 m1
        have htd : (lo + hi + 1).tdiv 2 = m := by rw [Int.tdiv_eq_ediv_of_nonneg (by omega), hm]
        have hsq : 0 ≤ m * m ∧ m * m ≤ 9223372030926249001 := ⟨Int.mul_nonneg (by omega) (by omega), by have := sqr_mono (show (0:Int) ≤ m by omega) (show m ≤ 3037000499 by omega); omega⟩
        by_cases hc : m * m ≤ n
        · go_wp2
          all_goals go_round
          case rel => exact ⟨m, hi, by omega, m1, l2, ⟨hc, H.out.2⟩, rfl, rfl⟩
          case measure => simp [intOf]; omega
        · have hH : Hid (lo * lo ≤ n ∧ n < (m - 1 + 1) * (m - 1 + 1)) := ⟨H.out.1, by rw [show m - 1 + 1 = m by omega]; omega⟩
          go_wp2
          all_goals go_round
          case rel => exact ⟨lo, m - 1, l0, by omega, by omega, hH, rfl, rfl⟩
          case measure => simp [intOf]; omega
      · obtain rfl : lo = hi := by omega
        have E : Hid (root n = lo) := root_eq l0 H.out.1 H.out.2
        clear H
        go_wp2
        all_goals go_ret
        all_goals exact ⟨ret1 E.out.symm, rfl⟩
end Go.Proofs.Ytglcimahdgnnnaa.RSm
