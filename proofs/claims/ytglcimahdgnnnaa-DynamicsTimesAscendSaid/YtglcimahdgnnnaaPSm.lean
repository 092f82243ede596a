/-
  Contracts of the program's small functions: ranges, the stock's check, the range of a cell, the rates.
-/
import Derived.Test.YtglcimahdgnnnaaSrc
import Derived.Deep.QuietTactic
namespace Go.Proofs.Ytglcimahdgnnnaa.PSm
open Go.ChangeShapes Go.WideShapes Go.ChangeAt Go.RowKit Dyn Mem Src
set_option linter.unusedVariables false

/-- what a call leaves that answers a bool and has changed no old memory -/
def BoolPost (b : Bool) (w : World) (e : Ending) (w' : World) : Prop := e = .returned (.bool b) ∧ Below w.heap.size w w'
/-- what a call leaves that answers a number and has changed no old memory -/
def IntPost (n : Int) (w : World) (e : Ending) (w' : World) : Prop := e = .returned (.int .i64 n) ∧ Below w.heap.size w w'

def btw (n lo hi : Int) : Bool := decide (lo ≤ n) && decide (n ≤ hi)
theorem between (n lo hi : Int) (w : World) : Calls Try.prog 27 #[.int .i64 n, .int .i64 lo, .int .i64 hi] w fun e w' => e = .returned (.bool (btw n lo hi)) ∧ w = w' := by
  by_cases h1 : lo ≤ n
  · by_cases h2 : n ≤ hi
    · have E : Hid (btw n lo hi = true) := by simp [Hid, btw, h1, h2]
      go_enter Try.func27, Try.ntmps27
      go_wp2
      all_goals go_ret
      all_goals exact ⟨retb E.out.symm, rfl⟩
    · have E : Hid (btw n lo hi = false) := by simp [Hid, btw, h2]
      go_enter Try.func27, Try.ntmps27
      go_wp2
      all_goals go_ret
      all_goals exact ⟨retb E.out.symm, rfl⟩
  · have E : Hid (btw n lo hi = false) := by simp [Hid, btw, h1]
    go_enter Try.func27, Try.ntmps27
    go_wp2
    all_goals go_ret
    all_goals exact ⟨retb E.out.symm, rfl⟩

theorem okStk_btw (s : Stk) : okStk s = (btw s.len 1 40 && btw s.spd 1000 100000 && btw s.acc 100 2000 && btw s.brk 100 2000) := by
  rw [Bool.eq_iff_iff]; simp [okStk, btw]; omega
theorem okCel_btw (c : Cel) : okCel c = (btw c.lim 1000 100000 && btw c.gr (-40) 40) := by
  rw [Bool.eq_iff_iff]; simp [okCel, btw]; omega

set_option maxRecDepth 100000 in
set_option maxHeartbeats 8000000 in
theorem p_check (x : ByteArray) (s : Stk) (w : World) : Calls Try.prog 18 #[stk x s] w (BoolPost (okStk s) w) := by
  rw [okStk_btw]
  obtain ⟨len, spd, acc, brk⟩ := s
  simp only [stk]
  cases h1 : btw len 1 40 <;> cases h2 : btw spd 1000 100000 <;> cases h3 : btw acc 100 2000 <;> cases h4 : btw brk 100 2000
  all_goals
    go_enter Try.func18, Try.ntmps18
    go_wp2_with (go_at_call 27; first
      | ((with_reducible refine (between len _ _ _).mono ?_); rw [h1]; rintro e w' ⟨rfl, rfl⟩)
      | ((with_reducible refine (between spd _ _ _).mono ?_); rw [h2]; rintro e w' ⟨rfl, rfl⟩)
      | ((with_reducible refine (between acc _ _ _).mono ?_); rw [h3]; rintro e w' ⟨rfl, rfl⟩)
      | ((with_reducible refine (between brk _ _ _).mono ?_); rw [h4]; rintro e w' ⟨rfl, rfl⟩))
    all_goals go_ret
    all_goals refine ⟨rfl, ?_⟩
    all_goals repeat (first | exact Below.refl _ _ | refine Below.drew ?_ | refine Below.alloc ?_ (by simp; try omega) _)

set_option maxRecDepth 100000 in
set_option maxHeartbeats 8000000 in
theorem p_out (c : Cel) (w : World) : Calls Try.prog 35 #[.agg #[.int .i64 c.lim, .int .i64 c.gr]] w (BoolPost (!okCel c) w) := by
  rw [okCel_btw]
  obtain ⟨lim, gr⟩ := c
  dsimp only
  cases h1 : btw lim 1000 100000 <;> cases h2 : btw gr (-40) 40
  all_goals
    go_enter Try.func35, Try.ntmps35
    go_wp2_with (go_at_call 27; first
      | ((with_reducible refine (between lim _ _ _).mono ?_); rw [h1]; rintro e w' ⟨rfl, rfl⟩)
      | ((with_reducible refine (between gr _ _ _).mono ?_); rw [h2]; rintro e w' ⟨rfl, rfl⟩))
    all_goals go_ret
    all_goals refine ⟨rfl, ?_⟩
    all_goals repeat (first | exact Below.refl _ _ | refine Below.drew ?_ | refine Below.alloc ?_ (by simp; try omega) _)

def rate (g r : Int) : Int := if 0 < g then max 50 (r - 10 * g) else r
theorem p_rate (g r : Int) (w : World) (h1 : -40 ≤ g) (h2 : g ≤ 40) (h3 : 100 ≤ r) (h4 : r ≤ 2000) : Calls Try.prog 50 #[.int .i64 g, .int .i64 r] w fun e w' => e = .returned (.int .i64 (rate g r)) ∧ w = w' := by
  by_cases h : g ≤ 0
  · have E : Hid (rate g r = r) := by unfold rate; rw [Hid, if_neg (by omega)]
    go_enter Try.func50, Try.ntmps50
    go_wp2
    all_goals go_ret
    all_goals exact ⟨ret1 (by have := E.out; omega), rfl⟩
  · by_cases hm : 50 ≤ r - 10 * g
    · have E : Hid (rate g r = r - 10 * g) := by unfold rate; rw [Hid, if_pos (by omega)]; omega
      go_enter Try.func50, Try.ntmps50
      go_wp2
      all_goals go_ret
      all_goals exact ⟨ret1 (by have := E.out; omega), rfl⟩
    · have E : Hid (rate g r = 50) := by unfold rate; rw [Hid, if_pos (by omega)]; omega
      go_enter Try.func50, Try.ntmps50
      go_wp2
      all_goals go_ret
      all_goals exact ⟨ret1 (by have := E.out; omega), rfl⟩

set_option maxRecDepth 100000 in
theorem p_acc (c : Cel) (x : ByteArray) (s : Stk) (w : World) (hc : okCel c = true) (hs : okStk s = true) : Calls Try.prog 37 #[.agg #[.int .i64 c.lim, .int .i64 c.gr], stk x s] w (IntPost (acc c s) w) := by
  have h1 := okCel_iff.1 hc
  have h2 := okStk_iff.1 hs
  have E : Hid (acc c s = rate c.gr s.acc) := by unfold acc rate; rfl
  obtain ⟨len, spd, ac, brk⟩ := s
  obtain ⟨lim, gr⟩ := c
  simp only [stk] at *
  clear hc hs
  go_enter Try.func37, Try.ntmps37
  go_wp2_with (go_at_call 50; refine (p_rate gr ac _ (by omega) (by omega) (by omega) (by omega)).mono ?_; rintro e w' ⟨rfl, rfl⟩)
  all_goals go_ret
  all_goals refine ⟨ret1 E.out.symm, ?_⟩
  all_goals repeat (first | exact Below.refl _ _ | refine Below.drew ?_ | refine Below.alloc ?_ (by simp; try omega) _)

set_option maxRecDepth 100000 in
theorem p_brk (c : Cel) (x : ByteArray) (s : Stk) (w : World) (hc : okCel c = true) (hs : okStk s = true) : Calls Try.prog 39 #[.agg #[.int .i64 c.lim, .int .i64 c.gr], stk x s] w (IntPost (brk c s) w) := by
  have h1 := okCel_iff.1 hc
  have h2 := okStk_iff.1 hs
  have E : Hid (brk c s = rate (-c.gr) s.brk) := by unfold brk rate; rw [Hid]; by_cases h : c.gr < 0 <;> simp [h] <;> omega
  obtain ⟨len, spd, ac, bk⟩ := s
  obtain ⟨lim, gr⟩ := c
  simp only [stk] at *
  clear hc hs
  go_enter Try.func39, Try.ntmps39
  go_wp2_with (go_at_call 50; refine (p_rate (-gr) bk _ (by omega) (by omega) (by omega) (by omega)).mono ?_; rintro e w' ⟨rfl, rfl⟩)
  all_goals go_ret
  all_goals refine ⟨ret1 E.out.symm, ?_⟩
  all_goals repeat (first | exact Below.refl _ _ | refine Below.drew ?_ | refine Below.alloc ?_ (by simp; try omega) _)

end Go.Proofs.Ytglcimahdgnnnaa.PSm
