/-
  Contracts of the program's functions that check the links of a layout.
-/
import Derived.Test.YtkfobijgjdgbgaaDoorPSecs
import Derived.Deep.QuietTactic
import Derived.BigRegion
import Derived.Deep.DeepCutAuto
import Derived.Outline
namespace Go.Proofs.YtkfobijgjdgbgaaDoor.PLinks
open Go.ChangeShapes Go.WideShapes Go.ChangeAt Go.RowKit Wd Small Mem Lay Recs Keep Names PNames PSecs
set_option linter.unusedVariables false

def ie (x : Int) : Bool := (x == 0) || (x == 1)
theorem is_end (x : Int) (w : World) : Calls Tryd.prog 84 #[.int .i64 x] w (Says (ie x) w) := by
  have E : Hid (ie x = ((x == 0) || (x == 1))) := rfl
  go_enter Tryd.func84, Tryd.ntmps84
  cases h1 : (x == 0) <;> cases h2 : (x == 1)
  all_goals
    rw [h1, h2] at E
    go_wp2
    go_ret
    exact ⟨retb E.out.symm, rfl⟩

/-- are the point and the position of a link in their ranges (p points) -/
def sw (p : Nat) (k : Lnk) : Bool := if (k.pt == -1) = true then k.ps == 0 else nof k.pt p && ((k.ps == 0) || (k.ps == 1))
theorem sw_no {p : Nat} {k : Lnk} (h : (k.pt == -1) = true) : sw p k = (k.ps == 0) := by unfold sw; rw [if_pos h]
theorem sw_pt {p : Nat} {k : Lnk} (h : (k.pt == -1) = false) : sw p k = (nof k.pt p && ((k.ps == 0) || (k.ps == 1))) := by unfold sw; rw [if_neg (by rw [h]; decide)]
def lnkArg (k : Lnk) : Value := .agg #[.int .i64 k.a, .int .i64 k.ae, .int .i64 k.b, .int .i64 k.be, .int .i64 k.pt, .int .i64 k.ps]

set_option maxRecDepth 100000 in
theorem is_switch (v : LV) (k : Lnk) (w : World) : Calls Tryd.prog 85 #[v.val, lnkArg k] w (BoolPost (sw v.n2 k) w) := by
  cases hp : (k.pt == -1) with
  | true =>
    have E := Lib.hid (sw_no (p := v.n2) hp)
    obtain ⟨A1, n1, c1, A2, n2, c2, A3, n3, c3, A4, n4, c4⟩ := v
    obtain ⟨a, ae, b, be, pt, ps⟩ := k
    simp only [LV.val, lnkArg] at *
    go_enter Tryd.func85, Tryd.ntmps85
    go_wp2
    go_ret
    exact ⟨retb E.out.symm, ((Below.refl _ _).alloc (Nat.le_refl _) _).alloc (by simp) _⟩
  | false =>
    have E := Lib.hid (sw_pt (p := v.n2) hp)
    obtain ⟨A1, n1, c1, A2, n2, c2, A3, n3, c3, A4, n4, c4⟩ := v
    obtain ⟨a, ae, b, be, pt, ps⟩ := k
    simp only [LV.val, lnkArg] at *
    go_enter Tryd.func85, Tryd.ntmps85
    cases h1 : nof pt n2 <;> cases h2 : (ps == 0) <;> cases h3 : (ps == 1)
    all_goals
      rw [h1, h2, h3] at E
      go_wp2_with (go_at_call 44; refine (is_number _ _ _).mono ?_; rintro e w' ⟨rfl, rfl⟩; rw [h1])
      go_ret
      exact ⟨retb E.out.symm, ((Below.refl _ _).alloc (Nat.le_refl _) _).alloc (by simp) _⟩

/-- are the numbers of a link in their ranges, as the program asks it -/
def lin (n p : Nat) (k : Lnk) : Bool := nof k.a n && (nof k.b n && (ie k.ae && (ie k.be && sw p k)))
theorem lin_eq (n p : Nat) (k : Lnk) : lin n p k = inr n p k := by
  rw [Bool.eq_iff_iff]
  unfold lin inr sw ie nof
  by_cases h : (k.pt == -1) = true
  · rw [if_pos h]
    have h' : k.pt = -1 := by simpa using h
    simp only [Bool.and_eq_true, Bool.or_eq_true, decide_eq_true_eq, beq_iff_eq, Bool.not_eq_true', Bool.and_eq_false_iff, decide_eq_false_iff_not, Bool.not_eq_false']
    omega
  · rw [if_neg h]
    have h' : k.pt ≠ -1 := by simpa using h
    simp only [Bool.and_eq_true, Bool.or_eq_true, decide_eq_true_eq, beq_iff_eq, Bool.not_eq_true', Bool.and_eq_false_iff, decide_eq_false_iff_not, Bool.not_eq_false']
    omega

set_option maxRecDepth 100000 in
set_option maxHeartbeats 1000000 in
theorem is_link (v : LV) (k : Lnk) (w : World) : Calls Tryd.prog 63 #[v.val, lnkArg k] w (BoolPost (lin v.n3 v.n2 k) w) := by
  have E : Hid (lin v.n3 v.n2 k = (nof k.a v.n3 && (nof k.b v.n3 && (ie k.ae && (ie k.be && sw v.n2 k))))) := rfl
  have HSW := Lib.hid (fun w => is_switch v k w)
  obtain ⟨A1, n1, c1, A2, n2, c2, A3, n3, c3, A4, n4, c4⟩ := v
  obtain ⟨a, ae, b, be, pt, ps⟩ := k
  simp only [LV.val, lnkArg] at *
  cases h1 : nof a n3 with
  | false =>
    rw [h1, Bool.false_and] at E
    go_enter Tryd.func63, Tryd.ntmps63
    go_wp2_with (go_at_call 44; refine (is_number _ _ _).mono ?_; rintro e w' ⟨rfl, rfl⟩; rw [h1])
    go_ret
    exact ⟨retb E.out.symm, ((Below.refl _ _).alloc (Nat.le_refl _) _).alloc (by simp) _⟩
  | true =>
    cases h2 : nof b n3 with
    | false =>
      rw [h1, h2, Bool.true_and, Bool.false_and] at E
      go_enter Tryd.func63, Tryd.ntmps63
      go_wp2_with (go_at_call 44; refine (is_number _ _ _).mono ?_; rintro e w' ⟨rfl, rfl⟩; (first | rw [h1] | rw [h2]))
      go_ret
      exact ⟨retb E.out.symm, ((Below.refl _ _).alloc (Nat.le_refl _) _).alloc (by simp) _⟩
    | true =>
      cases h3 : ie ae with
      | false =>
        rw [h1, h2, h3, Bool.true_and, Bool.true_and, Bool.false_and] at E
        go_enter Tryd.func63, Tryd.ntmps63
        go_wp2_with (first | (go_at_call 44; refine (is_number _ _ _).mono ?_; rintro e w' ⟨rfl, rfl⟩; (first | rw [h1] | rw [h2])) | (go_at_call 84; refine (is_end _ _).mono ?_; rintro e w' ⟨rfl, rfl⟩; rw [h3]))
        go_ret
        exact ⟨retb E.out.symm, ((Below.refl _ _).alloc (Nat.le_refl _) _).alloc (by simp) _⟩
      | true =>
        cases h4 : ie be with
        | false =>
          rw [h1, h2, h3, h4, Bool.true_and, Bool.true_and, Bool.true_and, Bool.false_and] at E
          go_enter Tryd.func63, Tryd.ntmps63
          go_wp2_with (first | (go_at_call 44; refine (is_number _ _ _).mono ?_; rintro e w' ⟨rfl, rfl⟩; (first | rw [h1] | rw [h2])) | (go_at_call 84; refine (is_end _ _).mono ?_; rintro e w' ⟨rfl, rfl⟩; (first | rw [h3] | rw [h4])))
          go_ret
          exact ⟨retb E.out.symm, ((Below.refl _ _).alloc (Nat.le_refl _) _).alloc (by simp) _⟩
        | true =>
          rw [h1, h2, h3, h4, Bool.true_and, Bool.true_and, Bool.true_and, Bool.true_and] at E
          go_enter Tryd.func63, Tryd.ntmps63
          go_wp2_with (first | (go_at_call 44; refine (is_number _ _ _).mono ?_; rintro e w' ⟨rfl, rfl⟩; (first | rw [h1] | rw [h2])) | (go_at_call 84; refine (is_end _ _).mono ?_; rintro e w' ⟨rfl, rfl⟩; (first | rw [h3] | rw [h4])))
          refine (HSW.out _).mono ?_
          rintro e w2 ⟨rfl, hb2⟩
          go_wp2_with fail
          all_goals go_ret
          all_goals exact ⟨retb E.out.symm, (((Below.refl _ _).alloc (Nat.le_refl _) _).alloc (by simp) _).trans (hb2.mono (by simp; omega))⟩

end Go.Proofs.YtkfobijgjdgbgaaDoor.PLinks
