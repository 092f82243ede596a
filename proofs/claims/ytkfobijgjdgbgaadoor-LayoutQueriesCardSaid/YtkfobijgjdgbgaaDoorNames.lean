/-
  Contracts of the two functions that tell names.
-/
import Derived.Test.YtkfobijgjdgbgaaDoorSmall
namespace Go.Proofs.YtkfobijgjdgbgaaDoor.Names
open Go.ChangeShapes Go.WideShapes Go.ChangeAt Go.RowKit Wd Small
set_option linter.unusedVariables false

set_option maxHeartbeats 400000 in
theorem p_name (s : ByteArray) (w : World) (hs : s.size ≤ 9223372036854775807) : Calls Tryd.prog 82 #[.string s] w fun e w' => e = .returned (.bool (isName (bs s))) ∧ w = w' := by
  by_cases hsz : 1 ≤ s.size ∧ s.size ≤ 12
  · obtain ⟨h1, h2⟩ := hsz
    have e := isName_drop s h1 h2
    cases hl : letter s[0] with
    | false =>
      have E : Hid (isName (bs s) = false) := by rw [hl] at e; simpa [Hid] using e
      clear e
      go_enter Tryd.func82, Tryd.ntmps82
      go_wp2_with (go_at_call 99; refine (p_letter _ _).mono ?_; rintro e w' ⟨rfl, rfl⟩; rw [hl])
      go_ret
      exact ⟨retb E.out.symm, rfl⟩
    | true =>
      have E : Hid (isName (bs s) = ((bs s).drop 1).all later) := by rw [hl] at e; simpa [Hid] using e
      clear e
      go_enter Tryd.func82, Tryd.ntmps82
      go_wp2_with (go_at_call 99; refine (p_letter _ _).mono ?_; rintro e w' ⟨rfl, rfl⟩; rw [hl])
      clear hl
      go_loopw [3] (fun i wr => ∃ k : Nat, 1 ≤ k ∧ k ≤ s.size ∧ i = .int .i64 k ∧ Hid (isName (bs s) = ((bs s).drop k).all later) ∧ w = wr) (fun i _ => s.size - (intOf i).toNat)
      case atStart => exact ⟨1, Nat.le_refl _, h1, rfl, E, rfl⟩
      case round =>
        obtain ⟨k, hk1, hk, rfl, HE, rfl⟩ := hrel
        clear E
        by_cases hlt : k < s.size
        · have HP : Hid (isName (bs s) = (later s[k] && ((bs s).drop (k + 1)).all later)) := by
            have := HE.out
            rw [bs_drop s k hlt] at this
            simpa [Hid] using this
          clear HE
          cases hl : letter s[k] with
          | true =>
            have HQ : Hid (isName (bs s) = ((bs s).drop (k + 1)).all later) := by have := HP.out; rw [later, hl] at this; simpa [Hid] using this
            clear HP
            go_wp2_with (go_at_call 99; refine (p_letter _ _).mono ?_; rintro e w' ⟨rfl, rfl⟩; rw [hl])
            go_roundw
            case rel => exact ⟨k + 1, by omega, by omega, by go_num, HQ, by trivial⟩
            case measure => simp [intOf]; omega
          | false =>
            cases hd : digit s[k] with
            | true =>
              have HQ : Hid (isName (bs s) = ((bs s).drop (k + 1)).all later) := by have := HP.out; rw [later, hl, hd] at this; simpa [Hid] using this
              clear HP
              go_wp2_with first
                | (go_at_call 99; refine (p_letter _ _).mono ?_; rintro e w' ⟨rfl, rfl⟩; rw [hl])
                | (go_at_call 100; refine (p_digit _ _).mono ?_; rintro e w' ⟨rfl, rfl⟩; rw [hd])
              go_roundw
              case rel => exact ⟨k + 1, by omega, by omega, by go_num, HQ, by trivial⟩
              case measure => simp [intOf]; omega
            | false =>
              have HQ := Lib.hid (HP.out)
              rw [later_eq _ hl hd] at HQ
              clear HP
              go_wp2_with first
                | (go_at_call 99; refine (p_letter _ _).mono ?_; rintro e w' ⟨rfl, rfl⟩; rw [hl])
                | (go_at_call 100; refine (p_digit _ _).mono ?_; rintro e w' ⟨rfl, rfl⟩; rw [hd])
              · have hu : ((s[k].toNat : Int) != 95) = true := by assumption
                have hu2 : decide ((s[k].toNat : Int) = 95) = false := by simpa using hu
                have HR : Hid (isName (bs s) = false) := by have := HQ.out; rw [hu2, Bool.false_and] at this; exact this
                clear hu hu2 HQ
                go_ret
                exact ⟨retb HR.out.symm, rfl⟩
              · have hu : ((s[k].toNat : Int) != 95) = false := by assumption
                have hu2 : decide ((s[k].toNat : Int) = 95) = true := by simpa using hu
                have HR : Hid (isName (bs s) = ((bs s).drop (k + 1)).all later) := by have := HQ.out; rw [hu2, Bool.true_and] at this; exact this
                clear hu hu2 HQ
                go_roundw
                case rel => exact ⟨k + 1, by omega, by omega, by go_num, HR, by trivial⟩
                case measure => simp [intOf]; omega
        · have HQ : Hid (isName (bs s) = true) := by
            have := HE.out
            rw [bs_drop_nil s k (by omega)] at this
            simpa [Hid] using this
          clear HE
          go_wp2_with (fail)
          go_ret
          exact ⟨retb HQ.out.symm, rfl⟩
  · have E : Hid (isName (bs s) = false) := isName_no s hsz
    go_enter Tryd.func82, Tryd.ntmps82
    go_wp2_with (fail)
    all_goals first
      | (go_ret; exact ⟨retb E.out.symm, rfl⟩)
      | exact absurd ⟨by omega, by omega⟩ hsz

set_option maxHeartbeats 400000 in
theorem r_name (s : ByteArray) (w : World) (hs : s.size ≤ 9223372036854775807) : Calls Tryd.prog 78 #[.string s] w fun e w' => e = .returned (.bool (isName (bs s))) ∧ w = w' := by
  by_cases hsz : 1 ≤ s.size ∧ s.size ≤ 12
  · obtain ⟨h1, h2⟩ := hsz
    have e := isName_drop s h1 h2
    cases hl : letter s[0] with
    | false =>
      have E : Hid (isName (bs s) = false) := by rw [hl] at e; simpa [Hid] using e
      clear e
      go_enter Tryd.func78, Tryd.ntmps78
      go_wp2_with (go_at_call 97; refine (r_letter _ _).mono ?_; rintro e w' ⟨rfl, rfl⟩; rw [hl])
      go_ret
      exact ⟨retb E.out.symm, rfl⟩
    | true =>
      have E : Hid (isName (bs s) = ((bs s).drop 1).all later) := by rw [hl] at e; simpa [Hid] using e
      clear e
      go_enter Tryd.func78, Tryd.ntmps78
      go_wp2_with (go_at_call 97; refine (r_letter _ _).mono ?_; rintro e w' ⟨rfl, rfl⟩; rw [hl])
      clear hl
      go_loopw [3] (fun i wr => ∃ k : Nat, 1 ≤ k ∧ k ≤ s.size ∧ i = .int .i64 k ∧ Hid (isName (bs s) = ((bs s).drop k).all later) ∧ w = wr) (fun i _ => s.size - (intOf i).toNat)
      case atStart => exact ⟨1, Nat.le_refl _, h1, rfl, E, rfl⟩
      case round =>
        obtain ⟨k, hk1, hk, rfl, HE, rfl⟩ := hrel
        clear E
        by_cases hlt : k < s.size
        · have HP : Hid (isName (bs s) = (later s[k] && ((bs s).drop (k + 1)).all later)) := by
            have := HE.out
            rw [bs_drop s k hlt] at this
            simpa [Hid] using this
          clear HE
          cases hl : letter s[k] with
          | true =>
            have HQ : Hid (isName (bs s) = ((bs s).drop (k + 1)).all later) := by have := HP.out; rw [later, hl] at this; simpa [Hid] using this
            clear HP
            go_wp2_with (go_at_call 97; refine (r_letter _ _).mono ?_; rintro e w' ⟨rfl, rfl⟩; rw [hl])
            go_roundw
            case rel => exact ⟨k + 1, by omega, by omega, by go_num, HQ, by trivial⟩
            case measure => simp [intOf]; omega
          | false =>
            cases hd : digit s[k] with
            | true =>
              have HQ : Hid (isName (bs s) = ((bs s).drop (k + 1)).all later) := by have := HP.out; rw [later, hl, hd] at this; simpa [Hid] using this
              clear HP
              go_wp2_with first
                | (go_at_call 97; refine (r_letter _ _).mono ?_; rintro e w' ⟨rfl, rfl⟩; rw [hl])
                | (go_at_call 98; refine (r_digit _ _).mono ?_; rintro e w' ⟨rfl, rfl⟩; rw [hd])
              go_roundw
              case rel => exact ⟨k + 1, by omega, by omega, by go_num, HQ, by trivial⟩
              case measure => simp [intOf]; omega
            | false =>
              have HQ := Lib.hid (HP.out)
              rw [later_eq _ hl hd] at HQ
              clear HP
              go_wp2_with first
                | (go_at_call 97; refine (r_letter _ _).mono ?_; rintro e w' ⟨rfl, rfl⟩; rw [hl])
                | (go_at_call 98; refine (r_digit _ _).mono ?_; rintro e w' ⟨rfl, rfl⟩; rw [hd])
              · have hu : ((s[k].toNat : Int) != 95) = true := by assumption
                have hu2 : decide ((s[k].toNat : Int) = 95) = false := by simpa using hu
                have HR : Hid (isName (bs s) = false) := by have := HQ.out; rw [hu2, Bool.false_and] at this; exact this
                clear hu hu2 HQ
                go_ret
                exact ⟨retb HR.out.symm, rfl⟩
              · have hu : ((s[k].toNat : Int) != 95) = false := by assumption
                have hu2 : decide ((s[k].toNat : Int) = 95) = true := by simpa using hu
                have HR : Hid (isName (bs s) = ((bs s).drop (k + 1)).all later) := by have := HQ.out; rw [hu2, Bool.true_and] at this; exact this
                clear hu hu2 HQ
                go_roundw
                case rel => exact ⟨k + 1, by omega, by omega, by go_num, HR, by trivial⟩
                case measure => simp [intOf]; omega
        · have HQ : Hid (isName (bs s) = true) := by
            have := HE.out
            rw [bs_drop_nil s k (by omega)] at this
            simpa [Hid] using this
          clear HE
          go_wp2_with (fail)
          go_ret
          exact ⟨retb HQ.out.symm, rfl⟩
  · have E : Hid (isName (bs s) = false) := isName_no s hsz
    go_enter Tryd.func78, Tryd.ntmps78
    go_wp2_with (fail)
    all_goals first
      | (go_ret; exact ⟨retb E.out.symm, rfl⟩)
      | exact absurd ⟨by omega, by omega⟩ hsz

end Go.Proofs.YtkfobijgjdgbgaaDoor.Names
