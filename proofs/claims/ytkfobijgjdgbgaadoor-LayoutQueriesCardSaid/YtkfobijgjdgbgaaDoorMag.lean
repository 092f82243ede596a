/-
  Contracts of the functions that read numbers.
-/
import Derived.Test.YtkfobijgjdgbgaaDoorSmall
import Derived.Test.YtkfobijgjdgbgaaDoorShelf
namespace Go.Proofs.YtkfobijgjdgbgaaDoor.Mag
open Go.ChangeShapes Go.WideShapes Go.ChangeAt Go.RowKit Wd Small
set_option linter.unusedVariables false

theorem rets {a b : Int} {x y : Bool} (h : a = b) (h2 : x = y) : Ending.returned (.tuple #[.int .i64 a, .bool x]) = Ending.returned (.tuple #[.int .i64 b, .bool y]) := by rw [h, h2]
theorem mag_no {l : Bs} (h : magOK l = false) : magnitude l = 0 := by simp [magnitude, h]
theorem mag_yes {l : Bs} (h : magOK l = true) : magnitude l = value 0 l := by simp [magnitude, h]

theorem bs_head (s : ByteArray) (h : 0 < s.size) : ∃ r, bs s = s[0] :: r ∧ r.length + 1 = s.size := by
  have e := bs_drop s 0 h
  rw [List.drop_zero] at e
  refine ⟨_, e, ?_⟩
  have hl := bs_length s
  rw [e] at hl
  simpa using hl
theorem ok_start (s : ByteArray) (h1 : 1 ≤ s.size) (h2 : s.size ≤ 1 ∨ ((s[0].toNat : Int) == 48) = false) :
    magOK (bs s) = (((bs s).drop 0).all digit && decide (value 0 ((bs s).drop 0) ≤ 1099511627776)) := by
  obtain ⟨r, e, hr⟩ := bs_head s (by omega)
  rw [List.drop_zero, e]
  have : (s[0] == 48 && decide (1 < (s[0] :: r).length)) = false := by
    rcases h2 with h2 | h2
    · have : ¬ 1 < r.length + 1 := by omega
      simp only [List.length_cons, decide_eq_false this, Bool.and_false]
    · have : (s[0] == 48) = false := by
        rw [beq_eq_false_iff_ne] at h2 ⊢
        intro e; apply h2; rw [e]; rfl
      simp only [this, Bool.false_and]
  simp only [magOK, List.head?_cons, List.isEmpty_cons, Bool.not_false, Bool.true_and, Option.some_beq_some, this]
theorem ok_lead (s : ByteArray) (h1 : 1 < s.size) (h2 : ((s[0].toNat : Int) == 48) = true) : magOK (bs s) = false := by
  obtain ⟨r, e, hr⟩ := bs_head s (by omega)
  have h3 : s[0] = 48 := UInt8.toNat_inj.1 (by have := eq_of_beq h2; simp; omega)
  rw [e, h3]
  have : (1 < r.length + 1) = True := by simp; omega
  simp only [magOK, List.head?_cons, List.length_cons, beq_self_eq_true, this, decide_true, Bool.and_self, Bool.not_true, Bool.and_false, Bool.false_and]
theorem ok_empty (s : ByteArray) (h : s.size = 0) : bs s = [] := List.eq_nil_of_length_eq_zero (by rw [bs_length]; exact h)

theorem ok_digit (s : ByteArray) (k : Nat) (v : Int) (hk : k < s.size) (hd : digit s[k] = true) (h : magOK (bs s) = (((bs s).drop k).all digit && decide (value v ((bs s).drop k) ≤ 1099511627776))) (hv : value 0 (bs s) = value v ((bs s).drop k)) :
    magOK (bs s) = (((bs s).drop (k + 1)).all digit && decide (value (10 * v + ((s[k].toNat : Int) - 48)) ((bs s).drop (k + 1)) ≤ 1099511627776)) ∧ value 0 (bs s) = value (10 * v + ((s[k].toNat : Int) - 48)) ((bs s).drop (k + 1)) := by
  rw [bs_drop s k hk] at h hv
  constructor
  · rw [h]; simp only [value, List.all_cons, hd, Bool.true_and]; try rfl
  · rw [hv]; rfl
theorem ok_stop (s : ByteArray) (k : Nat) (v : Int) (hk : k < s.size) (hd : digit s[k] = false) (h : magOK (bs s) = (((bs s).drop k).all digit && decide (value v ((bs s).drop k) ≤ 1099511627776))) : magOK (bs s) = false := by
  rw [bs_drop s k hk] at h
  rw [h]
  simp [hd]
theorem ok_big (l m : Bs) (v : Int) (h0 : 0 ≤ v) (hv : 1099511627776 < v) (h : magOK l = (m.all digit && decide (value v m ≤ 1099511627776))) : magOK l = false := by
  rw [h]
  cases ha : m.all digit with
  | false => rfl
  | true =>
    have := value_ge m v h0 ha
    simp; omega

set_option maxHeartbeats 1000000 in
theorem p_mag (s : ByteArray) (w : World) (hs : s.size ≤ 9223372036854775807) : Calls Tryd.prog 104 #[.string s] w fun e w' => e = .returned (.tuple #[.int .i64 (magnitude (bs s)), .bool (magOK (bs s))]) ∧ w = w' := by
  rcases Nat.lt_or_ge 1 s.size with h1 | h1
  · cases h2 : ((s[0].toNat : Int) == 48) with
    | true =>
      have HQ := Lib.hid (ok_lead s h1 h2)
      go_enter Tryd.func104, Tryd.ntmps104
      go_wp2_with fail
      all_goals first
        | (go_ret2; exact ⟨rets (mag_no HQ.out).symm HQ.out.symm, rfl⟩)
        | (exfalso; have : s = ByteArray.empty := by assumption; subst this; simp at h1; done)
        | (exfalso; have hx : (((s.size : Int) == 0) = false ∧ ((s[0].toNat : Int) == 48) = false) := by assumption; rw [h2] at hx; exact absurd hx.2 (by simp))
        | (exfalso; omega)
    | false =>
    have E := Lib.hid (ok_start s (by omega) (.inr h2))
    have hne : ((s.size : Int) == 0) = false := by rw [beq_eq_false_iff_ne]; omega
    have hne2 : ¬ s = ByteArray.empty := by rintro rfl; simp at h1
    go_enter Tryd.func104, Tryd.ntmps104
    go_wp2_with fail
    clear h2 hne hne2
    go_loopw [4, 21] (fun v i wr => ∃ (k : Nat) (a : Int), k ≤ s.size ∧ 0 ≤ a ∧ a ≤ 1099511627776 ∧ v = .int .i64 a ∧ i = .int .i64 k ∧ Hid (magOK (bs s) = (((bs s).drop k).all digit && decide (value a ((bs s).drop k) ≤ 1099511627776))) ∧ Hid (value 0 (bs s) = value a ((bs s).drop k)) ∧ w = wr) (fun _ i _ => s.size - (intOf i).toNat)
    case atStart => exact ⟨0, 0, by omega, by omega, by omega, rfl, rfl, E, rfl, rfl⟩
    case round =>
      obtain ⟨k, a, hk, ha0, ha1, rfl, rfl, HE, HV, rfl⟩ := hrel
      clear E
      by_cases hlt : k < s.size
      · cases hd : digit s[k] with
        | false =>
          have HQ := Lib.hid (ok_stop s k a hlt hd HE.out)
          clear HE HV
          go_wp2_with (go_at_call 100; refine (p_digit _ _).mono ?_; rintro e w' ⟨rfl, rfl⟩; rw [hd])
          go_ret2
          exact ⟨rets (mag_no HQ.out).symm HQ.out.symm, rfl⟩
        | true =>
          obtain ⟨q1, q2⟩ := ok_digit s k a hlt hd HE.out HV.out
          have HQ := Lib.hid q1
          have HW := Lib.hid q2
          have hb := (digit_iff _).1 hd
          clear HE HV q1 q2
          go_wp2_with (go_at_call 100; refine (p_digit _ _).mono ?_; rintro e w' ⟨rfl, rfl⟩; rw [hd])
          · have hbig : 1099511627776 < 10 * a + ((s[k].toNat : Int) - 48) := by assumption
            have HR := Lib.hid (ok_big _ _ _ (by omega) hbig HQ.out)
            go_ret2
            exact ⟨rets (mag_no HR.out).symm HR.out.symm, rfl⟩
          · have hsm : 10 * a + ((s[k].toNat : Int) - 48) ≤ 1099511627776 := by assumption
            go_roundw
            case rel => exact ⟨k + 1, _, by omega, by omega, hsm, rfl, by go_num, HQ, HW, by trivial⟩
            case measure => simp [intOf]; omega
      · have HR : Hid (magOK (bs s) = true ∧ value 0 (bs s) = a) := by
          have h1 := HE.out
          have h2 := HV.out
          rw [bs_drop_nil s k (by omega)] at h1 h2
          refine ⟨?_, h2⟩
          rw [h1]
          simp [value, ha1]
        clear HE HV
        go_wp2_with fail
        go_ret2
        exact ⟨rets ((mag_yes HR.out.1).trans HR.out.2).symm HR.out.1.symm, rfl⟩
  · by_cases h0 : s.size = 0
    · have hs0 : s = ByteArray.empty := bs_ext (by rw [ok_empty s h0]; rfl)
      subst hs0
      go_enter Tryd.func104, Tryd.ntmps104
      go_wp2_with fail
      go_ret2
      exact ⟨rfl, rfl⟩
    have E := Lib.hid (ok_start s (by omega) (.inl h1))
    have hne : ((s.size : Int) == 0) = false := by rw [beq_eq_false_iff_ne]; omega
    have hne2 : ¬ s = ByteArray.empty := by rintro rfl; simp at h0; done
    go_enter Tryd.func104, Tryd.ntmps104
    go_wp2_with fail
    clear hne hne2
    go_loopw [4, 21] (fun v i wr => ∃ (k : Nat) (a : Int), k ≤ s.size ∧ 0 ≤ a ∧ a ≤ 1099511627776 ∧ v = .int .i64 a ∧ i = .int .i64 k ∧ Hid (magOK (bs s) = (((bs s).drop k).all digit && decide (value a ((bs s).drop k) ≤ 1099511627776))) ∧ Hid (value 0 (bs s) = value a ((bs s).drop k)) ∧ w = wr) (fun _ i _ => s.size - (intOf i).toNat)
    case atStart => exact ⟨0, 0, by omega, by omega, by omega, rfl, rfl, E, rfl, rfl⟩
    case round =>
      obtain ⟨k, a, hk, ha0, ha1, rfl, rfl, HE, HV, rfl⟩ := hrel
      clear E
      by_cases hlt : k < s.size
      · cases hd : digit s[k] with
        | false =>
          have HQ := Lib.hid (ok_stop s k a hlt hd HE.out)
          clear HE HV
          go_wp2_with (go_at_call 100; refine (p_digit _ _).mono ?_; rintro e w' ⟨rfl, rfl⟩; rw [hd])
          go_ret2
          exact ⟨rets (mag_no HQ.out).symm HQ.out.symm, rfl⟩
        | true =>
          obtain ⟨q1, q2⟩ := ok_digit s k a hlt hd HE.out HV.out
          have HQ := Lib.hid q1
          have HW := Lib.hid q2
          have hb := (digit_iff _).1 hd
          clear HE HV q1 q2
          go_wp2_with (go_at_call 100; refine (p_digit _ _).mono ?_; rintro e w' ⟨rfl, rfl⟩; rw [hd])
          · have hbig : 1099511627776 < 10 * a + ((s[k].toNat : Int) - 48) := by assumption
            have HR := Lib.hid (ok_big _ _ _ (by omega) hbig HQ.out)
            go_ret2
            exact ⟨rets (mag_no HR.out).symm HR.out.symm, rfl⟩
          · have hsm : 10 * a + ((s[k].toNat : Int) - 48) ≤ 1099511627776 := by assumption
            go_roundw
            case rel => exact ⟨k + 1, _, by omega, by omega, hsm, rfl, by go_num, HQ, HW, by trivial⟩
            case measure => simp [intOf]; omega
      · have HR : Hid (magOK (bs s) = true ∧ value 0 (bs s) = a) := by
          have h1 := HE.out
          have h2 := HV.out
          rw [bs_drop_nil s k (by omega)] at h1 h2
          refine ⟨?_, h2⟩
          rw [h1]
          simp [value, ha1]
        clear HE HV
        go_wp2_with fail
        go_ret2
        exact ⟨rets ((mag_yes HR.out.1).trans HR.out.2).symm HR.out.1.symm, rfl⟩

end Go.Proofs.YtkfobijgjdgbgaaDoor.Mag
