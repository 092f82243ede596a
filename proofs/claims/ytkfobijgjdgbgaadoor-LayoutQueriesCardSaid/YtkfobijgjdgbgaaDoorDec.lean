/-
  The decimal representation of a number: plain mathematics, and the contract of the document's own function that makes it.
-/
import Derived.Test.YtkfobijgjdgbgaaDoorNum
import Derived.Laws.Concat
namespace Go.Proofs.YtkfobijgjdgbgaaDoor.Dec
open Go.ChangeShapes Go.WideShapes Go.ChangeAt Go.RowKit Wd Small Mag Num
set_option linter.unusedVariables false

def dig (q : Nat) : UInt8 := UInt8.ofNat (48 + q)
theorem dig_nat (q : Nat) (h : q < 10) : (dig q).toNat = 48 + q := by
  unfold dig
  rw [UInt8.toNat_ofNat']
  omega
/-- the digits of a number, none for 0 -/
def dz (a : Nat) : Bs := if h : a = 0 then [] else dz (a / 10) ++ [dig (a % 10)]
termination_by a
decreasing_by omega
theorem dz_zero : dz 0 = [] := by unfold dz; simp
theorem dz_step (a : Nat) (h : 0 < a) : dz a = dz (a / 10) ++ [dig (a % 10)] := by
  conv => lhs; unfold dz
  rw [dif_neg (by omega)]
def dec (n : Int) : Bs := if n = 0 then [48] else if n < 0 then 45 :: dz n.natAbs else dz n.natAbs

theorem value_snoc : ∀ (l : Bs) (v : Int) (b : UInt8), value v (l ++ [b]) = 10 * value v l + ((b.toNat : Int) - 48)
  | [], v, b => rfl
  | c :: l, v, b => by simp only [List.cons_append, value]; exact value_snoc l _ b
theorem dz_value (a : Nat) : value 0 (dz a) = a := by
  induction a using Nat.strongRecOn with
  | _ a ih =>
    by_cases h : a = 0
    · subst h; rw [dz_zero]; rfl
    · rw [dz_step a (by omega), value_snoc, ih (a / 10) (by omega), dig_nat _ (by omega)]
      omega
theorem dz_digits (a : Nat) : (dz a).all digit = true := by
  induction a using Nat.strongRecOn with
  | _ a ih =>
    by_cases h : a = 0
    · subst h; rw [dz_zero]; rfl
    · rw [dz_step a (by omega), List.all_append, ih (a / 10) (by omega)]
      have := dig_nat (a % 10) (by omega)
      simp [digit, this]; omega
theorem dz_ne (a : Nat) (h : 0 < a) : dz a ≠ [] := by rw [dz_step a h]; simp
theorem dz_head (a : Nat) (h : 0 < a) : ∃ q r, dz a = dig q :: r ∧ 0 < q ∧ q < 10 := by
  induction a using Nat.strongRecOn with
  | _ a ih =>
    rw [dz_step a h]
    by_cases h10 : a < 10
    · rw [show a / 10 = 0 by omega, dz_zero]
      exact ⟨a % 10, [], rfl, by omega, by omega⟩
    · obtain ⟨q, r, e, h1, h2⟩ := ih (a / 10) (by omega) (by omega)
      exact ⟨q, r ++ [dig (a % 10)], by rw [e]; rfl, h1, h2⟩
theorem dz_len (k : Nat) : ∀ a, a < 10 ^ k → (dz a).length ≤ k := by
  induction k with
  | zero => intro a h; have : a = 0 := by simpa using h
            subst this; rw [dz_zero]; simp
  | succ k ih =>
    intro a h
    by_cases h0 : a = 0
    · subst h0; rw [dz_zero]; simp
    · rw [dz_step a (by omega), List.length_append, List.length_singleton]
      have := ih (a / 10) (by rw [Nat.pow_succ] at h; omega)
      omega
theorem dz_mag (a : Nat) (h : 0 < a) : magOK (dz a) = decide ((a : Int) ≤ 1099511627776) := by
  obtain ⟨q, r, e, h1, h2⟩ := dz_head a h
  have hne : (dz a).head? ≠ some 48 := by
    rw [e]
    simp only [List.head?_cons, ne_eq, Option.some.injEq]
    intro e2
    have := dig_nat q h2
    rw [e2] at this
    have h48 : (48 : UInt8).toNat = 48 := rfl
    omega
  rw [mag_of (dz a) (dz_ne a h) (.inl hne) (dz_digits a), dz_value]
theorem dz_minus (a : Nat) (h : 0 < a) : minus (dz a) = false := by
  obtain ⟨q, r, e, h1, h2⟩ := dz_head a h
  rw [e]
  simp only [minus, List.head?_cons, Option.some_beq_some]
  rw [beq_eq_false_iff_ne]
  intro e2
  have := dig_nat q h2
  rw [e2] at this
  have h45 : (45 : UInt8).toNat = 45 := rfl
  omega
/-- the decimal representation of a number denotes it, up to the limit, and nothing beyond -/
theorem dec_num (n : Int) : numOK (dec n) = decide (-1099511627776 ≤ n ∧ n ≤ 1099511627776) ∧ (-1099511627776 ≤ n ∧ n ≤ 1099511627776 → number (dec n) = n) ∧ (¬ (-1099511627776 ≤ n ∧ n ≤ 1099511627776) → number (dec n) = 0) := by
  by_cases h0 : n = 0
  · subst h0
    exact ⟨by decide, fun _ => by decide, fun h => absurd ⟨by decide, by decide⟩ h⟩
  · have hp : 0 < n.natAbs := by omega
    have hm := dz_mag n.natAbs hp
    by_cases hn : n < 0
    · have e : dec n = 45 :: dz n.natAbs := by rw [dec, if_neg h0, if_pos hn]
      have hmin : minus (dec n) = true := by rw [e]; rfl
      obtain ⟨e1, e2⟩ := num_minus hmin
      have ed : (dec n).drop 1 = dz n.natAbs := by rw [e]; rfl
      rw [ed] at e1 e2
      rw [e1, e2, hm]
      by_cases hb : -1099511627776 ≤ n ∧ n ≤ 1099511627776
      · have hd : decide ((n.natAbs : Int) ≤ 1099511627776) = true := by simp; omega
        have hv := mag_yes (hm.trans hd)
        rw [dz_value] at hv
        rw [hd, hv]
        refine ⟨?_, fun _ => by omega, fun h => absurd hb h⟩
        rw [decide_eq_true hb]
        simp; omega
      · have hd : decide ((n.natAbs : Int) ≤ 1099511627776) = false := by simp; omega
        have hv := mag_no (hm.trans hd)
        rw [hd, hv, decide_eq_false hb]
        exact ⟨rfl, fun h => absurd h hb, fun _ => rfl⟩
    · have e : dec n = dz n.natAbs := by rw [dec, if_neg h0, if_neg hn]
      obtain ⟨e1, e2⟩ := num_plain (dz_minus n.natAbs hp)
      rw [e, e1, e2, hm]
      by_cases hb : -1099511627776 ≤ n ∧ n ≤ 1099511627776
      · have hd : decide ((n.natAbs : Int) ≤ 1099511627776) = true := by simp; omega
        have hv := mag_yes (hm.trans hd)
        rw [dz_value] at hv
        rw [hd, hv, decide_eq_true hb]
        exact ⟨rfl, fun _ => by omega, fun h => absurd hb h⟩
      · have hd : decide ((n.natAbs : Int) ≤ 1099511627776) = false := by simp; omega
        have hv := mag_no (hm.trans hd)
        rw [hd, hv, decide_eq_false hb]
        exact ⟨rfl, fun h => absurd h hb, fun _ => rfl⟩

theorem digits_at (q : Nat) (h : q < 10) : (⟨#[48, 49, 50, 51, 52, 53, 54, 55, 56, 57]⟩ : ByteArray).extract q (q + 1) = str [dig q] := by
  match q, h with
  | 0, _ => rfl
  | 1, _ => rfl
  | 2, _ => rfl
  | 3, _ => rfl
  | 4, _ => rfl
  | 5, _ => rfl
  | 6, _ => rfl
  | 7, _ => rfl
  | 8, _ => rfl
  | 9, _ => rfl
  | k + 10, h => exact absurd h (by omega)
theorem dec_small (q : Nat) (h : q < 10) : dec q = [dig q] := by
  unfold dec
  by_cases h0 : q = 0
  · subst h0; rfl
  · rw [if_neg (by omega), if_neg (by omega)]
    show dz (q : Int).natAbs = _
    rw [Int.natAbs_natCast, dz_step q (by omega), show q / 10 = 0 by omega, dz_zero, show q % 10 = q by omega]
    rfl
theorem cons_str (q : Nat) (t : Bs) : str [dig q] ++ str t = str (dig q :: t) := bs_ext (by rw [bs_append]; rfl)
theorem dz_next (n : Nat) (a : Nat) (t : Bs) (ha : 0 < a) (h : dz n = dz a ++ t) : dz n = dz (a / 10) ++ (dig (a % 10) :: t) := by
  rw [h, dz_step a ha, List.append_assoc]; rfl
theorem tmod_pos (a : Nat) : (a : Int).tmod 10 = ((a % 10 : Nat) : Int) ∧ (a : Int).tdiv 10 = ((a / 10 : Nat) : Int) := ⟨by rw [Int.tmod_eq_emod_of_nonneg (by omega)]; rfl, by rw [Int.tdiv_eq_ediv_of_nonneg (by omega)]; rfl⟩

set_option maxHeartbeats 1000000 in
theorem r_dec (n : Int) (w : World) (h1 : -9223372036854775808 ≤ n) (h2 : n ≤ 9223372036854775807) : Calls Tryd.prog 54 #[.int .i64 n] w fun e w' => e = .returned (.string (str (dec n))) ∧ w = w' := by
  by_cases hs : 0 ≤ n ∧ n < 10
  · obtain ⟨q, rfl⟩ : ∃ q : Nat, n = q := ⟨n.toNat, by omega⟩
    have e1 := digits_at q (by omega)
    have HD := Lib.hid (dec_small q (by omega))
    have c0 : (0 : Int) ≤ q := by omega
    have c1 : (q : Int) ≤ (q : Int) + 1 := by omega
    have c2 : (q : Int) + 1 ≤ 10 := by omega
    go_enter Tryd.func54, Tryd.ntmps54
    go_wp2_with fail
    go_ret
    exact ⟨by rw [HD.out]; rfl, rfl⟩
  · by_cases hn : n < 0
    · have HD : Hid (dec n = 45 :: dz n.natAbs) := by rw [Hid, dec, if_neg (by omega), if_pos hn]
      have HL : Hid ((dz n.natAbs).length ≤ 19) := dz_len 19 n.natAbs (by omega)
      go_enter Tryd.func54, Tryd.ntmps54
      go_wp2_with fail
      go_loopw [0, 3] (fun x y wr => ∃ (a : Nat) (t : Bs), a ≤ 9223372036854775808 ∧ x = .int .i64 (-(a : Int)) ∧ y = .string (str t) ∧ Hid (dz n.natAbs = dz a ++ t) ∧ w = wr) (fun x _ _ => (intOf x).natAbs)
      case atStart => exact ⟨n.natAbs, [], by omega, by congr 1; omega, rfl, by rw [Hid, List.append_nil], rfl⟩
      case round =>
        obtain ⟨a, t, ha, rfl, rfl, HE, rfl⟩ := hrel
        have ht : (str t).size ≤ 19 := by
          have h := HL.out
          rw [HE.out, List.length_append] at h
          rw [size_str]; omega
        by_cases ha0 : a = 0
        · subst ha0
          have HF : Hid (dz n.natAbs = t) := by rw [Hid, HE.out, dz_zero, List.nil_append]
          have hcat : (⟨#[45]⟩ : ByteArray) ++ str t = str (45 :: t) := bs_ext (by rw [bs_append]; rfl)
          have hsz : (⟨#[45]⟩ : ByteArray).size + (str t).size ≤ 9223372036854775807 := by
            have : (⟨#[45]⟩ : ByteArray).size = 1 := rfl
            omega
          go_wp2_with fail
          go_ret
          exact ⟨by rw [HD.out, HF.out]; rfl, rfl⟩
        · have HE2 := Lib.hid (dz_next n.natAbs a t (by omega) HE.out)
          obtain ⟨m1, m2⟩ := tmod_pos a
          have hq : a % 10 < 10 := by omega
          have e1 := digits_at (a % 10) hq
          have e2 := cons_str (a % 10) t
          have hb : a / 10 < a := by omega
          have hb2 : a / 10 ≤ 9223372036854775807 := by omega
          clear HE
          generalize a % 10 = q at *
          generalize a / 10 = b at *
          obtain ⟨X, hX, hXs⟩ : ∃ X : ByteArray, str [dig q] = X ∧ X.size = 1 := ⟨_, rfl, rfl⟩
          obtain ⟨V, hV⟩ : ∃ V : ByteArray, str (dig q :: t) = V := ⟨_, rfl⟩
          rw [hX] at e1 e2
          have HV := Lib.hid hV
          rw [hV] at e2
          clear hX hV
          generalize str t = T0 at *
          have hsum : X.size + T0.size ≤ 9223372036854775807 := by omega
          have c0 : (0 : Int) ≤ q := by omega
          have c1 : (q : Int) ≤ (q : Int) + 1 := by omega
          have c2 : (q : Int) + 1 ≤ 10 := by omega
          have hne : ¬ ((a : Int) = 0) := by omega
          by_cases hq0 : q = 0
          · subst hq0
            go_wp2_with fail
            go_roundw
            case rel => exact ⟨b, _, by omega, rfl, by rw [← HV.out], HE2, by trivial⟩
            case measure => simp [intOf]; omega
          · have hqp : (0 : Int) < q := by omega
            go_wp2_with fail
            go_roundw
            case rel => exact ⟨b, _, by omega, rfl, by rw [← HV.out], HE2, by trivial⟩
            case measure => simp [intOf]; omega
    · have HD : Hid (dec n = dz n.natAbs) := by rw [Hid, dec, if_neg (by omega), if_neg hn]
      have HL : Hid ((dz n.natAbs).length ≤ 19) := dz_len 19 n.natAbs (by omega)
      go_enter Tryd.func54, Tryd.ntmps54
      go_wp2_with fail
      go_loopw [0, 3] (fun x y wr => ∃ (a : Nat) (t : Bs), a ≤ 9223372036854775807 ∧ x = .int .i64 (a : Int) ∧ y = .string (str t) ∧ Hid (dz n.natAbs = dz a ++ t) ∧ w = wr) (fun x _ _ => (intOf x).natAbs)
      case atStart => exact ⟨n.natAbs, [], by omega, by congr 1; omega, rfl, by rw [Hid, List.append_nil], rfl⟩
      case round =>
        obtain ⟨a, t, ha, rfl, rfl, HE, rfl⟩ := hrel
        have ht : (str t).size ≤ 19 := by
          have h := HL.out
          rw [HE.out, List.length_append] at h
          rw [size_str]; omega
        by_cases ha0 : a = 0
        · subst ha0
          have HF : Hid (dz n.natAbs = t) := by rw [Hid, HE.out, dz_zero, List.nil_append]
          go_wp2_with fail
          go_ret
          exact ⟨by rw [HD.out, HF.out]; rfl, rfl⟩
        · have HE2 := Lib.hid (dz_next n.natAbs a t (by omega) HE.out)
          obtain ⟨m1, m2⟩ := tmod_pos a
          have hq : a % 10 < 10 := by omega
          have e1 := digits_at (a % 10) hq
          have e2 := cons_str (a % 10) t
          have hb : a / 10 < a := by omega
          have hb2 : a / 10 ≤ 9223372036854775807 := by omega
          clear HE
          generalize a % 10 = q at *
          generalize a / 10 = b at *
          obtain ⟨X, hX, hXs⟩ : ∃ X : ByteArray, str [dig q] = X ∧ X.size = 1 := ⟨_, rfl, rfl⟩
          obtain ⟨V, hV⟩ : ∃ V : ByteArray, str (dig q :: t) = V := ⟨_, rfl⟩
          rw [hX] at e1 e2
          have HV := Lib.hid hV
          rw [hV] at e2
          clear hX hV
          generalize str t = T0 at *
          have hsum : X.size + T0.size ≤ 9223372036854775807 := by omega
          have c0 : (0 : Int) ≤ q := by omega
          have c1 : (q : Int) ≤ (q : Int) + 1 := by omega
          have c2 : (q : Int) + 1 ≤ 10 := by omega
          have hne : ¬ ((a : Int) = 0) := by omega
          by_cases hq0 : q = 0
          · subst hq0
            go_wp2_with fail
            go_roundw
            case rel => exact ⟨b, _, by omega, rfl, by rw [← HV.out], HE2, by trivial⟩
            case measure => simp [intOf]; omega
          · have hqp : (0 : Int) < q := by omega
            go_wp2_with fail
            go_roundw
            case rel => exact ⟨b, _, by omega, rfl, by rw [← HV.out], HE2, by trivial⟩
            case measure => simp [intOf]; omega

theorem dec_len (n : Int) (h1 : -9223372036854775808 ≤ n) (h2 : n ≤ 9223372036854775807) : (dec n).length ≤ 20 := by
  have := dz_len 19 n.natAbs (by omega)
  unfold dec
  split
  · simp
  · split
    · simp only [List.length_cons]; omega
    · omega

/-- the number from 0 to n - 1 that an arbitrary integer picks -/
def pick (v n : Int) : Int := (v % 18446744073709551616) % n
theorem pick_range (v n : Int) (hn : 1 ≤ n) : 0 ≤ pick v n ∧ pick v n < n := ⟨Int.emod_nonneg _ (by omega), Int.emod_lt_of_pos _ (by omega)⟩
theorem pick_eq (v n : Int) (hn : 1 ≤ n) (hn2 : n ≤ 9223372036854775807) : wrap64 ((IntKind.u64.wrap v).tmod n) = pick v n := by
  have h := pick_range v n hn
  have e : IntKind.u64.wrap v = v % 18446744073709551616 := IntKind.wrap_u64 v
  have h0 : 0 ≤ v % 18446744073709551616 := Int.emod_nonneg _ (by omega)
  rw [e, Int.tmod_eq_emod_of_nonneg h0]
  exact IntWalk.wrap64_in _ ⟨by unfold pick at h; omega, by unfold pick at h; omega⟩
theorem pick_any (v n : Int) (w : World) (h1 : -9223372036854775808 ≤ v) (h2 : v ≤ 9223372036854775807) (hn : 1 ≤ n) (hn2 : n ≤ 9223372036854775807) :
    Calls Tryd.prog 33 #[.int .i64 v, .int .i64 n] w fun e w' => e = .returned (.int .i64 (pick v n)) ∧ w = w' := by
  have E := Lib.hid (pick_eq v n hn hn2)
  go_enter Tryd.func33, Tryd.ntmps33
  go_wp2
  go_ret
  exact ⟨ret1 E.out, rfl⟩

end Go.Proofs.YtkfobijgjdgbgaaDoor.Dec
