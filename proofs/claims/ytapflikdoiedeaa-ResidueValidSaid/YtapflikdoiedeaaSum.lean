/-
  Contract of the program's sum of two sets.
-/
import Derived.Test.YtapflikdoiedeaaOps
namespace Go.Proofs.Ytapflikdoiedeaa.SumOf
open Go.ChangeShapes Go.WideShapes Go.ChangeAt Go.RowKit Plain Mem Nums Valid Errs Marks Gather Join Unite Fold AddSpan RefOps Ops
set_option linter.unusedVariables false

theorem sum_no (t : Int) (A : Option Addr) (n c : Nat) (L : List Sp) (A2 : Option Addr) (n2 c2 : Nat) (M : List Sp) (w : World) (ht0 : -9223372036854775808 ≤ t) (ht : t ≤ 9223372036854775807)
    (hS : Spans w w.heap.size A n L) (hn : n ≤ 9223372036854775807) (hS2 : Spans w w.heap.size A2 n2 M) (hn2 : n2 ≤ 9223372036854775807) (h : er t [L, M] ≠ 0) :
    Calls Try.prog 18 #[.int .i64 t, .slice A n c, .slice A2 n2 c2] w (ErrRes w.heap.size (er t [L, M]) w) := by
  have hne : (er t [L, M] != 0) = true := by rw [bne_iff_ne]; exact h
  have hr := er_range t [L, M]
  have H := Lib.hid (fun T => check2 t A n c L A2 n2 c2 M T w ht0 ht hS hn hS2 hn2)
  clear h hS hS2
  generalize er t [L, M] = x at *
  go_enter Try.func18, Try.ntmps18
  go_wp2_with fail
  refine (H.out _).mono ?_
  rintro e w' ⟨rfl, hb⟩
  go_wp2_with fail
  go_ret2
  exact ⟨rfl, hb⟩

theorem sum_yes (t : Nat) (A : Option Addr) (n c : Nat) (L : List Sp) (A2 : Option Addr) (n2 c2 : Nat) (M : List Sp) (w : World) (ht0 : 1 ≤ t) (ht : t ≤ 7200)
    (hS : Spans w w.heap.size A n L) (hn : n ≤ c) (hc : c ≤ 9223372036854775807) (hS2 : Spans w w.heap.size A2 n2 M) (hn2 : n2 ≤ c2) (hc2 : c2 ≤ 9223372036854775807) (h1 : vl t L = true) (h2 : vl t M = true) :
    Calls Try.prog 18 #[.int .i64 (t : Int), .slice A n c, .slice A2 n2 c2] w (SetRes w.heap.size t (sumOf t L M) w) := by
  have v1 : vf 0 t L = true := by simp only [vl, Bool.and_eq_true] at h1; exact h1.2
  have v2 : vf 0 t M = true := by simp only [vl, Bool.and_eq_true] at h2; exact h2.2
  have l1 := vf_len L 0 t v1 (by omega)
  have l2 := vf_len M 0 t v2 (by omega)
  rw [hS.1] at l1
  rw [hS2.1] at l2
  have he : er t [L, M] = 0 := (er_two t L M).2 ⟨h1, h2⟩
  have HB : Hid (∀ T : TypeId, Calls Try.prog 42 #[.int .i64 (t : Int), .slice (some ⟨w.heap.size, 0, none⟩) 2 2] (w.alloc (.cells #[.slice A n c, .slice A2 n2 c2] T)) fun e w' => e = .returned (.int .i64 0) ∧ Below w.heap.size w w') := fun T => by
    have H := check2 t A n c L A2 n2 c2 M T w (by omega) (by omega) hS (by omega) hS2 (by omega)
    rwa [he] at H
  have HS := Lib.hid hS
  have HS2 := Lib.hid hS2
  have V1 := Lib.hid v1
  have V2 := Lib.hid v2
  clear h1 h2 hS hS2 he v1 v2
  by_cases hsw : n < n2
  · have HF : Hid (∀ x, 0 ≤ x → x < (t : Int) → (sumZ M L x || sumZ M L (x + t)) = sumOf t L M x) := fun x h0 h1 => (sum_two t M L x (by omega) V2.out V1.out h0 h1).trans (sum_swap t L M x)
    go_enter Try.func18, Try.ntmps18
    go_wp2_with fail
    refine (HB.out _).mono ?_
    rintro e w1 ⟨rfl, hb⟩
    clear HB
    have hz := hb.size
    go_wp2_with fail
    go_loopw [9, 29] (fun u i wr => ∃ (k : Nat) (A1 : Option Addr) (n1 c1 : Nat) (S : List Sp), k ≤ n ∧ i = .int .i64 k ∧ u = .slice A1 n1 c1 ∧ Own wr w.heap.size (.slice A1 n1 c1) n1 S ∧ Hid (vf 0 (2 * t) S = true) ∧ Hid (∀ x, mem S x = sumZ M (L.take k) x) ∧ Below w.heap.size w wr) (fun _ i _ => n - (intOf i).toNat)
    case atStart => exact ⟨0, none, 0, 0, [], Nat.zero_le _, rfl, rfl, Own.nil _ _, rfl, fun x => rfl, hb⟩
    case round =>
      obtain ⟨k, A1, n1, c1, S, hk, rfl, rfl, hO, hV, hM, hbr⟩ := hrel
      have hz' := hbr.size
      obtain ⟨hf1, hf2⟩ := (show n1 ≤ c1 ∧ c1 ≤ maxLen from by
        obtain ⟨A', c', e, h1, h2⟩ := hO.form
        injection e with _ _ e; subst e; exact ⟨h1, h2⟩)
      unfold maxLen at hf2
      have ln := vf_len S 0 (2 * t) hV.out (by omega)
      rw [hO.1] at ln
      have HO := Lib.hid hO
      clear hO
      by_cases hlt : k < n
      · obtain ⟨ad, q, rfl, hab, hq, d0, d1⟩ := (HS.out.below hbr).load hlt
        have hqv := vf_get 0 t L k q V1.out hq
        have HT := Lib.hid (fun x => sumZ_take M L k q x hq)
        clear hq
        obtain ⟨q1, q2⟩ := q
        simp only at hqv d0 d1 HT
        have hb1 : Below w.heap.size w (wr.alloc (.cells #[.int .i64 q1, .int .i64 q2] 29)) := hbr.alloc hz' _
        have HO2 := Lib.hid (HO.out.alloc (.cells #[.int .i64 q1, .int .i64 q2] 29))
        go_wp2_with fail
        refine (add_any t A2 n2 c2 M q1 q2 _ (by omega) ((HS2.out.below hb1).more hb1.size) (by omega) V2.out ⟨by omega, by omega, by omega⟩).mono ?_
        rintro e w3 ⟨A3, n3, c3, rfl, hO3, hb3⟩
        have hz3 := hb3.size
        have hl3 : n3 ≤ 50000 := by have := hO3.1; have h2 := HS2.out.1; simp [addL] at this; omega
        have hS3 := hO3.spans
        obtain ⟨hf3, hf4⟩ := (show n3 ≤ c3 ∧ c3 ≤ maxLen from by
          obtain ⟨A', c', e, h1, h2⟩ := hO3.form
          injection e with _ _ e; subst e; exact ⟨h1, h2⟩)
        unfold maxLen at hf4
        have hS1 := (HO2.out.below hb3 (Nat.le_refl _)).spans
        have hb4 := hb1.trans (hb3.mono hb1.size)
        have hz4 := hb4.size
        clear hO3 hb3 hb1
        go_wp2_with fail
        refine (unite_any (2 * t) A1 n1 c1 S A3 n3 c3 (addL (q1, q2) M) w3 (by omega) hS1 (by omega) hf1 hf2 hS3 (by omega) hf3 hf4 (af_of_vf S 0 0 _ (by omega) hV.out) (addL_af M 0 t (q1, q2) V2.out (by simp only; omega) (by simp only; omega) 0 (by simp only; omega))).mono ?_
        rintro e w5 ⟨A5, n5, c5, rfl, U, u1, u2, u3, u4⟩
        have u1' := u1.base_ hz4
        have u2' : Hid (vf 0 (2 * t) U = true) := u2
        have u3' : Hid (∀ x, mem U x = sumZ M (L.take (k + 1)) x) := fun x => by rw [HT.out x, ← hM.out x]; exact u3 x
        have u4' := hb4.trans (u4.mono hz4)
        clear u1 u2 u3 u4
        go_wp2_with fail
        go_roundw
        case rel => exact ⟨k + 1, A5, n5, c5, U, by omega, by go_num, rfl, u1', u2', u3', u4'⟩
        case measure => simp [intOf]; omega
      · have hS1 := HO.out.spans
        have R : Hid (∀ x, mem S x = sumZ M L x) := fun x => by rw [hM.out x, List.take_of_length_le (by have := HS.out.1; omega)]
        go_wp2_with fail
        refine (fold_any t A1 n1 c1 S wr ht0 ht hS1 (by omega) (af_of_vf S 0 0 _ (by omega) hV.out)).mono ?_
        rintro e w5 ⟨A5, n5, c5, rfl, h5⟩
        have h6 := isSet_after hbr hz' (isSet_congr (f' := sumOf t L M) h5 (fun x h0 h1' => by rw [← HF.out x h0 h1']; show (mem S x || mem S (x + t)) = _; rw [R.out, R.out]))
        clear h5
        go_wp2_with fail
        go_ret2
        exact ⟨A5, n5, c5, rfl, h6⟩
  · have HF : Hid (∀ x, 0 ≤ x → x < (t : Int) → (sumZ L M x || sumZ L M (x + t)) = sumOf t L M x) := fun x h0 h1 => sum_two t L M x (by omega) V1.out V2.out h0 h1
    go_enter Try.func18, Try.ntmps18
    go_wp2_with fail
    refine (HB.out _).mono ?_
    rintro e w1 ⟨rfl, hb⟩
    clear HB
    have hz := hb.size
    go_wp2_with fail
    go_loopw [9, 29] (fun u i wr => ∃ (k : Nat) (A1 : Option Addr) (n1 c1 : Nat) (S : List Sp), k ≤ n2 ∧ i = .int .i64 k ∧ u = .slice A1 n1 c1 ∧ Own wr w.heap.size (.slice A1 n1 c1) n1 S ∧ Hid (vf 0 (2 * t) S = true) ∧ Hid (∀ x, mem S x = sumZ L (M.take k) x) ∧ Below w.heap.size w wr) (fun _ i _ => n2 - (intOf i).toNat)
    case atStart => exact ⟨0, none, 0, 0, [], Nat.zero_le _, rfl, rfl, Own.nil _ _, rfl, fun x => rfl, hb⟩
    case round =>
      obtain ⟨k, A1, n1, c1, S, hk, rfl, rfl, hO, hV, hM, hbr⟩ := hrel
      have hz' := hbr.size
      obtain ⟨hf1, hf2⟩ := (show n1 ≤ c1 ∧ c1 ≤ maxLen from by
        obtain ⟨A', c', e, h1, h2⟩ := hO.form
        injection e with _ _ e; subst e; exact ⟨h1, h2⟩)
      unfold maxLen at hf2
      have ln := vf_len S 0 (2 * t) hV.out (by omega)
      rw [hO.1] at ln
      have HO := Lib.hid hO
      clear hO
      by_cases hlt : k < n2
      · obtain ⟨ad, q, rfl, hab, hq, d0, d1⟩ := (HS2.out.below hbr).load hlt
        have hqv := vf_get 0 t M k q V2.out hq
        have HT := Lib.hid (fun x => sumZ_take L M k q x hq)
        clear hq
        obtain ⟨q1, q2⟩ := q
        simp only at hqv d0 d1 HT
        have hb1 : Below w.heap.size w (wr.alloc (.cells #[.int .i64 q1, .int .i64 q2] 29)) := hbr.alloc hz' _
        have HO2 := Lib.hid (HO.out.alloc (.cells #[.int .i64 q1, .int .i64 q2] 29))
        go_wp2_with fail
        refine (add_any t A n c L q1 q2 _ (by omega) ((HS.out.below hb1).more hb1.size) (by omega) V1.out ⟨by omega, by omega, by omega⟩).mono ?_
        rintro e w3 ⟨A3, n3, c3, rfl, hO3, hb3⟩
        have hz3 := hb3.size
        have hl3 : n3 ≤ 50000 := by have := hO3.1; have h2 := HS.out.1; simp [addL] at this; omega
        have hS3 := hO3.spans
        obtain ⟨hf3, hf4⟩ := (show n3 ≤ c3 ∧ c3 ≤ maxLen from by
          obtain ⟨A', c', e, h1, h2⟩ := hO3.form
          injection e with _ _ e; subst e; exact ⟨h1, h2⟩)
        unfold maxLen at hf4
        have hS1 := (HO2.out.below hb3 (Nat.le_refl _)).spans
        have hb4 := hb1.trans (hb3.mono hb1.size)
        have hz4 := hb4.size
        clear hO3 hb3 hb1
        go_wp2_with fail
        refine (unite_any (2 * t) A1 n1 c1 S A3 n3 c3 (addL (q1, q2) L) w3 (by omega) hS1 (by omega) hf1 hf2 hS3 (by omega) hf3 hf4 (af_of_vf S 0 0 _ (by omega) hV.out) (addL_af L 0 t (q1, q2) V1.out (by simp only; omega) (by simp only; omega) 0 (by simp only; omega))).mono ?_
        rintro e w5 ⟨A5, n5, c5, rfl, U, u1, u2, u3, u4⟩
        have u1' := u1.base_ hz4
        have u2' : Hid (vf 0 (2 * t) U = true) := u2
        have u3' : Hid (∀ x, mem U x = sumZ L (M.take (k + 1)) x) := fun x => by rw [HT.out x, ← hM.out x]; exact u3 x
        have u4' := hb4.trans (u4.mono hz4)
        clear u1 u2 u3 u4
        go_wp2_with fail
        go_roundw
        case rel => exact ⟨k + 1, A5, n5, c5, U, by omega, by go_num, rfl, u1', u2', u3', u4'⟩
        case measure => simp [intOf]; omega
      · have hS1 := HO.out.spans
        have R : Hid (∀ x, mem S x = sumZ L M x) := fun x => by rw [hM.out x, List.take_of_length_le (by have := HS2.out.1; omega)]
        go_wp2_with fail
        refine (fold_any t A1 n1 c1 S wr ht0 ht hS1 (by omega) (af_of_vf S 0 0 _ (by omega) hV.out)).mono ?_
        rintro e w5 ⟨A5, n5, c5, rfl, h5⟩
        have h6 := isSet_after hbr hz' (isSet_congr (f' := sumOf t L M) h5 (fun x h0 h1' => by rw [← HF.out x h0 h1']; show (mem S x || mem S (x + t)) = _; rw [R.out, R.out]))
        clear h5
        go_wp2_with fail
        go_ret2
        exact ⟨A5, n5, c5, rfl, h6⟩

end Go.Proofs.Ytapflikdoiedeaa.SumOf
