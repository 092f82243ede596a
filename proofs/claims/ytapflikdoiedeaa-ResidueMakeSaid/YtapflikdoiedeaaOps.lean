/-
  Contracts of the program's checks of sets, and of its functions that make, unite, shift sets.
-/
import Derived.Test.YtapflikdoiedeaaAdd
import Derived.Test.YtapflikdoiedeaaOMath
import Derived.Test.YtapflikdoiedeaaRefOps
namespace Go.Proofs.Ytapflikdoiedeaa.Ops
open Go.ChangeShapes Go.WideShapes Go.ChangeAt Go.RowKit Plain Mem Nums Valid Errs Marks Gather Join Unite Fold AddSpan RefOps
set_option linter.unusedVariables false

theorem check0 (t : Int) (w : World) (ht0 : -9223372036854775808 ≤ t) (ht : t ≤ 9223372036854775807) :
    Calls Try.prog 42 #[.int .i64 t, .slice none 0 0] w fun e w' => e = .returned (.int .i64 (if vp t then 0 else 4)) ∧ Below w.heap.size w w' := by
  have h := check_any t none 0 0 [] [] w ht0 ht rfl (by omega) ⟨rfl, fun j v hv => by simp at hv⟩
  have e : er t [] = if vp t then 0 else 4 := by simp [er]
  rwa [e] at h

theorem check1 (t : Int) (A : Option Addr) (n c : Nat) (L : List Sp) (T : TypeId) (w : World) (ht0 : -9223372036854775808 ≤ t) (ht : t ≤ 9223372036854775807) (hS : Spans w w.heap.size A n L) (hn : n ≤ 9223372036854775807) :
    Calls Try.prog 42 #[.int .i64 t, .slice (some ⟨w.heap.size, 0, none⟩) 1 1] (w.alloc (.cells #[.slice A n c] T)) fun e w' => e = .returned (.int .i64 (er t [L])) ∧ Below w.heap.size w w' := by
  have hb : Below w.heap.size w (w.alloc (.cells #[.slice A n c] T)) := (Below.refl _ _).alloc (Nat.le_refl _) _
  refine (check_any t (some ⟨w.heap.size, 0, none⟩) 1 1 [(A, n, c)] [L] _ ht0 ht rfl (by omega) ⟨rfl, fun j v hv => ?_⟩).mono fun e w' h => ⟨h.1, hb.trans (h.2.mono (by simp))⟩
  match j, hv with
  | 0, hv =>
    simp at hv
    subst hv
    exact ⟨_, L, rfl, by simp, rfl, by simp [Addr.add], (hS.below hb).more (by simp), hn⟩

theorem check2 (t : Int) (A : Option Addr) (n c : Nat) (L : List Sp) (A2 : Option Addr) (n2 c2 : Nat) (M : List Sp) (T : TypeId) (w : World) (ht0 : -9223372036854775808 ≤ t) (ht : t ≤ 9223372036854775807)
    (hS : Spans w w.heap.size A n L) (hn : n ≤ 9223372036854775807) (hS2 : Spans w w.heap.size A2 n2 M) (hn2 : n2 ≤ 9223372036854775807) :
    Calls Try.prog 42 #[.int .i64 t, .slice (some ⟨w.heap.size, 0, none⟩) 2 2] (w.alloc (.cells #[.slice A n c, .slice A2 n2 c2] T)) fun e w' => e = .returned (.int .i64 (er t [L, M])) ∧ Below w.heap.size w w' := by
  have hb : Below w.heap.size w (w.alloc (.cells #[.slice A n c, .slice A2 n2 c2] T)) := (Below.refl _ _).alloc (Nat.le_refl _) _
  refine (check_any t (some ⟨w.heap.size, 0, none⟩) 2 2 [(A, n, c), (A2, n2, c2)] [L, M] _ ht0 ht rfl (by omega) ⟨rfl, fun j v hv => ?_⟩).mono fun e w' h => ⟨h.1, hb.trans (h.2.mono (by simp))⟩
  match j, hv with
  | 0, hv =>
    simp at hv
    subst hv
    exact ⟨_, L, rfl, by simp, rfl, by simp [Addr.add], (hS.below hb).more (by simp), hn⟩
  | 1, hv =>
    simp at hv
    subst hv
    exact ⟨_, M, rfl, by simp, rfl, by simp [Addr.add], (hS2.below hb).more (by simp), hn2⟩

theorem make_no (t s n : Int) (w : World) (ht0 : -9223372036854775808 ≤ t) (ht : t ≤ 9223372036854775807) (h : vp t = false) :
    Calls Try.prog 15 #[.int .i64 t, .int .i64 s, .int .i64 n] w (ErrRes w.heap.size 4 w) := by
  have H := check0 t w ht0 ht
  rw [h] at H
  have HB := Lib.hid H
  clear H h
  go_enter Try.func15, Try.ntmps15
  go_wp2_with fail
  refine HB.out.mono ?_
  rintro e w' ⟨rfl, hb⟩
  go_wp2_with fail
  go_ret2
  exact ⟨rfl, hb⟩

theorem one_span (w : World) (a b : Int) (T : TypeId) : Spans (w.alloc (.cells #[.int .i64 a, .int .i64 b] T)) (w.heap.size + 1) (some ⟨w.heap.size, 0, none⟩) 1 [(a, b)] :=
  ⟨rfl, fun j u hu => ⟨_, rfl, by simp, new_pair w a b T j u hu⟩⟩

theorem make_set (t s n m x : Int) (ht : 1 ≤ t) (hm : m = min n t) (hn : 1 ≤ n) (h0 : 0 ≤ x) (h1 : x < t) : (mem [(s % t, s % t + m)] x || mem [(s % t, s % t + m)] (x + t)) = arc t s n x := by
  have m0 : 0 ≤ s % t := Int.emod_nonneg _ (by omega)
  have m1 : s % t < t := Int.emod_lt_of_pos _ (by omega)
  rw [mem_one, mem_one]
  have := arc_two t (s % t) (s % t + m) x ht m0 (by omega) h0 h1
  simp only at this ⊢
  rw [this, show s % t + m - s % t = m from by omega, arc_mod, hm, arc_min t s n x ht]

theorem one_af (t a b : Int) (h0 : 0 ≤ a) (h1 : a < b) (h2 : b ≤ 2 * t) : af 0 (2 * t) [(a, b)] = true := (af_cons 0 (2 * t) (a, b) []).2 ⟨h0, h1, h2, rfl⟩

theorem make_yes (t : Nat) (s n : Int) (w : World) (ht0 : 1 ≤ t) (ht : t ≤ 7200) (hs0 : -9223372036854775808 ≤ s) (hs1 : s ≤ 9223372036854775807) (hn0 : -9223372036854775808 ≤ n) (hn1 : n ≤ 9223372036854775807) :
    Calls Try.prog 15 #[.int .i64 (t : Int), .int .i64 s, .int .i64 n] w (SetRes w.heap.size t (arc t s n) w) := by
  have H := check0 t w (by omega) (by omega)
  rw [(vp_iff t).2 ⟨by omega, by omega⟩] at H
  have HB := Lib.hid H
  clear H
  by_cases h1 : n < 1
  · go_enter Try.func15, Try.ntmps15
    go_wp2_with fail
    refine HB.out.mono ?_
    rintro e w' ⟨rfl, hb⟩
    go_wp2_with fail
    go_ret2
    exact ⟨none, 0, 0, rfl, [], Own.nil _ _, rfl, fun x h0 h1' => by rw [arc_none _ _ _ _ (by omega) h1]; rfl, hb⟩
  · have m0 : 0 ≤ s % (t : Int) := Int.emod_nonneg _ (by omega)
    have m1 : s % (t : Int) < t := Int.emod_lt_of_pos _ (by omega)
    by_cases h2 : n ≤ t
    · go_enter Try.func15, Try.ntmps15
      go_wp2_with fail
      refine HB.out.mono ?_
      rintro e w1 ⟨rfl, hb⟩
      go_wp2_with fail
      refine (mod_any s t _ hs0 hs1 (by omega) (by omega)).mono ?_
      rintro e w2 ⟨rfl, rfl⟩
      go_wp2_with fail
      have hz := hb.size
      refine (fold_any t (some ⟨w1.heap.size, 0, none⟩) 1 1 [(s % (t : Int), s % (t : Int) + n)] _ ht0 ht ((one_span w1 _ _ 29).more (by simp)) (by omega) (one_af t _ _ m0 (by omega) (by omega))).mono ?_
      rintro e w5 ⟨A5, n5, c5, rfl, h5⟩
      have h6 := isSet_after (hb.alloc hz _) (by simp; omega) (isSet_congr h5 (fun x h0 h1' => make_set t s n n x (by omega) (by omega) (by omega) h0 h1'))
      clear h5
      go_wp2_with fail
      go_ret2
      exact ⟨A5, n5, c5, rfl, h6⟩
    · go_enter Try.func15, Try.ntmps15
      go_wp2_with fail
      refine HB.out.mono ?_
      rintro e w1 ⟨rfl, hb⟩
      go_wp2_with fail
      refine (mod_any s t _ hs0 hs1 (by omega) (by omega)).mono ?_
      rintro e w2 ⟨rfl, rfl⟩
      go_wp2_with fail
      have hz := hb.size
      refine (fold_any t (some ⟨w1.heap.size, 0, none⟩) 1 1 [(s % (t : Int), s % (t : Int) + t)] _ ht0 ht ((one_span w1 _ _ 29).more (by simp)) (by omega) (one_af t _ _ m0 (by omega) (by omega))).mono ?_
      rintro e w5 ⟨A5, n5, c5, rfl, h5⟩
      have h6 := isSet_after (hb.alloc hz _) (by simp; omega) (isSet_congr h5 (fun x h0 h1' => make_set t s n t x (by omega) (by omega) (by omega) h0 h1'))
      clear h5
      go_wp2_with fail
      go_ret2
      exact ⟨A5, n5, c5, rfl, h6⟩

theorem union_no (t : Int) (A : Option Addr) (n c : Nat) (L : List Sp) (A2 : Option Addr) (n2 c2 : Nat) (M : List Sp) (w : World) (ht0 : -9223372036854775808 ≤ t) (ht : t ≤ 9223372036854775807)
    (hS : Spans w w.heap.size A n L) (hn : n ≤ 9223372036854775807) (hS2 : Spans w w.heap.size A2 n2 M) (hn2 : n2 ≤ 9223372036854775807) (h : er t [L, M] ≠ 0) :
    Calls Try.prog 28 #[.int .i64 t, .slice A n c, .slice A2 n2 c2] w (ErrRes w.heap.size (er t [L, M]) w) := by
  have hne : (er t [L, M] != 0) = true := by rw [bne_iff_ne]; exact h
  have hr := er_range t [L, M]
  have H := Lib.hid (fun T => check2 t A n c L A2 n2 c2 M T w ht0 ht hS hn hS2 hn2)
  clear h hS hS2
  generalize er t [L, M] = x at *
  go_enter Try.func28, Try.ntmps28
  go_wp2_with fail
  refine (H.out _).mono ?_
  rintro e w' ⟨rfl, hb⟩
  go_wp2_with fail
  go_ret2
  exact ⟨rfl, hb⟩

theorem union_yes (t : Nat) (A : Option Addr) (n c : Nat) (L : List Sp) (A2 : Option Addr) (n2 c2 : Nat) (M : List Sp) (w : World) (ht0 : 1 ≤ t) (ht : t ≤ 7200)
    (hS : Spans w w.heap.size A n L) (hn : n ≤ c) (hc : c ≤ 9223372036854775807) (hS2 : Spans w w.heap.size A2 n2 M) (hn2 : n2 ≤ c2) (hc2 : c2 ≤ 9223372036854775807) (h1 : vl t L = true) (h2 : vl t M = true) :
    Calls Try.prog 28 #[.int .i64 (t : Int), .slice A n c, .slice A2 n2 c2] w (SetRes w.heap.size t (fun x => mem L x || mem M x) w) := by
  have v1 : vf 0 t L = true := by simp only [vl, Bool.and_eq_true] at h1; exact h1.2
  have v2 : vf 0 t M = true := by simp only [vl, Bool.and_eq_true] at h2; exact h2.2
  have l1 := vf_len L 0 t v1 (by omega)
  have l2 := vf_len M 0 t v2 (by omega)
  rw [hS.1] at l1
  rw [hS2.1] at l2
  have he : er t [L, M] = 0 := (er_two t L M).2 ⟨h1, h2⟩
  have HB : Hid (∀ T : TypeId, Calls Try.prog 42 #[.int .i64 (t : Int), .slice (some ⟨w.heap.size, 0, none⟩) 2 2] (w.alloc (.cells #[.slice A n c, .slice A2 n2 c2] T)) fun e w' => e = .returned (.int .i64 0) ∧ Below w.heap.size w w') := fun T => by
    have H := check2 t A n c L A2 n2 c2 M T w (by omega) (by omega) hS (by omega) hS2 (by omega)
    rwa [he] at H
  have HS := Lib.hid hS
  have HS2 := Lib.hid hS2
  have V1 := Lib.hid v1
  have V2 := Lib.hid v2
  clear h1 h2 hS hS2 he v1 v2
  go_enter Try.func28, Try.ntmps28
  go_wp2_with fail
  refine (HB.out _).mono ?_
  rintro e w1 ⟨rfl, hb⟩
  clear HB
  have hz := hb.size
  go_wp2_with fail
  refine (unite_any t A n c L A2 n2 c2 M _ (by omega) ((HS.out.below hb).more hz) (by omega) hn hc ((HS2.out.below hb).more hz) (by omega) hn2 hc2 (af_of_vf L 0 0 t (by omega) V1.out) (af_of_vf M 0 0 t (by omega) V2.out)).mono ?_
  rintro e w5 ⟨A5, n5, c5, rfl, U, u1, u2, u3, u4⟩
  go_wp2_with fail
  go_ret2
  exact ⟨A5, n5, c5, rfl, U, u1.base_ hz, u2, fun x _ _ => u3 x, hb.trans (u4.mono hz)⟩

theorem shift_no (t : Int) (A : Option Addr) (n c : Nat) (L : List Sp) (d : Int) (w : World) (ht0 : -9223372036854775808 ≤ t) (ht : t ≤ 9223372036854775807)
    (hS : Spans w w.heap.size A n L) (hn : n ≤ 9223372036854775807) (h : er t [L] ≠ 0) :
    Calls Try.prog 17 #[.int .i64 t, .slice A n c, .int .i64 d] w (ErrRes w.heap.size (er t [L]) w) := by
  have hne : (er t [L] != 0) = true := by rw [bne_iff_ne]; exact h
  have hr := er_range t [L]
  have H := Lib.hid (fun T => check1 t A n c L T w ht0 ht hS hn)
  clear h hS
  generalize er t [L] = x at *
  go_enter Try.func17, Try.ntmps17
  go_wp2_with fail
  refine (H.out _).mono ?_
  rintro e w' ⟨rfl, hb⟩
  go_wp2_with fail
  go_ret2
  exact ⟨rfl, hb⟩

theorem shift_yes (t : Nat) (A : Option Addr) (n c : Nat) (L : List Sp) (d : Int) (w : World) (ht0 : 1 ≤ t) (ht : t ≤ 7200) (hd0 : -9223372036854775808 ≤ d) (hd1 : d ≤ 9223372036854775807)
    (hS : Spans w w.heap.size A n L) (hn : n ≤ c) (hc : c ≤ 9223372036854775807) (h1 : vl t L = true) :
    Calls Try.prog 17 #[.int .i64 (t : Int), .slice A n c, .int .i64 d] w (SetRes w.heap.size t (turned t d (mem L)) w) := by
  have v1 : vf 0 t L = true := by simp only [vl, Bool.and_eq_true] at h1; exact h1.2
  have l1 := vf_len L 0 t v1 (by omega)
  rw [hS.1] at l1
  have he : er t [L] = 0 := (er_one t L).2 h1
  have HB : Hid (∀ T : TypeId, Calls Try.prog 42 #[.int .i64 (t : Int), .slice (some ⟨w.heap.size, 0, none⟩) 1 1] (w.alloc (.cells #[.slice A n c] T)) fun e w' => e = .returned (.int .i64 0) ∧ Below w.heap.size w w') := fun T => by
    have H := check1 t A n c L T w (by omega) (by omega) hS (by omega)
    rwa [he] at H
  have HS := Lib.hid hS
  have V1 := Lib.hid v1
  have m0 : 0 ≤ d % (t : Int) := Int.emod_nonneg _ (by omega)
  have m1 : d % (t : Int) < t := Int.emod_lt_of_pos _ (by omega)
  clear h1 hS he v1
  go_enter Try.func17, Try.ntmps17
  go_wp2_with fail
  refine (HB.out _).mono ?_
  rintro e w1 ⟨rfl, hb⟩
  clear HB
  have hz := hb.size
  go_wp2_with fail
  refine (mod_any d t _ hd0 hd1 (by omega) (by omega)).mono ?_
  rintro e w2 ⟨rfl, rfl⟩
  have HT : Hid (∀ x, turned t (d % (t : Int)) (mem L) x = turned t d (mem L) x) := fun x => turned_mod t d _ x
  generalize d % (t : Int) = D at *
  go_wp2_with fail
  refine (add_any t A n c L D (D + 1) _ (by omega) ((HS.out.below hb).more hz) (by omega) V1.out ⟨by omega, by omega, by omega⟩).mono ?_
  rintro e w3 ⟨A3, n3, c3, rfl, hO3, hb3⟩
  have hz3 := hb3.size
  have hl3 : n3 ≤ 50000 := by have := hO3.1; have h2 := HS.out.1; simp [addL] at this; omega
  have hS3 := hO3.spans
  clear hO3
  go_wp2_with fail
  refine (fold_any t A3 n3 c3 (addL (D, D + 1) L) w3 ht0 ht hS3 hl3 (addL_af L 0 t (D, D + 1) V1.out (by simp only; omega) (by simp only; omega) 0 (by simp only; omega))).mono ?_
  rintro e w5 ⟨A5, n5, c5, rfl, h5⟩
  have h6 := isSet_after (hb.trans (hb3.mono hz)) (by omega) (isSet_congr (f' := turned t d (mem L)) h5 (fun x h0 h1' => by
    have := turn_two L t D x V1.out (by omega) m0 m1 h0 h1'
    rw [← HT.out x, ← this]
    show (mem (addL' (D, D + 1) L) x || mem (addL' (D, D + 1) L) (x + t)) = _
    rw [addL_one, addL_one]))
  clear h5
  go_wp2_with fail
  go_ret2
  exact ⟨A5, n5, c5, rfl, h6⟩

end Go.Proofs.Ytapflikdoiedeaa.Ops
