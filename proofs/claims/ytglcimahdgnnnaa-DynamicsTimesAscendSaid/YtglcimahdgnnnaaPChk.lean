/-
  Contracts of the program: the check of a run, the limit of a cell.
-/
import Derived.Test.YtglcimahdgnnnaaPSm
namespace Go.Proofs.Ytglcimahdgnnnaa.PChk
open Go.ChangeShapes Go.WideShapes Go.ChangeAt Go.RowKit Dyn Mem Src PSm
set_option linter.unusedVariables false

theorem all_take_succ {L : List Cel} {k : Nat} {c : Cel} (h : L[k]? = some c) : (L.take (k + 1)).all okCel = ((L.take k).all okCel && okCel c) := by
  have hk : k < L.length := (List.getElem?_eq_some_iff.1 h).1
  have e : L[k] = c := (List.getElem?_eq_some_iff.1 h).2
  rw [List.take_succ_eq_append_getElem hk, List.all_append, e]; simp
theorem all_false_of {L : List Cel} {k : Nat} {c : Cel} (h : L[k]? = some c) (hc : okCel c = false) : L.all okCel = false := by
  rw [List.all_eq_false]
  exact ⟨c, List.mem_of_getElem? h, by simp [hc]⟩

set_option maxRecDepth 100000 in
set_option maxHeartbeats 1000000 in
theorem p_index (A : Option Addr) (n c : Nat) (L : List Cel) (w : World) (hL : Rd celR w w.heap.size A n L) (hn : n ≤ 9223372036854775807) :
    Calls Try.prog 48 #[.slice A n c, .func (.func 35) #[] #[]] w fun e w' => (∃ i : Int, e = .returned (.int .i64 i) ∧ -1 ≤ i ∧ ((0 ≤ i) ↔ L.all okCel = false)) ∧ Below w.heap.size w w' := by
  have hlen := hL.1
  go_enter Try.func48, Try.ntmps48
  go_wp2
  go_loopw [8] (fun i wr => ∃ k : Nat, k ≤ n ∧ i = .int .i64 k ∧ Hid ((L.take k).all okCel = true) ∧ Below w.heap.size w wr) (fun i _ => n - (intOf i).toNat)
  case atStart => exact ⟨0, Nat.zero_le _, rfl, by simp [Hid], Below.refl _ _⟩
  case round =>
    obtain ⟨k, hk, rfl, hA, hbw⟩ := hrel
    have hz := hbw.size
    by_cases hlt : k < n
    · obtain ⟨ad, x, rfl, hab, hx, c0, c1⟩ := loadCel (hL.below hbw) hlt
      have HX := Lib.hid hx
      have HL := Lib.hid hL
      clear hx hL
      cases hok : okCel x with
      | true =>
        have HN : Hid ((L.take (k + 1)).all okCel = true) := by rw [Hid, all_take_succ HX.out, hok, hA.out]; rfl
        go_wp2_with (go_at_call 35; refine (p_out x _).mono ?_; rw [hok]; rintro e w' ⟨rfl, hb2⟩)
        go_roundw
        case rel => exact ⟨k + 1, by omega, by go_num, HN, hbw.trans (hb2.mono hz)⟩
        case measure => simp [intOf]; omega
      | false =>
        have HN : Hid (L.all okCel = false) := all_false_of HX.out hok
        go_wp2_with (go_at_call 35; refine (p_out x _).mono ?_; rw [hok]; rintro e w' ⟨rfl, hb2⟩)
        all_goals go_ret
        all_goals exact ⟨⟨_, rfl, by omega, by simp [HN.out]⟩, hbw.trans (hb2.mono hz)⟩
    · have HN : Hid (L.all okCel = true) := by
        have := hA.out
        rwa [List.take_of_length_le (by omega)] at this
      clear hL
      go_wp2
      all_goals go_ret
      all_goals exact ⟨⟨_, rfl, by omega, by simp [HN.out]⟩, hbw⟩

set_option maxRecDepth 100000 in
theorem p_contains (A : Option Addr) (n c : Nat) (L : List Cel) (w : World) (hL : Rd celR w w.heap.size A n L) (hn : n ≤ 9223372036854775807) :
    Calls Try.prog 34 #[.slice A n c, .func (.func 35) #[] #[]] w (BoolPost (!L.all okCel) w) := by
  have H := Lib.hid (p_index A n c L w hL hn)
  clear hL
  go_enter Try.func34, Try.ntmps34
  go_wp2_with (go_at_call 48; refine (H.out).mono ?_; rintro e w' ⟨⟨i, rfl, hi, hx⟩, hb2⟩; have HX := Lib.hid hx; clear hx)
  all_goals go_ret
  all_goals refine ⟨retb ?_, hb2⟩
  all_goals cases hq : L.all okCel
  all_goals have hx := HX.out
  all_goals simp [hq] at hx ⊢
  all_goals omega

/-- the first error of a run, as the walk of the program meets it -/
theorem err_is (L : List Cel) (st : Int) (s : Stk) : err L st s = if okStk s = true then (if (4000 : Int) < L.length then 7 else if L.all okCel = true then (if btw st 0 (L.length - 2) = true then 0 else 4) else 4) else 1 := by
  unfold err btw
  cases okStk s <;> cases L.all okCel <;> simp
  all_goals split <;> split <;> omega

set_option maxRecDepth 100000 in
set_option maxHeartbeats 4000000 in
theorem p_checkRun (A : Option Addr) (n c : Nat) (L : List Cel) (st : Int) (x : ByteArray) (s : Stk) (w : World) (hL : Rd celR w w.heap.size A n L) (hn : n ≤ 9223372036854775807) (hst : -9223372036854775808 ≤ st ∧ st ≤ 9223372036854775807) :
    Calls Try.prog 23 #[.slice A n c, .int .i64 st, stk x s] w (IntPost (err L st s) w) := by
  have hlen := hL.1
  have E := Lib.hid (err_is L st s)
  rw [hlen] at E
  have HL := Lib.hid hL
  have HC : Hid (∀ w' : World, Below w.heap.size w w' → Calls Try.prog 34 #[.slice A n c, .func (.func 35) #[] #[]] w' (BoolPost (!L.all okCel) w')) := fun w' hb => p_contains A n c L w' ((hL.below hb).more hb.size) hn
  have HK := Lib.hid (fun w => p_check x s w)
  clear hL
  obtain ⟨len, spd, ac, bk⟩ := s
  simp only [stk] at *
  cases h1 : okStk ⟨len, spd, ac, bk⟩ with
  | false =>
    have E1 : Hid (err L st ⟨len, spd, ac, bk⟩ = 1) := by rw [Hid, E.out, h1]; rfl
    clear E
    go_enter Try.func23, Try.ntmps23
    go_wp2_with (go_at_call 18; refine (HK.out _).mono ?_; rw [h1]; rintro e w' ⟨rfl, hb2⟩)
    all_goals go_ret
    all_goals refine ⟨ret1 E1.out.symm, ?_⟩
    all_goals exact ((Below.refl _ _).alloc (Nat.le_refl _) _).trans (hb2.mono (by simp))
  | true =>
    by_cases h2 : 4000 < n
    · have E1 : Hid (err L st ⟨len, spd, ac, bk⟩ = 7) := by rw [Hid, E.out, h1, if_pos rfl, if_pos (by omega)]
      clear E
      go_enter Try.func23, Try.ntmps23
      go_wp2_with (go_at_call 18; refine (HK.out _).mono ?_; rw [h1]; rintro e w' ⟨rfl, hb2⟩)
      all_goals go_ret
      all_goals refine ⟨ret1 E1.out.symm, ?_⟩
      all_goals exact ((Below.refl _ _).alloc (Nat.le_refl _) _).trans (hb2.mono (by simp))
    · cases h3 : L.all okCel with
      | false =>
        have E1 : Hid (err L st ⟨len, spd, ac, bk⟩ = 4) := by rw [Hid, E.out, h1, if_pos rfl, if_neg (by omega), h3, if_neg (by decide)]
        clear E
        go_enter Try.func23, Try.ntmps23
        go_wp2_with (first
          | (go_at_call 18; refine (HK.out _).mono ?_; rw [h1]; rintro e w1 ⟨rfl, hb1⟩; have hb2 := ((Below.refl w.heap.size w).alloc (Nat.le_refl _) (.cells #[.string x, .int .i64 len, .int .i64 spd, .int .i64 ac, .int .i64 bk] 23)).trans (hb1.mono (by simp)); clear hb1)
          | (go_at_call 34; refine (HC.out _ (by assumption)).mono ?_; rw [h3]; rintro e w2 ⟨rfl, hb3⟩))
        all_goals go_ret
        all_goals refine ⟨ret1 E1.out.symm, ?_⟩
        all_goals exact hb2.trans (hb3.mono hb2.size)
      | true =>
        cases h4 : btw st 0 ((n : Int) - 2) with
        | true =>
          have E1 : Hid (err L st ⟨len, spd, ac, bk⟩ = 0) := by rw [Hid, E.out, h1, if_pos rfl, if_neg (by omega), h3, if_pos rfl, h4, if_pos rfl]
          clear E
          go_enter Try.func23, Try.ntmps23
          go_wp2_with (first
            | (go_at_call 18; refine (HK.out _).mono ?_; rw [h1]; rintro e w1 ⟨rfl, hb1⟩; have hb2 := ((Below.refl w.heap.size w).alloc (Nat.le_refl _) (.cells #[.string x, .int .i64 len, .int .i64 spd, .int .i64 ac, .int .i64 bk] 23)).trans (hb1.mono (by simp)); clear hb1)
            | (go_at_call 34; refine (HC.out _ (by assumption)).mono ?_; rw [h3]; rintro e w2 ⟨rfl, hb3⟩)
            | (go_at_call 27; refine (between _ _ _ _).mono ?_; rw [h4]; rintro e w3 ⟨rfl, rfl⟩))
          all_goals go_ret
          all_goals refine ⟨ret1 E1.out.symm, ?_⟩
          all_goals exact hb2.trans (hb3.mono hb2.size)
        | false =>
          have E1 : Hid (err L st ⟨len, spd, ac, bk⟩ = 4) := by rw [Hid, E.out, h1, if_pos rfl, if_neg (by omega), h3, if_pos rfl, h4, if_neg (by decide)]
          clear E
          go_enter Try.func23, Try.ntmps23
          go_wp2_with (first
            | (go_at_call 18; refine (HK.out _).mono ?_; rw [h1]; rintro e w1 ⟨rfl, hb1⟩; have hb2 := ((Below.refl w.heap.size w).alloc (Nat.le_refl _) (.cells #[.string x, .int .i64 len, .int .i64 spd, .int .i64 ac, .int .i64 bk] 23)).trans (hb1.mono (by simp)); clear hb1)
            | (go_at_call 34; refine (HC.out _ (by assumption)).mono ?_; rw [h3]; rintro e w2 ⟨rfl, hb3⟩)
            | (go_at_call 27; refine (between _ _ _ _).mono ?_; rw [h4]; rintro e w3 ⟨rfl, rfl⟩))
          all_goals go_ret
          all_goals refine ⟨ret1 E1.out.symm, ?_⟩
          all_goals exact hb2.trans (hb3.mono hb2.size)

end Go.Proofs.Ytglcimahdgnnnaa.PChk
