/-
  Contracts of the document's own functions: the limit of a cell, the errors of a run.
-/
import Derived.Test.YtglcimahdgnnnaaRSm
namespace Go.Proofs.Ytglcimahdgnnnaa.RLim
open Go.ChangeShapes Go.WideShapes Go.ChangeAt Go.RowKit Dyn Mem Src PSm PChk PLim PPer PSpd PTim RSm
set_option linter.unusedVariables false

set_option maxRecDepth 100000 in
set_option maxHeartbeats 4000000 in
theorem r_limit (A : Option Addr) (n c k : Nat) (L : List Cel) (x : ByteArray) (s : Stk) (w : World) (h : LimArgs w A n c k L s) :
    Calls Try.prog 42 #[.slice A n c, .int .i64 k, stk x s] w (IntPost (lim L s k) w) := by
  obtain ⟨hL, hnc, hcb, hk, h4, hs, hc⟩ := h
  have hS := okStk_iff.1 hs
  have hlen := hL.1
  obtain ⟨len, spd, ac, bk⟩ := s
  simp only [stk] at *
  obtain ⟨a, ha⟩ : ∃ a : Nat, a = k - len.toNat := ⟨_, rfl⟩
  obtain ⟨m, hm⟩ : ∃ m : Nat, m = k + 1 - a := ⟨_, rfl⟩
  have E : Hid (lim L ⟨len, spd, ac, bk⟩ k = upto L spd a m) := by rw [Hid, lim, hm, ha]
  have HB : Hid (∀ j, j ≤ m → 1000 ≤ upto L spd a j ∧ upto L spd a j ≤ 100000) := fun j hj => upto_bounds (by omega) hc j (by omega)
  have HE := Lib.hid (fun n c h => upto_succ L spd a n c h)
  have HL := Lib.hid hL
  have hak : a + m = k + 1 := by omega
  have hb0 : Below w.heap.size w (w.alloc (.cells #[.string x, .int .i64 len, .int .i64 spd, .int .i64 ac, .int .i64 bk] 23)) := (Below.refl _ _).alloc (Nat.le_refl _) _
  clear hL hc hs
  by_cases hle : (k : Int) ≤ len
  · obtain rfl : a = 0 := by omega
    clear ha hm
    go_enter Try.func42, Try.ntmps42
    go_wp2
    all_goals
      go_loopw [7, 8] (fun v i wr => ∃ j : Nat, j ≤ m ∧ v = .int .i64 (upto L spd 0 j) ∧ i = .int .i64 j ∧ Below w.heap.size w wr) (fun _ i _ => m - (intOf i).toNat)
      case atStart => exact ⟨0, Nat.zero_le _, rfl, rfl, hb0⟩
      case round =>
        obtain ⟨j, hj, rfl, rfl, hbw⟩ := hrel
        by_cases hlt : j < m
        · obtain ⟨ad, z, rfl, hab, hz0, c0, c1⟩ := loadCel (HL.out.below hbw) (show j < n by omega)
          have HZ : Hid (upto L spd 0 (j + 1) = min (upto L spd 0 j) z.lim) := HE.out j z (by rw [Nat.zero_add]; exact hz0)
          have hbd := HB.out j hj
          have hjk : (j : Int) ≤ (k : Int) := by omega
          have hjn : j < n := by omega
          clear hz0
          generalize upto L spd 0 j = u at *
          go_wp2
          all_goals go_roundw
          case rel => exact ⟨j + 1, by omega, by rw [HZ.out]; congr 1; omega, by go_num, hbw⟩
          all_goals (first | (case measure => simp [intOf]; omega) | skip)
        · obtain rfl : j = m := by omega
          have hjk : ¬ (j : Int) ≤ (k : Int) := by omega
          go_wp2
          all_goals go_ret
          all_goals exact ⟨ret1 E.out.symm, hbw⟩
  · have e : (k : Int) - len = (a : Int) := by omega
    clear ha hm
    go_enter Try.func42, Try.ntmps42
    go_wp2
    all_goals
      go_loopw [7, 8] (fun v i wr => ∃ j : Nat, j ≤ m ∧ v = .int .i64 (upto L spd a j) ∧ i = .int .i64 ((a + j : Nat) : Int) ∧ Below w.heap.size w wr) (fun _ i _ => a + m - (intOf i).toNat)
      case atStart => exact ⟨0, Nat.zero_le _, rfl, rfl, hb0⟩
      case round =>
        obtain ⟨j, hj, rfl, rfl, hbw⟩ := hrel
        by_cases hlt : j < m
        · obtain ⟨ad, z, rfl, hab, hz0, c0, c1⟩ := loadCel (HL.out.below hbw) (show a + j < n by omega)
          have HZ : Hid (upto L spd a (j + 1) = min (upto L spd a j) z.lim) := HE.out j z hz0
          have hbd := HB.out j hj
          obtain ⟨i, hi⟩ : ∃ i, a + j = i := ⟨_, rfl⟩
          rw [hi] at c0 c1 ⊢
          have HI := Lib.hid hi
          have hjk : (i : Int) ≤ (k : Int) := by omega
          have hjn : i < n := by omega
          clear hz0 hi
          generalize upto L spd a j = u at *
          go_wp2
          all_goals go_roundw
          case rel => exact ⟨j + 1, by omega, by rw [HZ.out]; congr 1; omega, by have := HI.out; congr 1; omega, hbw⟩
          all_goals (first | (case measure => have := HI.out; simp [intOf]; omega) | skip)
        · obtain rfl : j = m := by omega
          obtain ⟨i, hi⟩ : ∃ i, a + j = i := ⟨_, rfl⟩
          rw [hi] at ⊢
          have hjk : ¬ (i : Int) ≤ (k : Int) := by omega
          clear hi
          go_wp2
          all_goals go_ret
          all_goals exact ⟨ret1 E.out.symm, hbw⟩

theorem okCel_two {c : Cel} {a b : Bool} (h1 : btw c.lim 1000 100000 = a) (h2 : btw c.gr (-40) 40 = b) : okCel c = (a && b) := by rw [okCel_btw, h1, h2]

set_option maxRecDepth 100000 in
set_option maxHeartbeats 8000000 in
theorem r_bad (A : Option Addr) (n c : Nat) (L : List Cel) (st : Int) (x : ByteArray) (s : Stk) (w : World) (hL : Rd celR w w.heap.size A n L) (hn : n ≤ 9223372036854775807) (hst : -9223372036854775808 ≤ st ∧ st ≤ 9223372036854775807) :
    Calls Try.prog 41 #[.slice A n c, .int .i64 st, stk x s] w (IntPost (err L st s) w) := by
  have hlen := hL.1
  have E := Lib.hid (err_is L st s)
  rw [hlen] at E
  have HL := Lib.hid hL
  have HK := Lib.hid (fun w => r_check x s w)
  have hb0 : Below w.heap.size w (w.alloc (.cells #[.string x, .int .i64 s.len, .int .i64 s.spd, .int .i64 s.acc, .int .i64 s.brk] 23)) := (Below.refl _ _).alloc (Nat.le_refl _) _
  clear hL
  obtain ⟨len, spd, ac, bk⟩ := s
  simp only [stk] at *
  have HB0 := Lib.hid hb0
  clear hb0
  cases h1 : okStk ⟨len, spd, ac, bk⟩ with
  | false =>
    have E1 : Hid (err L st ⟨len, spd, ac, bk⟩ = 1) := by rw [Hid, E.out, h1]; rfl
    clear E
    go_enter Try.func41, Try.ntmps41
    go_wp2_with (go_at_call 31; refine (HK.out _).mono ?_; rw [h1]; rintro e w' ⟨rfl, hb2⟩)
    all_goals go_ret
    all_goals refine ⟨ret1 E1.out.symm, ?_⟩
    all_goals exact HB0.out.trans (hb2.mono HB0.out.size)
  | true =>
    by_cases h2 : 4000 < n
    · have E1 : Hid (err L st ⟨len, spd, ac, bk⟩ = 7) := by rw [Hid, E.out, h1, if_pos rfl, if_pos (by omega)]
      clear E
      go_enter Try.func41, Try.ntmps41
      go_wp2_with (go_at_call 31; refine (HK.out _).mono ?_; rw [h1]; rintro e w' ⟨rfl, hb2⟩)
      all_goals go_ret
      all_goals refine ⟨ret1 E1.out.symm, ?_⟩
      all_goals exact HB0.out.trans (hb2.mono HB0.out.size)
    · have E2 : Hid (L.all okCel = false → err L st ⟨len, spd, ac, bk⟩ = 4) := fun h => by rw [E.out, h1, if_pos rfl, if_neg (by omega), h, if_neg (by decide)]
      have E3 : Hid (L.all okCel = true → err L st ⟨len, spd, ac, bk⟩ = if btw st 0 ((n : Int) - 2) = true then 0 else 4) := fun h => by rw [E.out, h1, if_pos rfl, if_neg (by omega), h, if_pos rfl]
      clear E
      go_enter Try.func41, Try.ntmps41
      go_upto_region 6 with (go_at_call 31; refine (HK.out _).mono ?_; rw [h1]; rintro e w2 ⟨rfl, hb2⟩; have HB2 := Lib.hid (HB0.out.trans (hb2.mono HB0.out.size)); clear hb2)
      go_loopw [7] (fun i wr => ∃ k : Nat, k ≤ n ∧ i = .int .i64 k ∧ Hid ((L.take k).all okCel = true) ∧ Hid (Below w.heap.size w wr)) (fun i _ => n - (intOf i).toNat)
      case atStart => exact ⟨0, Nat.zero_le _, rfl, by simp [Hid], HB2⟩
      case round =>
        obtain ⟨k, hk, rfl, hA, hbw⟩ := hrel
        by_cases hlt : k < n
        · obtain ⟨ad, z, rfl, hab, hx, c0, c1⟩ := loadCel (HL.out.below hbw.out) hlt
          have HX := Lib.hid hx
          clear hx
          cases g1 : btw z.lim 1000 100000 with
          | false =>
            have E4 := Lib.hid (E2.out (all_false_of HX.out (okCel_two g1 rfl)))
            go_wp2_with (go_at_call 47; (with_reducible refine (r_in _ _ _ _).mono ?_); rw [g1]; rintro e w' ⟨rfl, rfl⟩)
            all_goals go_ret
            all_goals exact ⟨ret1 E4.out.symm, hbw.out⟩
          | true =>
            cases g2 : btw z.gr (-40) 40 with
            | false =>
              have E4 := Lib.hid (E2.out (all_false_of HX.out (okCel_two g1 g2)))
              go_wp2_with (go_at_call 47; (with_reducible refine (r_in _ _ _ _).mono ?_); (first | rw [g1] | rw [g2]); rintro e w' ⟨rfl, rfl⟩)
              all_goals go_ret
              all_goals exact ⟨ret1 E4.out.symm, hbw.out⟩
            | true =>
              have HN : Hid ((L.take (k + 1)).all okCel = true) := by rw [Hid, all_take_succ HX.out, okCel_two g1 g2, hA.out]; rfl
              go_wp2_with (go_at_call 47; (with_reducible refine (r_in _ _ _ _).mono ?_); (first | rw [g1] | rw [g2]); rintro e w' ⟨rfl, rfl⟩)
              go_roundw
              case rel => exact ⟨k + 1, by omega, by go_num, HN, hbw⟩
              case measure => simp [intOf]; omega
        · have hA2 : L.all okCel = true := by
            have := hA.out
            rwa [List.take_of_length_le (by omega)] at this
          have E4 := Lib.hid (E3.out hA2)
          clear hA2
          by_cases g0 : st < 0
          · have E5 : Hid (err L st ⟨len, spd, ac, bk⟩ = 4) := by rw [Hid, E4.out, if_neg]; simp [btw]; omega
            go_wp2
            all_goals go_ret
            all_goals exact ⟨ret1 E5.out.symm, hbw.out⟩
          · by_cases g1 : (n : Int) - 2 < st
            · have E5 : Hid (err L st ⟨len, spd, ac, bk⟩ = 4) := by rw [Hid, E4.out, if_neg]; simp [btw]; omega
              go_wp2
              all_goals go_ret
              all_goals exact ⟨ret1 E5.out.symm, hbw.out⟩
            · have E5 : Hid (err L st ⟨len, spd, ac, bk⟩ = 0) := by rw [Hid, E4.out, if_pos]; simp [btw]; omega
              go_wp2
              all_goals go_ret
              all_goals exact ⟨ret1 E5.out.symm, hbw.out⟩
end Go.Proofs.Ytglcimahdgnnnaa.RLim
