/-
  Contracts of the program's small functions on the words of a line: their texts, ends, positions; a name's number declared.
-/
import Derived.Test.YtdcbaedhgoipjaaRecs
import Derived.Test.YtdcbaedhgoipjaaKeep
import Derived.Test.YtdcbaedhgoipjaaRNames
import Derived.Test.YtdcbaedhgoipjaaBnd
import Derived.Test.YtdcbaedhgoipjaaBldr
namespace Go.Proofs.Ytdcbaedhgoipjaa.Txt
open Go.ChangeShapes Go.WideShapes Go.ChangeAt Go.RowKit Wd Small Mem Lay LayT Recs Keep Names PNames PSecs PEnds RNames
set_option linter.unusedVariables false

set_option maxRecDepth 100000 in
set_option maxHeartbeats 1000000 in
theorem texts_of (A : Option Addr) (n c : Nat) (L : List Lin.W) (w : World) (hL : Words w w.heap.size A n L) (hn : n ≤ 100000) : Calls Try.prog 26 #[.slice A n c] w (StrsPost (texts L) w) := by
  obtain ⟨ih, hih, hz0, hz1, hz2⟩ := info_parts infoS
  have E : Hid ((texts L).take 0 = []) := rfl
  go_enter Try.func26, Try.ntmps26
  go_wp2_with fail
  go_loopw [3, 8] (fun t i wr => ∃ (k c : Nat) (A : Option Addr), k ≤ n ∧ i = .int .i64 k ∧ t = .slice A k c ∧ Recs.Own sR wr w.heap.size (.slice A k c) k ((texts L).take k) ∧ Below w.heap.size w wr) (fun _ i _ => n - (intOf i).toNat)
  case atStart => exact ⟨0, 0, none, Nat.zero_le _, rfl, rfl, by rw [E.out]; exact Recs.Own.nil _ _, Below.refl _ _⟩
  case round =>
    obtain ⟨k, c', A', hk, rfl, rfl, hO, hbw⟩ := hrel
    clear E
    have hzW := hbw.size
    by_cases hlt : k < n
    · obtain ⟨ad, s, rfl, hab, hs, d0, d1, d2⟩ := (hL.below hbw).load hlt
      have HT := Lib.hid (take_succ (L := texts L) (k := k) (s := s.1) (by simp [texts, hs]))
      obtain ⟨wa, hwa⟩ : ∃ wa, wr.alloc (.cells #[.string (str s.1), .int .i64 s.2.1, .int .i64 s.2.2] 65) = wa := ⟨_, rfl⟩
      have hba : Below wr.heap.size wr wa := by rw [← hwa]; exact (Below.refl _ _).alloc (Nat.le_refl _) _
      have hza : wr.heap.size < wa.heap.size := by rw [← hwa]; simp
      have e0 : wa.cell? ⟨wr.heap.size, 0, none⟩ = some (.string (str s.1)) := by rw [← hwa]; simp
      have hkn : (k : Int) < (n : Int) := by omega
      have hn63 : k + 1 ≤ maxLen := by unfold maxLen; omega
      have hby : (k + 1) * 16 ≤ 140737488355328 := by omega
      have HO := Lib.hid (hO.below hba (Nat.le_refl _))
      have HBW := Lib.hid (hbw.trans (hba.mono hzW))
      have hbs : w.heap.size ≤ wa.heap.size := by omega
      clear hL hO hs hba
      go_upto_region 5 with fail
      clear hwa d0 d1 d2
      go_wp2_with (at_builtin; refine wpList_append_own _ rfl _ _ 22 rfl w.heap.size 9 ih _ 1 16 Try.underlying22 hih hz0 hz1 hz2 rfl (by omega) (.slice A' k c') k (sR.cs ((texts L).take k)) rfl (HO.out.2.alloc _) ⟨wa.heap.size, 0, none⟩ 1 1 [.string (str s.1)] rfl rfl (cell_one_new _ _ _) (one_cell _ rfl) hn63 hby (by simp; omega) ?_)
      intro v w1 hown hgrow _
      obtain ⟨A2, c2, hv, hO', hb'⟩ := appended (R := sR) (a := s.1) HBW.out hbs HO.out.1 HO.out.2 hown hgrow
      rw [← HT.out] at hO'
      have HO2 := Lib.hid hO'
      rw [hv]
      clear hown hgrow hv hO' HO e0
      go_wp2_with fail
      go_roundw
      case rel => exact ⟨k + 1, c2, A2, by omega, by go_num, rfl, HO2.out, hb'⟩
      case measure => simp [intOf]; omega
    · have HX : Hid ((texts L).take k = texts L) := List.take_of_length_le (by have := hL.1; simp [texts]; omega)
      rw [HX.out] at hO
      go_wp2_with fail
      go_ret
      exact ⟨A', k, c', rfl, hO, hbw⟩

/-- what a call leaves that answers a number and whether there is one, and leaves the world alone -/
def Two (x : Int) (b : Bool) (w : World) (e : Ending) (w' : World) : Prop := e = .returned (.tuple #[.int .i64 x, .bool b]) ∧ w = w'
theorem ret_two {x y : Int} {b c : Bool} (h1 : x = y) (h2 : b = c) : Ending.returned (.tuple #[.int .i64 y, .bool c]) = .returned (.tuple #[.int .i64 x, .bool b]) := by rw [h1, h2]
def endV (s : Bs) : Int := if s = [65] then 0 else if s = [66] then 1 else 0
def endB (s : Bs) : Bool := decide (s = [65]) || decide (s = [66])
theorem str_eq1 (s : Bs) (b : UInt8) : ((str s).toList == [b]) = decide (s = [b]) := by
  rw [Bool.eq_iff_iff]
  simp only [beq_iff_eq, decide_eq_true_eq]
  rw [show (str s).toList = s from by rw [Lib.toList_data]; exact str_toList s]
theorem end_of (s : Bs) (w : World) : Calls Try.prog 74 #[.string (str s)] w (Two (endV s) (endB s) w) := by
  have E1 := Lib.hid (str_eq1 s 65)
  have E2 := Lib.hid (str_eq1 s 66)
  cases h1 : ((str s).toList == [65]) with
  | true =>
    have HX : Hid (endV s = 0 ∧ endB s = true) := by
      rw [E1.out] at h1
      have h := of_decide_eq_true h1
      subst h
      exact ⟨rfl, rfl⟩
    clear E1 E2
    go_enter Try.func74, Try.ntmps74
    go_wp2
    go_ret2
    exact ⟨ret_two HX.out.1 HX.out.2, rfl⟩
  | false =>
    cases h2 : ((str s).toList == [66]) with
    | true =>
      have HX : Hid (endV s = 1 ∧ endB s = true) := by
        rw [E2.out] at h2
        have h := of_decide_eq_true h2
        subst h
        exact ⟨rfl, rfl⟩
      clear E1 E2
      go_enter Try.func74, Try.ntmps74
      go_wp2
      go_ret2
      exact ⟨ret_two HX.out.1 HX.out.2, rfl⟩
    | false =>
      have HX : Hid (endV s = 0 ∧ endB s = false) := by
        rw [E1.out] at h1
        rw [E2.out] at h2
        have h := of_decide_eq_false h1
        have h' := of_decide_eq_false h2
        unfold endV endB
        rw [if_neg h, if_neg h', decide_eq_false h, decide_eq_false h']
        exact ⟨rfl, rfl⟩
      clear E1 E2
      go_enter Try.func74, Try.ntmps74
      go_wp2
      go_ret2
      exact ⟨ret_two HX.out.1 HX.out.2, rfl⟩
def posV (s : Bs) : Int := if s = [49] then 1 else 0
def posB (s : Bs) : Bool := s == [48] || s == [49]
theorem position_of (s : Bs) (w : World) : Calls Try.prog 75 #[.string (str s)] w (Two (posV s) (posB s) w) := by
  have E1 := Lib.hid (str_eq1 s 48)
  have E2 := Lib.hid (str_eq1 s 49)
  cases h1 : ((str s).toList == [48]) with
  | true =>
    have HX : Hid (posV s = 0 ∧ posB s = true) := by
      rw [E1.out] at h1
      have h := of_decide_eq_true h1
      subst h
      exact ⟨rfl, rfl⟩
    clear E1 E2
    go_enter Try.func75, Try.ntmps75
    go_wp2
    go_ret2
    exact ⟨ret_two HX.out.1 HX.out.2, rfl⟩
  | false =>
    cases h2 : ((str s).toList == [49]) with
    | true =>
      have HX : Hid (posV s = 1 ∧ posB s = true) := by
        rw [E2.out] at h2
        have h := of_decide_eq_true h2
        subst h
        exact ⟨rfl, rfl⟩
      clear E1 E2
      go_enter Try.func75, Try.ntmps75
      go_wp2
      go_ret2
      exact ⟨ret_two HX.out.1 HX.out.2, rfl⟩
    | false =>
      have HX : Hid (posV s = 0 ∧ posB s = false) := by
        rw [E1.out] at h1
        rw [E2.out] at h2
        have h := of_decide_eq_false h1
        have h' := of_decide_eq_false h2
        unfold posV posB
        rw [if_neg h']
        exact ⟨rfl, by simp [h, h']⟩
      clear E1 E2
      go_enter Try.func75, Try.ntmps75
      go_wp2
      go_ret2
      exact ⟨ret_two HX.out.1 HX.out.2, rfl⟩

/-- what a call leaves that gives a name its number -/
def NumPost (b n : Nat) (L : List Bs) (s : Bs) (w : World) (e : Ending) (w' : World) : Prop := e = .returned (.tuple #[]) ∧ Nums w' b (n + 1) (L ++ [s]) ∧ w.grownBy w' (some b)
set_option maxRecDepth 100000 in
set_option maxHeartbeats 1000000 in
theorem declare_any (b n : Nat) (L : List Bs) (s : Bs) (w : World) (h : Nums w b n L) (hs : s.length ≤ 9223372036854775807) (hn : n < 9223372036854775807) (hL : L.length ≤ 9223372036854775807) :
    Calls Try.prog 72 #[.map (some b), .string (str s), .int .i64 (L.length : Nat)] w (NumPost b n L s w) := by
  have hl := h.look hs
  have H := Lib.hid h
  cases hp : decide (0 ≤ place 0 L s) with
  | true =>
    have HA := Lib.hid ((h.again (of_decide_eq_true hp)).mono (Nat.le_succ n))
    rw [hp] at hl
    clear h hp
    go_enter Try.func72, Try.ntmps72
    go_wp2_with fail
    go_end0
    exact ⟨rfl, HA.out, World.grownBy.refl w _⟩
  | false =>
    have hneg : place 0 L s < 0 := by have := of_decide_eq_false hp; omega
    have HN := Lib.hid hneg
    rw [hp] at hl
    clear h hp hneg
    go_enter Try.func72, Try.ntmps72
    go_wp2_with (at_mapUpdate; refine wpList_num _ rfl _ _ _ rfl b n L s _ rfl H.out hs hn HN.out rfl hL rfl rfl ?_; intro w1 hS hg)
    go_end0
    exact ⟨rfl, hS, hg⟩
end Go.Proofs.Ytdcbaedhgoipjaa.Txt
