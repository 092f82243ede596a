/-
  Contracts of the two functions that read a range out of a text.
-/
import Derived.Test.YthjdhcldocpfjaaNum
namespace Go.Proofs.Ythjdhcldocpfjaa.Rng
open Go.ChangeShapes Go.WideShapes Go.ChangeAt Go.RowKit Wd Small Mag Num
set_option linter.unusedVariables false

/-- is it a range: a number, two dots, a number, in order -/
def rng (f : Bool) (a b : Bs) : Bool := f && numOK a && numOK b && decide (number a ≤ number b)
def rangeOK (l : Bs) : Bool := rng (Lib.cut l [46, 46]).2.2 (Lib.cut l [46, 46]).1 (Lib.cut l [46, 46]).2.1
def rangeLo (l : Bs) : Int := if rangeOK l then number (Lib.cut l [46, 46]).1 else 0
def rangeHi (l : Bs) : Int := if rangeOK l then number (Lib.cut l [46, 46]).2.1 else 0

theorem ret3 {a b c d : Int} {x y : Bool} (h : a = b) (h2 : c = d) (h3 : x = y) : Ending.returned (.tuple #[.int .i64 a, .int .i64 c, .bool x]) = Ending.returned (.tuple #[.int .i64 b, .int .i64 d, .bool y]) := by rw [h, h2, h3]
theorem range_no {l : Bs} (h : rangeOK l = false) : rangeLo l = 0 ∧ rangeHi l = 0 := by simp [rangeLo, rangeHi, h]
theorem range_yes {l : Bs} (h : rangeOK l = true) : rangeLo l = number (Lib.cut l [46, 46]).1 ∧ rangeHi l = number (Lib.cut l [46, 46]).2.1 := by simp [rangeLo, rangeHi, h]

theorem cut_shape (s : ByteArray) : (⟨(Lib.cut s.data.toList [46, 46]).1.toArray⟩ : ByteArray).size ≤ s.size ∧ (⟨(Lib.cut s.data.toList [46, 46]).2.1.toArray⟩ : ByteArray).size ≤ s.size := by
  have h1 := size_str (Lib.cut s.data.toList [46, 46]).1
  have h2 := size_str (Lib.cut s.data.toList [46, 46]).2.1
  have hs : s.data.toList.length = s.size := bs_length s
  unfold str at h1 h2
  rw [h1, h2]
  unfold Lib.cut
  split
  · simp only [List.length_take, List.length_drop]; omega
  · simp only [List.length_nil]; omega

set_option maxHeartbeats 1000000 in
theorem p_range (s : ByteArray) (m : Int) (w : World) (hs : s.size < 4294967281) (hm : w.cell? ⟨0, 0, none⟩ = some (.int .i64 m)) :
    Calls Try.prog 15 #[.string s] w fun e w' => e = .returned (.tuple #[.int .i64 (rangeLo (bs s)), .int .i64 (rangeHi (bs s)), .bool (rangeOK (bs s))]) ∧ ∃ n, w' = w.drewN n := by
  obtain ⟨z1, z2⟩ := cut_shape s
  obtain ⟨a, ha, a1⟩ : ∃ a : ByteArray, (⟨(Lib.cut s.data.toList [46, 46]).1.toArray⟩ : ByteArray) = a ∧ bs a = (Lib.cut (bs s) [46, 46]).1 := ⟨_, rfl, rfl⟩
  obtain ⟨b, hb, b1⟩ : ∃ a : ByteArray, (⟨(Lib.cut s.data.toList [46, 46]).2.1.toArray⟩ : ByteArray) = a ∧ bs a = (Lib.cut (bs s) [46, 46]).2.1 := ⟨_, rfl, rfl⟩
  obtain ⟨f, hf, f1⟩ : ∃ f : Bool, (Lib.cut s.data.toList [46, 46]).2.2 = f ∧ f = (Lib.cut (bs s) [46, 46]).2.2 := ⟨_, rfl, rfl⟩
  rw [ha] at z1
  rw [hb] at z2
  have HK : Hid (rangeOK (bs s) = rng f (bs a) (bs b)) := by rw [Hid, a1, b1, f1]; rfl
  have HY : Hid (rangeOK (bs s) = true → rangeLo (bs s) = number (bs a) ∧ rangeHi (bs s) = number (bs b)) := by rw [a1, b1]; exact range_yes
  have HN : Hid (rangeOK (bs s) = false → rangeLo (bs s) = 0 ∧ rangeHi (bs s) = 0) := range_no
  clear a1 b1 f1
  have hr1 := num_range (bs a)
  have hr2 := num_range (bs b)
  cases f with
  | false =>
    have HF : Hid (rangeOK (bs s) = false) := HK.out
    go_enter Try.func15, Try.ntmps15
    go_wp2_with (go_at_call 28; refine (Try.strings_Cut _ _ m _ hs hm).mono ?_; rintro e w' ⟨rfl, n, rfl⟩; rw [ha, hb, hf])
    go_ret3
    exact ⟨ret3 (HN.out HF.out).1.symm (HN.out HF.out).2.symm HF.out.symm, n, rfl⟩
  | true =>
    go_enter Try.func15, Try.ntmps15
    go_wp2_with (go_at_call 28; refine (Try.strings_Cut _ _ m _ hs hm).mono ?_; rintro e w' ⟨rfl, n, rfl⟩; rw [ha, hb, hf])
    refine (p_num a _ (by omega)).mono ?_
    rintro e w' ⟨rfl, rfl⟩
    go_wp2_with fail
    refine (p_num b _ (by omega)).mono ?_
    rintro e w' ⟨rfl, rfl⟩
    clear ha hb hf
    cases ka : numOK (bs a) with
    | false =>
      have HF : Hid (rangeOK (bs s) = false) := by rw [Hid, HK.out]; simp [rng, ka]
      go_wp2_with fail
      go_ret3
      exact ⟨ret3 (HN.out HF.out).1.symm (HN.out HF.out).2.symm HF.out.symm, n, rfl⟩
    | true =>
      cases kb : numOK (bs b) with
      | false =>
        have HF : Hid (rangeOK (bs s) = false) := by rw [Hid, HK.out]; simp [rng, kb]
        go_wp2_with fail
        go_ret3
        exact ⟨ret3 (HN.out HF.out).1.symm (HN.out HF.out).2.symm HF.out.symm, n, rfl⟩
      | true =>
        have HQ : Hid (rangeOK (bs s) = decide (number (bs a) ≤ number (bs b))) := by rw [Hid, HK.out]; simp [rng, ka, kb]
        clear ka kb
        by_cases hle : number (bs a) ≤ number (bs b)
        · have HT := Lib.hid (HQ.out.trans (decide_eq_true hle))
          go_wp2_with fail
          go_ret3
          exact ⟨ret3 (HY.out HT.out).1.symm (HY.out HT.out).2.symm HT.out.symm, n, rfl⟩
        · have HF := Lib.hid (HQ.out.trans (decide_eq_false hle))
          go_wp2_with fail
          go_ret3
          exact ⟨ret3 (HN.out HF.out).1.symm (HN.out HF.out).2.symm HF.out.symm, n, rfl⟩

theorem occ_at (s : ByteArray) (k : Nat) (hk : k + 1 < s.size) : Lib.occAt (bs s) [46, 46] k = (((s[k].toNat : Int) == 46) && ((s[k + 1].toNat : Int) == 46)) := by
  have h (x : UInt8) : (46 == x) = ((x.toNat : Int) == 46) := by
    rw [Bool.eq_iff_iff, beq_iff_eq, beq_iff_eq]
    constructor
    · rintro rfl; rfl
    · intro e; exact (UInt8.toNat_inj.1 (by simp; omega)).symm
  rw [Lib.occAt, bs_drop s k (by omega), bs_drop s (k + 1) hk]
  simp only [List.isPrefixOf, h, Bool.and_true]
theorem cut_hit (s : ByteArray) (k : Nat) (hk : k + 1 < s.size) (hno : Lib.NoOcc (bs s) [46, 46] k) (ho : Lib.occAt (bs s) [46, 46] k = true) : Lib.cut (bs s) [46, 46] = (bs (s.extract 0 k), bs (s.extract (k + 2) s.size), true) := by
  have hi : Lib.index (bs s) [46, 46] = k := Lib.index_hit hno (by rw [bs_length]; omega) ho
  rw [bs_extract, bs_extract]
  unfold Lib.cut
  rw [hi, if_pos (by omega)]
  have e : List.take (s.size - (k + 2)) (List.drop (k + 2) (bs s)) = List.drop (k + 2) (bs s) := List.take_of_length_le (by rw [List.length_drop, bs_length]; omega)
  rw [e]
  simp only [Int.toNat_natCast, List.drop_zero, Nat.sub_zero, List.length_cons, List.length_nil]
theorem cut_miss (s : ByteArray) (k : Nat) (hk : ¬ k + 1 < s.size) (hno : Lib.NoOcc (bs s) [46, 46] k) : rangeOK (bs s) = false := by
  have hi : Lib.index (bs s) [46, 46] = -1 := Lib.index_past (by simp) hno (by rw [bs_length]; simp; omega)
  unfold rangeOK Lib.cut
  rw [hi, if_neg (by omega)]
  rfl

set_option maxHeartbeats 1000000 in
theorem r_range (s : ByteArray) (w : World) (hs : s.size ≤ 140737488355328) :
    Calls Try.prog 22 #[.string s] w fun e w' => e = .returned (.tuple #[.int .i64 (rangeLo (bs s)), .int .i64 (rangeHi (bs s)), .bool (rangeOK (bs s))]) ∧ w = w' := by
  go_enter Try.func22, Try.ntmps22
  go_wp2_with fail
  go_loopw [5] (fun i wr => ∃ k : Nat, k ≤ s.size ∧ i = .int .i64 k ∧ Hid (Lib.NoOcc (bs s) [46, 46] k) ∧ w = wr) (fun i _ => s.size - (intOf i).toNat)
  case atStart => exact ⟨0, by omega, rfl, Lib.NoOcc.zero _ _, rfl⟩
  case round =>
    obtain ⟨k, hk, rfl, HO, rfl⟩ := hrel
    by_cases hlt : k + 1 < s.size
    · have hoc := occ_at s k hlt
      cases h0 : ((s[k].toNat : Int) == 46) with
      | false =>
        have HO2 := Lib.hid (HO.out.succ (by rw [hoc, h0]; rfl))
        clear hoc HO
        go_wp2_with fail
        go_roundw
        case rel => exact ⟨k + 1, by omega, by go_num, HO2, by trivial⟩
        case measure => simp [intOf]; omega
      | true =>
        cases h1 : ((s[k + 1].toNat : Int) == 46) with
        | false =>
          have HO2 := Lib.hid (HO.out.succ (by rw [hoc, h0, h1]; rfl))
          clear hoc HO
          go_wp2_with fail
          go_roundw
          case rel => exact ⟨k + 1, by omega, by go_num, HO2, by trivial⟩
          case measure => simp [intOf]; omega
        | true =>
          have hc := cut_hit s k hlt HO.out (by rw [hoc, h0, h1]; rfl)
          obtain ⟨a, ha, za⟩ : ∃ a : ByteArray, s.extract 0 k = a ∧ a.size ≤ 140737488355328 := ⟨_, rfl, by rw [ByteArray.size_extract]; omega⟩
          obtain ⟨b, hb, zb⟩ : ∃ b : ByteArray, s.extract (k + 2) s.size = b ∧ b.size ≤ 140737488355328 := ⟨_, rfl, by rw [ByteArray.size_extract]; omega⟩
          rw [ha, hb] at hc
          have HK : Hid (rangeOK (bs s) = rng true (bs a) (bs b)) := by rw [Hid, rangeOK, hc]
          have HY : Hid (rangeOK (bs s) = true → rangeLo (bs s) = number (bs a) ∧ rangeHi (bs s) = number (bs b)) := by rw [Hid]; intro h; have := range_yes h; rwa [hc] at this
          have HN : Hid (rangeOK (bs s) = false → rangeLo (bs s) = 0 ∧ rangeHi (bs s) = 0) := range_no
          clear hc hoc HO
          have hr1 := num_range (bs a)
          have hr2 := num_range (bs b)
          go_wp2_with fail
          refine (r_num a _ (by omega)).mono ?_
          rintro e w' ⟨rfl, rfl⟩
          go_wp2_with fail
          refine (r_num b _ (by omega)).mono ?_
          rintro e w' ⟨rfl, rfl⟩
          clear ha hb h0 h1
          cases ka : numOK (bs a) with
          | false =>
            have HF : Hid (rangeOK (bs s) = false) := by rw [Hid, HK.out]; simp [rng, ka]
            go_wp2_with fail
            go_ret3
            exact ⟨ret3 (HN.out HF.out).1.symm (HN.out HF.out).2.symm HF.out.symm, rfl⟩
          | true =>
            cases kb : numOK (bs b) with
            | false =>
              have HF : Hid (rangeOK (bs s) = false) := by rw [Hid, HK.out]; simp [rng, kb]
              go_wp2_with fail
              go_ret3
              exact ⟨ret3 (HN.out HF.out).1.symm (HN.out HF.out).2.symm HF.out.symm, rfl⟩
            | true =>
              have HQ : Hid (rangeOK (bs s) = decide (number (bs a) ≤ number (bs b))) := by rw [Hid, HK.out]; simp [rng, ka, kb]
              clear ka kb
              by_cases hle : number (bs a) ≤ number (bs b)
              · have HT := Lib.hid (HQ.out.trans (decide_eq_true hle))
                go_wp2_with fail
                go_ret3
                exact ⟨ret3 (HY.out HT.out).1.symm (HY.out HT.out).2.symm HT.out.symm, rfl⟩
              · have HF := Lib.hid (HQ.out.trans (decide_eq_false hle))
                go_wp2_with fail
                go_ret3
                exact ⟨ret3 (HN.out HF.out).1.symm (HN.out HF.out).2.symm HF.out.symm, rfl⟩
    · have HF := Lib.hid (cut_miss s k hlt HO.out)
      have HN := Lib.hid (range_no HF.out)
      clear HO
      go_wp2_with fail
      go_ret3
      exact ⟨ret3 HN.out.1.symm HN.out.2.symm HF.out.symm, rfl⟩

end Go.Proofs.Ythjdhcldocpfjaa.Rng
