/-
  Contract of the document's own function that divides a text into lines of words.
-/
import Derived.Test.YtdcbaedhgoipjaaROne
import Derived.Test.YtdcbaedhgoipjaaPLines
namespace Go.Proofs.Ytdcbaedhgoipjaa.RLines
open Go.ChangeShapes Go.WideShapes Go.ChangeAt Go.RowKit Wd Small Lin Mem Bytes Of PLines ROne
set_option linter.unusedVariables false

/-- the end of the line that begins at k -/
def nl (s : ByteArray) (k : Nat) : Nat := k + (((bs s).drop k).takeWhile (· != 10)).length
theorem nl_next (s : ByteArray) (k : Nat) (hk : k < s.size) (h : ((s[k].toNat : Int) == 10) = false) : nl s k = nl s (k + 1) := by
  have h1 : (s[k] != 10) = true := by rw [beq_eq_false_iff_ne] at h; rw [bne_iff_ne]; intro e; apply h; rw [e]; rfl
  unfold nl
  rw [bs_drop s k hk, List.takeWhile_cons, h1]
  simp only [if_true, List.length_cons]; omega
theorem nl_stop (s : ByteArray) (k : Nat) (hk : k < s.size) (h : ((s[k].toNat : Int) == 10) = true) : nl s k = k := by
  have h1 : (s[k] != 10) = false := by
    have : s[k] = 10 := UInt8.toNat_inj.1 (by have := eq_of_beq h; simp; omega)
    simp [this]
  unfold nl
  rw [bs_drop s k hk, List.takeWhile_cons, h1]
  simp
theorem nl_end (s : ByteArray) (k : Nat) (hk : s.size ≤ k) : nl s k = k := by
  unfold nl
  rw [bs_drop_nil s k hk]
  simp
theorem nl_le (s : ByteArray) (k : Nat) (hk : k ≤ s.size) : k ≤ nl s k ∧ nl s k ≤ s.size := by
  unfold nl
  have h1 : (((bs s).drop k).takeWhile (· != 10)).length ≤ ((bs s).drop k).length := List.Sublist.length_le (List.takeWhile_sublist _)
  rw [List.length_drop, bs_length] at h1
  omega
theorem contains_iff : ∀ l : Bs, l.contains 10 = decide ((l.takeWhile (· != 10)).length < l.length)
  | [] => by simp
  | b :: r => by
    have ih := contains_iff r
    by_cases hb : b = 10
    · subst hb; simp
    · have h2 : (b != 10) = true := by simpa using hb
      have h3 : ((10 : UInt8) == b) = false := by simpa using fun e : 10 = b => hb e.symm
      rw [List.takeWhile_cons, List.contains_cons, h2, h3, Bool.false_or, ih]
      simp only [if_true, List.length_cons]
      congr 1
      simp
theorem line_step (s : ByteArray) (k : Nat) (hk : k ≤ s.size) : split ((bs s).drop k) = bs (s.extract k (nl s k)) :: (if nl s k < s.size then split ((bs s).drop (nl s k + 1)) else []) := by
  rw [split_eq]
  have h := List.takeWhile_append_dropWhile (p := (· != 10)) (l := (bs s).drop k)
  have h1 : bs (s.extract k (nl s k)) = ((bs s).drop k).takeWhile (· != 10) := by
    rw [bs_extract]
    unfold nl
    rw [Nat.add_sub_cancel_left]
    conv => lhs; arg 2; rw [← h]
    exact List.take_left
  have h2 : (bs s).drop (nl s k + 1) = (((bs s).drop k).dropWhile (· != 10)).drop 1 := by
    unfold nl
    rw [← List.drop_drop, ← List.drop_drop]
    conv => lhs; arg 2; arg 2; rw [← h]
    rw [List.drop_left]
  have h3 : ((bs s).drop k).contains 10 = decide (nl s k < s.size) := by
    rw [contains_iff]
    unfold nl
    rw [List.length_drop, bs_length]
    congr 1
    rw [eq_iff_iff]
    omega
  rw [h1, h2, h3]
  simp only [decide_eq_true_eq]
theorem go_rest (s : ByteArray) (T : List (List W)) (q : Int) (z : Nat) : go T q (if z < s.size then split ((bs s).drop (z + 1)) else []) = go T q (split ((bs s).drop (z + 1))) := by
  by_cases h : z < s.size
  · rw [if_pos h]
  · rw [if_neg h, bs_drop_nil s (z + 1) (by omega)]
    exact (go_empty T q).symm
theorem go_done (s : ByteArray) (T : List (List W)) (q : Int) (k : Nat) (h : s.size ≤ k) : go T q (split ((bs s).drop k)) = (T, 0, 0) := by
  rw [bs_drop_nil s k h]; exact go_empty T q

set_option maxRecDepth 100000 in
set_option maxHeartbeats 1000000 in
theorem r_lines (s : ByteArray) (w : World) (hs : s.size ≤ 9223372036854775807) : Calls Try.prog 58 #[.string s] w (LinesPost (bs s) w) := by
  obtain ⟨i0, hi, hz0, hz1, hz2⟩ := info_parts info33
  by_cases hbig : 65536 < s.size
  · have HB : Hid (linesOf (bs s) = ([], 0, 7)) := by rw [Hid, linesOf, bs_length, if_pos hbig]
    go_enter Try.func58, Try.ntmps58
    go_wp2_with fail
    go_ret3
    exact ⟨none, 0, 0, by rw [HB.out]; rfl, by rw [HB.out]; exact OwnL.nil _ _, Below.refl _ _⟩
  · have HS : Hid (linesOf (bs s) = go [] 1 (split (bs s))) := by rw [Hid, linesOf, bs_length, if_neg hbig]
    go_enter Try.func58, Try.ntmps58
    go_wp2_with fail
    go_loopw [5, 6, 7] (fun o x y wr => ∃ (k q n cc : Nat) (A : Option Addr) (T : List (List W)), k ≤ s.size + 1 ∧ 1 ≤ q ∧ q ≤ k + 1 ∧ n < q ∧ x = .int .i64 q ∧ y = .int .i64 k ∧ o = .slice A n cc ∧ OwnL wr w.heap.size (.slice A n cc) n T ∧ Hid (linesOf (bs s) = go T q (split ((bs s).drop k))) ∧ Below w.heap.size w wr) (fun _ _ y _ => s.size + 1 - (intOf y).toNat)
    case atStart => exact ⟨0, 1, 0, 0, none, [], by omega, by omega, by omega, by omega, rfl, rfl, rfl, OwnL.nil _ _, HS, Below.refl _ _⟩
    case round =>
      obtain ⟨k, q, n, cc, A, T, hk, hq1, hq, hnq, rfl, rfl, rfl, hO, HE, hbw⟩ := hrel
      clear HS
      have hz := hbw.size
      by_cases hlt : k < s.size
      · go_wp2_with fail
        go_loopw [8] (fun y wx => ∃ (j : Nat), k ≤ j ∧ j ≤ s.size ∧ y = .int .i64 j ∧ Hid (nl s k = nl s j) ∧ wr = wx) (fun y _ => s.size - (intOf y).toNat)
        case atStart => exact ⟨k, by omega, by omega, rfl, rfl, rfl⟩
        case round =>
          obtain ⟨j, hkj, hj, rfl, HN, rfl⟩ := hrel
          by_cases hlj : j < s.size
          · cases h10 : ((s[j].toNat : Int) == 10) with
            | false =>
              have HN2 := Lib.hid (HN.out.trans (nl_next s j hlj h10))
              clear HN
              go_wp2_with fail
              go_roundw
              case rel => exact ⟨j + 1, by omega, by omega, by go_num, HN2, by trivial⟩
              case measure => simp [intOf]; omega
            | true =>
              have HN2 := Lib.hid (HN.out.trans (nl_stop s j hlj h10))
              clear HN
              have hcj : (k : Int) ≤ j := by omega
              have hcs : (j : Int) ≤ (s.size : Int) := by omega
              have HS2 : Hid (linesOf (bs s) = go T q (bs (s.extract k j) :: (if j < s.size then split ((bs s).drop (j + 1)) else []))) := by
                have h1 := line_step s k (by omega)
                rw [HN2.out] at h1
                rw [Hid, HE.out, h1]
              obtain ⟨a, ha, za⟩ : ∃ a : ByteArray, s.extract k j = a ∧ a.size ≤ 65536 := ⟨_, rfl, by rw [ByteArray.size_extract]; omega⟩
              rw [ha] at HS2
              clear HN2 HE
              go_wp2_with fail
              refine (one_any a q _ za (by omega) (by omega)).mono ?_
              rintro e w2 ⟨A1, n1, c1, rfl, hO2, hb2⟩
              have hO3 := hO.below hb2 (Nat.le_refl _)
              have hO4 := hO2.base_ hz
              have hbw2 := hbw.trans (hb2.mono hz)
              have hz2' := hbw2.size
              clear hO hO2 hb2
              by_cases he : lineErr q (bs a) = 0
              · have HE3 : Hid (linesOf (bs s) = go (if (lineWords q (bs a)).length = 0 then T else T ++ [lineWords q (bs a)]) (q + 1) (split ((bs s).drop (j + 1)))) := by
                  rw [Hid, HS2.out, ← go_rest]; simp only [go, he, if_true]
                have hwd : lineOut q (bs a) = lineWords q (bs a) := by simp [lineOut, he]
                rw [hwd] at hO4
                have hlen := hO4.1
                rw [he]
                clear HS2 he hwd
                by_cases hn1 : n1 = 0
                · rw [hn1] at hlen
                  rw [if_pos hlen] at HE3
                  go_wp2_with fail
                  go_roundw
                  case rel => exact ⟨j + 1, q + 1, n, cc, A, T, by omega, by omega, by omega, by omega, by go_num, by go_num, rfl, hO3, HE3, hbw2⟩
                  case measure => simp [intOf]; omega
                · rw [if_neg (by omega)] at HE3
                  generalize lineWords q (bs a) = L at *
                  subst hlen
                  obtain ⟨us, hl, hown, hR⟩ := hO3
                  go_wp2_with (at_builtin; refine wpList_append_own _ rfl (.tmp 49) (.tmp 51) 56 rfl w.heap.size 61 i0 _ 1 24 Try.underlying56 hi hz0 hz1 hz2 rfl (by omega) (.slice A n cc) n us rfl (hown.alloc _) ⟨w2.heap.size, 0, none⟩ 1 1 [.slice A1 L.length c1] rfl rfl (new_one _ _ _) (one_one _ _ _) (by unfold maxLen; omega) (by omega) (by simp; omega) ?_)
                  intro v w3 hown' hgrow _
                  obtain ⟨A', c', rfl, hO', hb'⟩ := appendedL hbw2 hz2' hl hown hR hO4 hown' hgrow
                  clear hown hown' hgrow hR hO4
                  go_wp2
                  go_roundw
                  case rel => exact ⟨j + 1, q + 1, n + 1, c', A', _, by omega, by omega, by omega, by omega, by go_num, by go_num, rfl, hO', HE3, hb'⟩
                  case measure => simp [intOf]; omega
              · have HE3 : Hid (linesOf (bs s) = ([], (q : Int), lineErr q (bs a))) := by
                  rw [Hid, HS2.out]; simp only [go, he, if_false]
                have hne : (lineErr q (bs a) == 0) = false := by rw [beq_eq_false_iff_ne]; exact he
                have hne2 : (lineErr q (bs a) != 0) = true := by rw [bne_iff_ne]; exact he
                clear HS2 he
                go_wp2_with fail
                go_ret3
                exact ⟨none, 0, 0, by rw [HE3.out]; rfl, by rw [HE3.out]; exact OwnL.nil _ _, hbw2⟩
          · have HN2 := Lib.hid (HN.out.trans (nl_end s j (by omega)))
            clear HN
            have hcj : (k : Int) ≤ j := by omega
            have hcs : (j : Int) ≤ (s.size : Int) := by omega
            have HS2 : Hid (linesOf (bs s) = go T q (bs (s.extract k j) :: (if j < s.size then split ((bs s).drop (j + 1)) else []))) := by
              have h1 := line_step s k (by omega)
              rw [HN2.out] at h1
              rw [Hid, HE.out, h1]
            obtain ⟨a, ha, za⟩ : ∃ a : ByteArray, s.extract k j = a ∧ a.size ≤ 65536 := ⟨_, rfl, by rw [ByteArray.size_extract]; omega⟩
            rw [ha] at HS2
            clear HN2 HE
            go_wp2_with fail
            refine (one_any a q _ za (by omega) (by omega)).mono ?_
            rintro e w2 ⟨A1, n1, c1, rfl, hO2, hb2⟩
            have hO3 := hO.below hb2 (Nat.le_refl _)
            have hO4 := hO2.base_ hz
            have hbw2 := hbw.trans (hb2.mono hz)
            have hz2' := hbw2.size
            clear hO hO2 hb2
            by_cases he : lineErr q (bs a) = 0
            · have HE3 : Hid (linesOf (bs s) = go (if (lineWords q (bs a)).length = 0 then T else T ++ [lineWords q (bs a)]) (q + 1) (split ((bs s).drop (j + 1)))) := by
                rw [Hid, HS2.out, ← go_rest]; simp only [go, he, if_true]
              have hwd : lineOut q (bs a) = lineWords q (bs a) := by simp [lineOut, he]
              rw [hwd] at hO4
              have hlen := hO4.1
              rw [he]
              clear HS2 he hwd
              by_cases hn1 : n1 = 0
              · rw [hn1] at hlen
                rw [if_pos hlen] at HE3
                go_wp2_with fail
                go_roundw
                case rel => exact ⟨j + 1, q + 1, n, cc, A, T, by omega, by omega, by omega, by omega, by go_num, by go_num, rfl, hO3, HE3, hbw2⟩
                case measure => simp [intOf]; omega
              · rw [if_neg (by omega)] at HE3
                generalize lineWords q (bs a) = L at *
                subst hlen
                obtain ⟨us, hl, hown, hR⟩ := hO3
                go_wp2_with (at_builtin; refine wpList_append_own _ rfl (.tmp 49) (.tmp 51) 56 rfl w.heap.size 61 i0 _ 1 24 Try.underlying56 hi hz0 hz1 hz2 rfl (by omega) (.slice A n cc) n us rfl (hown.alloc _) ⟨w2.heap.size, 0, none⟩ 1 1 [.slice A1 L.length c1] rfl rfl (new_one _ _ _) (one_one _ _ _) (by unfold maxLen; omega) (by omega) (by simp; omega) ?_)
                intro v w3 hown' hgrow _
                obtain ⟨A', c', rfl, hO', hb'⟩ := appendedL hbw2 hz2' hl hown hR hO4 hown' hgrow
                clear hown hown' hgrow hR hO4
                go_wp2
                go_roundw
                case rel => exact ⟨j + 1, q + 1, n + 1, c', A', _, by omega, by omega, by omega, by omega, by go_num, by go_num, rfl, hO', HE3, hb'⟩
                case measure => simp [intOf]; omega
            · have HE3 : Hid (linesOf (bs s) = ([], (q : Int), lineErr q (bs a))) := by
                rw [Hid, HS2.out]; simp only [go, he, if_false]
              have hne : (lineErr q (bs a) == 0) = false := by rw [beq_eq_false_iff_ne]; exact he
              have hne2 : (lineErr q (bs a) != 0) = true := by rw [bne_iff_ne]; exact he
              clear HS2 he
              go_wp2_with fail
              go_ret3
              exact ⟨none, 0, 0, by rw [HE3.out]; rfl, by rw [HE3.out]; exact OwnL.nil _ _, hbw2⟩
      · have HF := Lib.hid (HE.out.trans (go_done s T q k (by omega)))
        clear HE
        go_wp2_with fail
        go_ret3
        exact ⟨A, n, cc, by rw [HF.out]; rfl, by rw [HF.out]; exact hO, hbw⟩

end Go.Proofs.Ytdcbaedhgoipjaa.RLines
