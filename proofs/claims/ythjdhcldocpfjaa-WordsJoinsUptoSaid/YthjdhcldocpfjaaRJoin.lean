/-
  Contract of the document's own function that joins lists of words.
-/
import Derived.Test.YthjdhcldocpfjaaStrs
import Derived.Laws.Concat
namespace Go.Proofs.Ythjdhcldocpfjaa.RJoin
open Go.ChangeShapes Go.WideShapes Go.ChangeAt Go.RowKit Wd Small Lin Mem Bytes Strs
set_option linter.unusedVariables false

theorem all_next (s : ByteArray) (k : Nat) (hk : k < s.size) : ((bs s).drop k).all plain = (plain s[k] && ((bs s).drop (k + 1)).all plain) := by
  rw [bs_drop s k hk]; rfl
theorem word_all (s : ByteArray) (h : 0 < s.size) : isWord (bs s) = ((bs s).drop 0).all plain := by
  have h2 : (bs s).isEmpty = false := by
    have := bs_length s
    cases hb : bs s with
    | nil => rw [hb] at this; simp at this; omega
    | cons _ _ => rfl
  unfold isWord
  rw [h2, List.drop_zero]; rfl
theorem word_none (s : ByteArray) (h : ¬ 0 < s.size) : isWord (bs s) = false := by
  have : bs s = [] := List.eq_nil_of_length_eq_zero (by rw [bs_length]; omega)
  rw [this]; rfl

set_option maxRecDepth 100000 in
set_option maxHeartbeats 1000000 in
theorem r_join (A : Option Addr) (n c : Nat) (LL : List (List ByteArray)) (w : World) (hG : Grid w w.heap.size A n LL) (hn : n ≤ 9223372036854775807) (hN : wtL LL ≤ 140737488355328) :
    Calls Try.prog 27 #[.slice A n c] w fun e w' => e = .returned (.string (str (joinT LL))) ∧ w = w' := by
  go_enter Try.func27, Try.ntmps27
  go_wp2_with fail
  have HS := Lib.hid (Todo.start LL 140737488355328 hN)
  have hlen0 := hG.1
  go_loopw [3, 4] (fun t x wr => ∃ (k : Nat) (acc : Bs), k ≤ n ∧ x = .int .i64 k ∧ t = .string (str acc) ∧ Hid (Todo (joinT LL) acc (LL.drop k) 140737488355328) ∧ w = wr) (fun _ x _ => n - (intOf x).toNat)
  case atStart => exact ⟨0, [], by omega, rfl, rfl, HS, rfl⟩
  case round =>
    obtain ⟨k, acc, hk, rfl, rfl, HL, rfl⟩ := hrel
    clear HS
    by_cases hlt : k < n
    · obtain ⟨ad, L, A1, c1, rfl, hab, hLk, c0, hR, hl1, hl2⟩ := hG.load hlt
      have hd := drop_at hLk
      rw [hd] at HL
      clear hd hLk hG
      by_cases hok : 1 ≤ L.length ∧ L.length ≤ 64
      · have HI := Lib.hid (HL.out.inside hok.1 hok.2)
        have o1 : (1 : Int) ≤ L.length := by omega
        have o2 : (L.length : Int) ≤ 64 := by omega
        clear HL hok
        go_wp2_with fail
        go_loopw [3, 5] (fun t y wx => ∃ (i : Nat) (acc' : Bs), i ≤ L.length ∧ y = .int .i64 i ∧ t = .string (str acc') ∧ Hid (TodoIn (joinT LL) acc' (decide (i = 0)) (L.drop i) (LL.drop (k + 1)) 140737488355328) ∧ w = wx) (fun _ y _ => L.length - (intOf y).toNat)
        case atStart => exact ⟨0, acc, by omega, rfl, rfl, HI, rfl⟩
        case round =>
          obtain ⟨i, acc', hi, rfl, rfl, HJ, rfl⟩ := hrel
          clear HI
          have zacc : (str acc').size = acc'.length := size_str acc'
          by_cases hil : i < L.length
          · obtain ⟨ad1, s, rfl, hab1, hLi, d0⟩ := hR.load hil
            have hd := drop_at hLi
            rw [hd] at HJ
            have hsz : acc'.length + s.size + 2 ≤ 140737488355328 := by
              have := HJ.out.2
              simp only [wt] at this
              omega
            clear hd hLi hR
            by_cases hs0 : 0 < s.size
            · have HWA := Lib.hid (word_all s hs0)
              have o3 : (1 : Int) ≤ s.size := by omega
              go_wp2_with fail
              go_loopw [6] (fun z wy => ∃ (x : Nat), x ≤ s.size ∧ z = .int .i64 x ∧ Hid (isWord (bs s) = ((bs s).drop x).all plain) ∧ w = wy) (fun z _ => s.size - (intOf z).toNat)
              case atStart => exact ⟨0, by omega, rfl, HWA, rfl⟩
              case round =>
                obtain ⟨x, hx, rfl, HX, rfl⟩ := hrel
                clear HWA
                by_cases hxs : x < s.size
                · have hn := all_next s x hxs
                  cases hp : plain s[x] with
                  | true =>
                    rw [hp, Bool.true_and] at hn
                    have HX2 := Lib.hid (HX.out.trans hn)
                    clear HX hn
                    go_wp2_with (go_at_call 42; refine (r_plain _ _).mono ?_; rintro e w' ⟨rfl, rfl⟩; rw [hp])
                    go_roundw
                    case rel => exact ⟨x + 1, by omega, by go_num, HX2, by trivial⟩
                    case measure => simp [intOf]; omega
                  | false =>
                    rw [hp, Bool.false_and] at hn
                    have HT := Lib.hid (HJ.out.bad (HX.out.trans hn))
                    clear HX hn HJ
                    go_wp2_with (go_at_call 42; refine (r_plain _ _).mono ?_; rintro e w' ⟨rfl, rfl⟩; rw [hp])
                    go_ret
                    exact ⟨by rw [HT.out]; rfl, rfl⟩
                · have hw : isWord (bs s) = true := by rw [HX.out, bs_drop_nil s x (by omega)]; rfl
                  have HN := HJ.out.next hw
                  clear HX HJ hw
                  by_cases hip : 0 < i
                  · rw [decide_eq_false (by omega)] at HN
                    simp only [Bool.false_eq_true, if_false] at HN
                    have HN := Lib.hid HN
                    have hipi : (0 : Int) < i := by omega
                    have sp : (ByteArray.mk #[32]).size = 1 := rfl
                    obtain ⟨X, hX, zX⟩ : ∃ X, str acc' ++ ⟨#[32]⟩ = X ∧ X.size = acc'.length + 1 := ⟨_, rfl, by rw [ByteArray.size_append]; omega⟩
                    have hXV : X ++ s = str (acc' ++ ([32] ++ bs s)) := by
                      rw [← hX]
                      exact bs_ext (by rw [bs_append, bs_append, bs_str, bs_str, List.append_assoc]; rfl)
                    obtain ⟨V, hV⟩ : ∃ V, V = str (acc' ++ ([32] ++ bs s)) := ⟨_, rfl⟩
                    rw [← hV] at hXV
                    have HV := Lib.hid hV
                    have g1 : (str acc').size + (ByteArray.mk #[32]).size ≤ 9223372036854775807 := by omega
                    have g2 : X.size + s.size ≤ 9223372036854775807 := by omega
                    clear hV
                    go_wp2_with fail
                    go_roundw
                    case rel => exact ⟨i + 1, acc' ++ ([32] ++ bs s), by omega, by go_num, by rw [HV.out], by rw [decide_eq_false (by omega)]; exact HN, by trivial⟩
                    case measure => simp [intOf]; omega
                  · rw [decide_eq_true (by omega)] at HN
                    simp only [if_true, List.nil_append] at HN
                    have HN := Lib.hid HN
                    have hipi : (i : Int) ≤ 0 := by omega
                    obtain ⟨V, hV⟩ : ∃ V, V = str (acc' ++ bs s) := ⟨_, rfl⟩
                    have hXV : str acc' ++ s = V := by rw [hV]; exact bs_ext (by rw [bs_append, bs_str, bs_str])
                    have HV := Lib.hid hV
                    have g2 : (str acc').size + s.size ≤ 9223372036854775807 := by omega
                    clear hV
                    go_wp2_with fail
                    go_roundw
                    case rel => exact ⟨i + 1, acc' ++ bs s, by omega, by go_num, by rw [HV.out], by rw [decide_eq_false (by omega)]; exact HN, by trivial⟩
                    case measure => simp [intOf]; omega
            · have HT := Lib.hid (HJ.out.bad (word_none s hs0))
              have o3 : (s.size : Int) < 1 := by omega
              go_wp2_with fail
              go_ret
              exact ⟨by rw [HT.out]; rfl, rfl⟩
          · have hd : L.drop i = [] := List.drop_eq_nil_of_le (by omega)
            rw [hd] at HJ
            have HD := Lib.hid HJ.out.done
            have hsz : acc'.length + 1 ≤ 140737488355328 := by
              have := HJ.out.2
              simp only [wt] at this
              omega
            clear hd HJ
            have sp : (ByteArray.mk #[10]).size = 1 := rfl
            obtain ⟨V, hV⟩ : ∃ V, V = str (acc' ++ [10]) := ⟨_, rfl⟩
            have hXV : str acc' ++ ⟨#[10]⟩ = V := by rw [hV]; exact bs_ext (by rw [bs_append, bs_str, bs_str]; rfl)
            have HV := Lib.hid hV
            have g2 : (str acc').size + (ByteArray.mk #[10]).size ≤ 9223372036854775807 := by omega
            clear hV
            go_wp2_with fail
            go_roundw
            case rel => exact ⟨k + 1, acc' ++ [10], by omega, by go_num, by rw [HV.out], HD, by trivial⟩
            case measure => simp [intOf]; omega
      · have HT := Lib.hid (HL.out.bad hok)
        by_cases hz0 : L.length < 1
        · have o1 : (L.length : Int) < 1 := by omega
          go_wp2_with fail
          go_ret
          exact ⟨by rw [HT.out]; rfl, rfl⟩
        · have o1 : (1 : Int) ≤ L.length := by omega
          have o2 : (64 : Int) < L.length := by omega
          go_wp2_with fail
          go_ret
          exact ⟨by rw [HT.out]; rfl, rfl⟩
    · have hd : LL.drop k = [] := List.drop_eq_nil_of_le (by omega)
      rw [hd] at HL
      have HT := Lib.hid HL.out.done
      clear hd HL hG
      go_wp2_with fail
      go_ret
      exact ⟨by rw [HT.out]; rfl, rfl⟩
end Go.Proofs.Ythjdhcldocpfjaa.RJoin
