/-
  Contract of the document's own function that divides a line into words.
-/
import Derived.Test.YtdcbaedhgoipjaaOf
import Derived.Laws.Concat
import Derived.BigRegion
namespace Go.Proofs.Ytdcbaedhgoipjaa.ROne
open Go.ChangeShapes Go.WideShapes Go.ChangeAt Go.RowKit Wd Small Lin Mem Bytes Of
set_option linter.unusedVariables false

/-- does the byte before place k belong to a word -/
def prevp (l : Bs) (k : Nat) : Bool := match k with
  | 0 => false
  | k + 1 => (l[k]?.map plain).getD false
theorem prevp_succ (s : ByteArray) (k : Nat) (h : k < s.size) : prevp (bs s) (k + 1) = plain s[k] := by
  simp only [prevp, bs_get s k h, Option.map_some, Option.getD_some]
theorem code_cons (s : ByteArray) (k : Nat) (h : k < s.size) : Lin.code ((bs s).drop k) = if s[k] != 35 then s[k] :: Lin.code ((bs s).drop (k + 1)) else [] := by
  rw [bs_drop s k h, Lin.code, List.takeWhile_cons]; rfl
theorem code_hash (s : ByteArray) (k : Nat) (h : k < s.size) (h2 : ((s[k].toNat : Int) == 35) = true) : Lin.code ((bs s).drop k) = [] := by
  rw [code_cons s k h]
  have : s[k] = 35 := UInt8.toNat_inj.1 (by have := eq_of_beq h2; simp; omega)
  simp [this]
theorem code_more (s : ByteArray) (k : Nat) (h : k < s.size) (h2 : ((s[k].toNat : Int) == 35) = false) : Lin.code ((bs s).drop k) = s[k] :: Lin.code ((bs s).drop (k + 1)) := by
  rw [code_cons s k h]
  have : s[k] ≠ 35 := by rw [beq_eq_false_iff_ne] at h2; intro e; apply h2; rw [e]; rfl
  simp [this]
theorem code_end (s : ByteArray) (k : Nat) (h : ¬ k < s.size) : Lin.code ((bs s).drop k) = [] := by
  rw [bs_drop_nil s k (by omega)]; rfl
theorem cat_str (t : Bs) (s : ByteArray) (k : Nat) (h : k < s.size) : str t ++ s.extract k (k + 1) = str (t ++ [s[k]]) := by
  apply bs_ext
  rw [bs_append, bs_str, bs_str, bs_extract, bs_drop s k h, Nat.add_sub_cancel_left]
  rfl
theorem one_str (s : ByteArray) (k : Nat) (h : k < s.size) : s.extract k (k + 1) = str [s[k]] := by
  apply bs_ext
  rw [bs_str, bs_extract, bs_drop s k h, Nat.add_sub_cancel_left]
  rfl

theorem bytes_space (s : ByteArray) (k : Nat) (h : k < s.size) (h2 : ((s[k].toNat : Int) == 32) = true ∨ ((s[k].toNat : Int) == 9) = true) : plain s[k] = false ∧ foreign s[k] = false := by
  generalize s[k] = b at *
  rw [beq_iff_eq, beq_iff_eq] at h2
  simp [plain, foreign, space]; omega
theorem bytes_other (s : ByteArray) (k : Nat) (h : k < s.size) (h1 : ((s[k].toNat : Int) == 35) = false) (h2 : ((s[k].toNat : Int) == 32) = false) (h3 : ((s[k].toNat : Int) == 9) = false) : foreign s[k] = !plain s[k] := by
  generalize s[k] = b at *
  rw [beq_eq_false_iff_ne] at h1 h2 h3
  have e1 : decide (b.toNat = 35) = false := by simp; omega
  have e2 : space b = false := by simp [space]; omega
  simp [foreign, e1, e2]

set_option maxRecDepth 100000 in
set_option maxHeartbeats 1000000 in
theorem one_any (s : ByteArray) (ln : Int) (w : World) (hs : s.size ≤ 65536) (hln : 1 ≤ ln) (hln2 : ln ≤ 100000) :
    Calls Try.prog 81 #[.string s, .int .i64 ln] w (OfPost ln (bs s) w) := by
  obtain ⟨i0, hi, hz0, hz1, hz2⟩ := info_parts info32
  go_enter Try.func81, Try.ntmps81
  go_wp2_with fail
  have HW : Hid (lineWords ln (bs s) = wst ln [] (prevp (bs s) 0) 0 (Lin.code ((bs s).drop 0))) := rfl
  go_loopw [6, 7] (fun o x wr => ∃ (k n cc : Nat) (A : Option Addr) (L : List W), k ≤ s.size ∧ n ≤ k ∧ x = .int .i64 k ∧ o = .slice A n cc ∧ Own wr w.heap.size (.slice A n cc) n L ∧ Hid (lineWords ln (bs s) = wst ln L (prevp (bs s) k) k (Lin.code ((bs s).drop k))) ∧ Hid (bad (bs s) = (Lin.code ((bs s).drop k)).any foreign) ∧ Hid (prevp (bs s) k = true → L ≠ []) ∧ Hid (∀ p ∈ L, p.1.length ≤ k) ∧ Below w.heap.size w wr) (fun _ x _ => s.size - (intOf x).toNat)
  case atStart => exact ⟨0, 0, 0, none, [], by omega, by omega, rfl, rfl, Own.nil _ _, HW, rfl, nofun, nofun, Below.refl _ _⟩
  case round =>
    obtain ⟨k, n, cc, A, L, hk, hn, rfl, rfl, hO, HE, HB, HP, HZ, hbw⟩ := hrel
    clear HW
    have hz := hbw.size
    by_cases hlt : k < s.size
    · cases h35 : ((s[k].toNat : Int) == 35) with
      | true =>
        have hce := code_hash s k hlt h35
        have HL : Hid (lineWords ln (bs s) = L) := by rw [Hid, HE.out, hce]; rfl
        have HBF : Hid (bad (bs s) = false) := by rw [Hid, HB.out, hce]; rfl
        have hl := hO.1
        clear HE HB hce
        by_cases hfull : 64 < n
        · have HF := Lib.hid (of_full (ln := ln) HBF.out (by rw [HL.out]; omega))
          go_wp2_with fail
          go_ret2
          exact ⟨none, 0, 0, retE HF.out.1.symm, by rw [HF.out.2]; exact Own.nil _ _, hbw⟩
        · have HF := Lib.hid (of_fine (ln := ln) HBF.out (by rw [HL.out]; omega))
          go_wp2_with fail
          go_ret2
          exact ⟨A, n, cc, retE HF.out.1.symm, by rw [HF.out.2, HL.out]; exact hO, hbw⟩
      | false =>
        have hcm := code_more s k hlt h35
        cases h32 : ((s[k].toNat : Int) == 32) with
        | true =>
          have hsp : plain s[k] = false ∧ foreign s[k] = false := bytes_space s k hlt (.inl h32)
          have HE2 : Hid (lineWords ln (bs s) = wst ln L false (k + 1) (Lin.code ((bs s).drop (k + 1)))) := by
            rw [Hid, HE.out, hcm, wst_skip _ _ _ _ _ _ hsp.1]
          have HB2 : Hid (bad (bs s) = (Lin.code ((bs s).drop (k + 1))).any foreign) := by
            rw [Hid, HB.out, hcm, List.any_cons, hsp.2, Bool.false_or]
          have HP2 := Lib.hid ((prevp_succ s k hlt).trans hsp.1)
          clear HE HB hcm hsp
          go_wp2_with fail
          go_roundw
          case rel => exact ⟨k + 1, n, cc, A, L, by omega, by omega, by go_num, rfl, hO, by rw [HP2.out]; exact HE2, HB2, by rw [HP2.out]; exact nofun, fun p hp => Nat.le_succ_of_le (HZ.out p hp), hbw⟩
          case measure => simp [intOf]; omega
        | false =>
        cases h9 : ((s[k].toNat : Int) == 9) with
        | true =>
          have hsp : plain s[k] = false ∧ foreign s[k] = false := bytes_space s k hlt (.inr h9)
          have HE2 : Hid (lineWords ln (bs s) = wst ln L false (k + 1) (Lin.code ((bs s).drop (k + 1)))) := by
            rw [Hid, HE.out, hcm, wst_skip _ _ _ _ _ _ hsp.1]
          have HB2 : Hid (bad (bs s) = (Lin.code ((bs s).drop (k + 1))).any foreign) := by
            rw [Hid, HB.out, hcm, List.any_cons, hsp.2, Bool.false_or]
          have HP2 := Lib.hid ((prevp_succ s k hlt).trans hsp.1)
          clear HE HB hcm hsp
          go_wp2_with fail
          go_roundw
          case rel => exact ⟨k + 1, n, cc, A, L, by omega, by omega, by go_num, rfl, hO, by rw [HP2.out]; exact HE2, HB2, by rw [HP2.out]; exact nofun, fun p hp => Nat.le_succ_of_le (HZ.out p hp), hbw⟩
          case measure => simp [intOf]; omega
        | false =>
          have hkd := bytes_other s k hlt h35 h32 h9
          cases hpl : plain s[k] with
          | false =>
            have HB2 : Hid (bad (bs s) = true) := by
              rw [Hid, HB.out, hcm, List.any_cons, hkd, hpl]; rfl
            have HF := Lib.hid (of_bad (ln := ln) HB2.out)
            clear HE HB hcm hkd
            go_wp2_with (go_at_call 93; refine (r_plain _ _).mono ?_; rintro e w' ⟨rfl, rfl⟩; rw [hpl])
            go_ret2
            exact ⟨none, 0, 0, retE HF.out.1.symm, by rw [HF.out.2]; exact Own.nil _ _, hbw⟩
          | true =>
            have HB2 : Hid (bad (bs s) = (Lin.code ((bs s).drop (k + 1))).any foreign) := by
              rw [Hid, HB.out, hcm, List.any_cons, hkd, hpl]; rfl
            have HP2 := Lib.hid ((prevp_succ s k hlt).trans hpl)
            have hl := hO.1
            cases hpp : prevp (bs s) k with
            | true =>
              obtain ⟨j, rfl⟩ : ∃ j, k = j + 1 := ⟨k - 1, by cases k with | zero => cases hpp | succ j => rfl⟩
              rw [prevp_succ s j (by omega)] at hpp
              obtain ⟨M, p, rfl⟩ : ∃ M p, L = M ++ [p] := by
                rcases List.eq_nil_or_concat L with e | ⟨M, p, e⟩
                · exact absurd e (HP.out (by rw [prevp_succ s j (by omega)]; exact hpp))
                · exact ⟨M, p, by rw [e, List.concat_eq_append]⟩
              obtain ⟨q, rfl⟩ : ∃ q, n = q + 1 := ⟨M.length, by simp at hl; exact hl.symm⟩
              obtain ⟨t, x⟩ := p
              have HE2 : Hid (lineWords ln (bs s) = wst ln (M ++ [(t ++ [s[j + 1]], x)]) true (j + 1 + 1) (Lin.code ((bs s).drop (j + 1 + 1)))) := by
                rw [Hid, HE.out, hcm, prevp_succ s j (by omega), hpp, wst, hpl]
                simp only [if_true, addTo_snoc]
              obtain ⟨g, rfl, hg1, hg2, d0, d2⟩ := hO.last
              have HZ2 : Hid (∀ p ∈ M ++ [(t ++ [s[j + 1]], x)], p.1.length ≤ j + 1 + 1) := by
                intro p hp
                rw [List.mem_append] at hp
                rcases hp with hp | hp
                · have := HZ.out p (List.mem_append_left _ hp); omega
                · have h1 := HZ.out (t, x) (List.mem_append_right _ (by simp))
                  simp at hp h1
                  subst hp; simp; exact h1
              have hts : (str t).size ≤ 65536 := by
                have h1 := HZ.out (t, x) (List.mem_append_right _ (by simp))
                simp at h1
                rw [size_str]; omega
              have hcat := cat_str t s (j + 1) hlt
              have hO2 := Lib.hid (hO.put (t ++ [s[j + 1]]))
              obtain ⟨X, hX, hXs⟩ : ∃ X : ByteArray, s.extract (j + 1) (j + 1 + 1) = X ∧ X.size ≤ 1 := ⟨_, rfl, by rw [ByteArray.size_extract]; omega⟩
              rw [hX] at hcat
              simp only at d0
              generalize str t = T0 at *
              obtain ⟨V, hV⟩ : ∃ V : ByteArray, V = str (t ++ [s[j + 1]]) := ⟨_, rfl⟩
              rw [← hV] at hcat
              have hO3 : Hid (Own (wr.setCell ⟨g, q * 3, none⟩ (.string V)) w.heap.size (.slice (some ⟨g, 0, none⟩) (q + 1) cc) (q + 1) (M ++ [(t ++ [s[j + 1]], x)])) := by rw [hV]; exact hO2
              clear HE HB hcm hkd HP hO HZ hO2 hV
              go_wp2_with first
                | (go_at_call 93; refine (r_plain _ _).mono ?_; rintro e w' ⟨rfl, rfl⟩; first | rw [hpl] | rw [hpp])
              have hc0 : (j : Int) + 1 ≤ (j : Int) + 1 + 1 := by omega
              have hc1 : (j : Int) + 1 + 1 ≤ (s.size : Int) := by omega
              have hq : (q : Int) < (q : Int) + 1 := by omega
              have hsum : T0.size + X.size ≤ 9223372036854775807 := by omega
              go_region
              go_wp2
              go_roundw
              case rel => exact ⟨j + 1 + 1, q + 1, cc, _, _, by omega, by omega, by go_num, rfl, hO3.out, by rw [HP2.out]; exact HE2, HB2, fun _ => by simp, HZ2, (Mem.below_draws hbw _).setCell hg1 _⟩
              case measure => simp [intOf]; omega
            | false =>
              have HE2 : Hid (lineWords ln (bs s) = wst ln (L ++ [([s[k]], ln, (k : Int) + 1)]) true (k + 1) (Lin.code ((bs s).drop (k + 1)))) := by
                rw [Hid, HE.out, hcm, hpp, wst, hpl]
                simp only [if_true, Bool.false_eq_true, if_false]
              have hone := one_str s k hlt
              have HZ2 : Hid (∀ p ∈ L ++ [([s[k]], ln, (k : Int) + 1)], p.1.length ≤ k + 1) := by
                intro p hp
                rw [List.mem_append] at hp
                rcases hp with hp | hp
                · have := HZ.out p hp; omega
                · simp at hp; subst hp; simp
              clear HE HB hcm hkd HP HZ
              have hown := hO.2
              cases k with
              | zero =>
                have hc0 : (0 : Int) ≤ 1 := by omega
                have hc1 : (1 : Int) ≤ (s.size : Int) := by omega
                go_wp2_with first
                  | at_builtin; refine wpList_append_own _ rfl (.tmp 63) (.tmp 73) 61 rfl w.heap.size 65 i0 _ 3 32 Try.underlying61 hi hz0 hz1 hz2 rfl (by omega) (.slice A n cc) n (cs L) rfl (hown.alloc _) ⟨wr.heap.size, 0, none⟩ 1 1 [.string (str [s[0]]), .int .i64 ln, .int .i64 1] rfl rfl (new_word _ _ _ _ _) (one_word _ _ _) (by unfold maxLen; omega) (by omega) (by simp; omega) ?_
                  | (go_at_call 93; refine (r_plain _ _).mono ?_; rintro e w' ⟨rfl, rfl⟩; rw [hpl])
                intro v w2 hown' hgrow _
                obtain ⟨A', c', rfl, hO', hb'⟩ := appended hbw hz hl hown hown' hgrow
                clear hown hown' hgrow
                go_wp2
                go_roundw
                case rel => exact ⟨1, n + 1, c', A', _, by omega, by omega, by go_num, rfl, hO', by rw [HP2.out]; exact HE2, HB2, fun _ => by simp, HZ2, hb'⟩
                case measure => simp [intOf]; omega
              | succ j =>
                rw [prevp_succ s j (by omega)] at hpp
                have hc0 : (j : Int) + 1 ≤ (j : Int) + 1 + 1 := by omega
                have hc1 : (j : Int) + 1 + 1 ≤ (s.size : Int) := by omega
                go_wp2_with first
                  | at_builtin; refine wpList_append_own _ rfl (.tmp 63) (.tmp 73) 61 rfl w.heap.size 65 i0 _ 3 32 Try.underlying61 hi hz0 hz1 hz2 rfl (by omega) (.slice A n cc) n (cs L) rfl (hown.alloc _) ⟨wr.heap.size, 0, none⟩ 1 1 [.string (str [s[j + 1]]), .int .i64 ln, .int .i64 ((j : Int) + 1 + 1)] rfl rfl (new_word _ _ _ _ _) (one_word _ _ _) (by unfold maxLen; omega) (by omega) (by simp; omega) ?_
                  | (go_at_call 93; refine (r_plain _ _).mono ?_; rintro e w' ⟨rfl, rfl⟩; first | rw [hpl] | rw [hpp])
                intro v w2 hown' hgrow _
                obtain ⟨A', c', rfl, hO', hb'⟩ := appended hbw hz hl hown hown' hgrow
                clear hown hown' hgrow
                go_wp2
                go_roundw
                case rel => exact ⟨j + 1 + 1, n + 1, c', A', _, by omega, by omega, by go_num, rfl, hO', by rw [HP2.out]; exact HE2, HB2, fun _ => by simp, HZ2, hb'⟩
                case measure => simp [intOf]; omega
    · have hce := code_end s k hlt
      have HL : Hid (lineWords ln (bs s) = L) := by rw [Hid, HE.out, hce]; rfl
      have HBF : Hid (bad (bs s) = false) := by rw [Hid, HB.out, hce]; rfl
      have hl := hO.1
      clear HE HB hce
      by_cases hfull : 64 < n
      · have HF := Lib.hid (of_full (ln := ln) HBF.out (by rw [HL.out]; omega))
        go_wp2_with fail
        go_ret2
        exact ⟨none, 0, 0, retE HF.out.1.symm, by rw [HF.out.2]; exact Own.nil _ _, hbw⟩
      · have HF := Lib.hid (of_fine (ln := ln) HBF.out (by rw [HL.out]; omega))
        go_wp2_with fail
        go_ret2
        exact ⟨A, n, cc, retE HF.out.1.symm, by rw [HF.out.2, HL.out]; exact hO, hbw⟩

end Go.Proofs.Ytdcbaedhgoipjaa.ROne
