/-
  Contract of the program's function that divides a line into words.
  Contract of the document's own function that divides a line into words.
  Contract of the program's function that divides a text into lines of words.
  Contract of the document's own function that divides a text into lines of words.
-/
import Derived.Test.YtnfelcjpjodjhaaGreatMA
import Derived.Test.YtnfelcjpjodjhaaGreatMB
import Derived.Laws.Concat
import Derived.BigRegion
namespace Go.Proofs.YtnfelcjpjodjhaaGreat.Of
open Go.ChangeShapes Go.WideShapes Go.ChangeAt Go.RowKit Wd Small Lin Mem Bytes
set_option linter.unusedVariables false

theorem info32 : (Tryz.prog.info? 95).map (fun i => (i.zero, i.size, i.bytes)) = some (some (.agg #[.string ByteArray.empty, .int .i64 0, .int .i64 0]), 3, 32) := by kernel_rfl

theorem mem_code (l : Bs) (b : UInt8) (h : b ∈ Lin.code l) : b ≠ 35 := by
  have h1 : (l.takeWhile (· != 35)).all (· != 35) = true := List.all_takeWhile
  have := List.all_eq_true.1 h1 b h
  simpa using this
/-- a byte of a line's code, where no byte is foreign -/
theorem kind (l : Bs) (c : ByteArray) (hc : bs c = Lin.code l) (hf : (bs c).any foreign = false) (k : Nat) (hk : k < c.size) : plain c[k] = !space c[k] := by
  have hm : c[k] ∈ bs c := by
    have := bs_get c k hk
    exact List.mem_of_getElem? this
  have h1 : foreign c[k] = false := by
    rw [List.any_eq_false] at hf
    simpa using hf _ hm
  have h2 : c[k] ≠ 35 := mem_code l _ (hc ▸ hm)
  have h3 : c[k].toNat ≠ 35 := fun e => h2 (UInt8.toNat_inj.1 e)
  generalize c[k] = b at *
  simp [foreign, h3] at h1
  cases hp : plain b with
  | true => simp [plain, space] at hp ⊢; omega
  | false => simp [hp] at h1; simp [h1]
theorem word_text (c : ByteArray) (k : Nat) : bs (c.extract k (endOf c k)) = ((bs c).drop k).takeWhile plain := by
  rw [bs_extract]
  unfold endOf
  rw [Nat.add_sub_cancel_left]
  have h := List.takeWhile_append_dropWhile (p := plain) (l := (bs c).drop k)
  conv => lhs; arg 2; rw [← h]
  exact List.take_left
theorem word_step (ln : Int) (c : ByteArray) (k : Nat) (L : List W) (hk : k < c.size) (hp : plain c[k] = true) :
    wst ln L false k ((bs c).drop k) = wst ln (L ++ [(bs (c.extract k (endOf c k)), ln, (k : Int) + 1)]) false (endOf c k) ((bs c).drop (endOf c k)) := by
  have h := List.takeWhile_append_dropWhile (p := plain) (l := (bs c).drop k)
  have hd : (bs c).drop (endOf c k) = ((bs c).drop k).dropWhile plain := by
    unfold endOf
    rw [← List.drop_drop]
    conv => lhs; arg 2; rw [← h]
    exact List.drop_left
  rw [word_text, hd]
  have hh : ∀ b, (((bs c).drop k).dropWhile plain).head? = some b → plain b = false := by
    intro b hb
    have := List.head?_dropWhile_not plain ((bs c).drop k)
    rw [hb] at this
    simpa using this
  conv => lhs; rw [← h]
  have htw := tw_next c k hk
  rw [hp] at htw
  simp only [if_true] at htw
  have hall : (((bs c).drop k).takeWhile plain).all plain = true := List.all_takeWhile
  unfold endOf
  rw [htw] at hall ⊢
  exact wst_word ln _ _ _ L k hall hh

/-- what the call leaves -/
def OfPost (ln : Int) (l : Bs) (w : World) (e : Ending) (w' : World) : Prop := ∃ A n c, e = .returned (.tuple #[.slice A n c, .int .i64 (lineErr ln l)]) ∧ Own w' w.heap.size (.slice A n c) n (lineOut ln l) ∧ Below w.heap.size w w'

theorem of_bad {ln : Int} {l : Bs} (h : bad l = true) : lineErr ln l = 2 ∧ lineOut ln l = [] := by simp [lineErr, lineOut, h]
theorem of_full {ln : Int} {l : Bs} (h : bad l = false) (h2 : 64 < (lineWords ln l).length) : lineErr ln l = 7 ∧ lineOut ln l = [] := by simp [lineErr, lineOut, h, h2]
theorem of_fine {ln : Int} {l : Bs} (h : bad l = false) (h2 : (lineWords ln l).length ≤ 64) : lineErr ln l = 0 ∧ lineOut ln l = lineWords ln l := by
  have : ¬ 64 < (lineWords ln l).length := by omega
  simp [lineErr, lineOut, h, this]

theorem retE {v : Value} {a b : Int} (h : a = b) : Ending.returned (.tuple #[v, .int .i64 a]) = Ending.returned (.tuple #[v, .int .i64 b]) := by rw [h]

end Go.Proofs.YtnfelcjpjodjhaaGreat.Of

namespace Go.Proofs.YtnfelcjpjodjhaaGreat.ROne
open Go.ChangeShapes Go.WideShapes Go.ChangeAt Go.RowKit Wd Small Lin Mem Bytes Of
set_option linter.unusedVariables false

/-- does the byte before place k belong to a word -/
def prevp (l : Bs) (k : Nat) : Bool := match k with
  | 0 => false
  | k + 1 => (l[k]?.map plain).getD false
theorem prevp_succ (s : ByteArray) (k : Nat) (h : k < s.size) : prevp (bs s) (k + 1) = plain s[k] := by
  simp only [prevp, bs_get s k h, Option.map_some, Option.getD_some]
theorem code_cons (s : ByteArray) (k : Nat) (h : k < s.size) : Lin.code ((bs s).drop k) = if s[k] != 35 then s[k] :: Lin.code ((bs s).drop (k + 1)) else [] := by
  rw [bs_drop s k h, Lin.code, List.takeWhile_cons]; rfl
theorem code_hash (s : ByteArray) (k : Nat) (h : k < s.size) (h2 : ((s[k].toNat : Int) == 35) = true) : Lin.code ((bs s).drop k) = [] := by
  rw [code_cons s k h]
  have : s[k] = 35 := UInt8.toNat_inj.1 (by have := eq_of_beq h2; simp; omega)
  simp [this]
theorem code_more (s : ByteArray) (k : Nat) (h : k < s.size) (h2 : ((s[k].toNat : Int) == 35) = false) : Lin.code ((bs s).drop k) = s[k] :: Lin.code ((bs s).drop (k + 1)) := by
  rw [code_cons s k h]
  have : s[k] ≠ 35 := by rw [beq_eq_false_iff_ne] at h2; intro e; apply h2; rw [e]; rfl
  simp [this]
theorem code_end (s : ByteArray) (k : Nat) (h : ¬ k < s.size) : Lin.code ((bs s).drop k) = [] := by
  rw [bs_drop_nil s k (by omega)]; rfl
theorem cat_str (t : Bs) (s : ByteArray) (k : Nat) (h : k < s.size) : str t ++ s.extract k (k + 1) = str (t ++ [s[k]]) := by
  apply bs_ext
  rw [bs_append, bs_str, bs_str, bs_extract, bs_drop s k h, Nat.add_sub_cancel_left]
  rfl
theorem one_str (s : ByteArray) (k : Nat) (h : k < s.size) : s.extract k (k + 1) = str [s[k]] := by
  apply bs_ext
  rw [bs_str, bs_extract, bs_drop s k h, Nat.add_sub_cancel_left]
  rfl

theorem bytes_space (s : ByteArray) (k : Nat) (h : k < s.size) (h2 : ((s[k].toNat : Int) == 32) = true ∨ ((s[k].toNat : Int) == 9) = true) : plain s[k] = false ∧ foreign s[k] = false := by
  generalize s[k] = b at *
  rw [beq_iff_eq, beq_iff_eq] at h2
  simp [plain, foreign, space]; omega
theorem bytes_other (s : ByteArray) (k : Nat) (h : k < s.size) (h1 : ((s[k].toNat : Int) == 35) = false) (h2 : ((s[k].toNat : Int) == 32) = false) (h3 : ((s[k].toNat : Int) == 9) = false) : foreign s[k] = !plain s[k] := by
  generalize s[k] = b at *
  rw [beq_eq_false_iff_ne] at h1 h2 h3
  have e1 : decide (b.toNat = 35) = false := by simp; omega
  have e2 : space b = false := by simp [space]; omega
  simp [foreign, e1, e2]

set_option maxRecDepth 100000 in
set_option maxHeartbeats 1000000 in
theorem one_any (s : ByteArray) (ln : Int) (w : World) (hs : s.size ≤ 65536) (hln : 1 ≤ ln) (hln2 : ln ≤ 100000) :
    Calls Tryz.prog 64 #[.string s, .int .i64 ln] w (OfPost ln (bs s) w) := by
  obtain ⟨i0, hi, hz0, hz1, hz2⟩ := info_parts info32
  go_enter Tryz.func64, Tryz.ntmps64
  go_wp2_with fail
  have HW : Hid (lineWords ln (bs s) = wst ln [] (prevp (bs s) 0) 0 (Lin.code ((bs s).drop 0))) := rfl
  go_loopw [6, 7] (fun o x wr => ∃ (k n cc : Nat) (A : Option Addr) (L : List W), k ≤ s.size ∧ n ≤ k ∧ x = .int .i64 k ∧ o = .slice A n cc ∧ Own wr w.heap.size (.slice A n cc) n L ∧ Hid (lineWords ln (bs s) = wst ln L (prevp (bs s) k) k (Lin.code ((bs s).drop k))) ∧ Hid (bad (bs s) = (Lin.code ((bs s).drop k)).any foreign) ∧ Hid (prevp (bs s) k = true → L ≠ []) ∧ Hid (∀ p ∈ L, p.1.length ≤ k) ∧ Below w.heap.size w wr) (fun _ x _ => s.size - (intOf x).toNat)
  case atStart => exact ⟨0, 0, 0, none, [], by omega, by omega, rfl, rfl, Own.nil _ _, HW, rfl, nofun, nofun, Below.refl _ _⟩
  case round =>
    obtain ⟨k, n, cc, A, L, hk, hn, rfl, rfl, hO, HE, HB, HP, HZ, hbw⟩ := hrel
    clear HW
    have hz := hbw.size
    by_cases hlt : k < s.size
    · cases h35 : ((s[k].toNat : Int) == 35) with
      | true =>
        have hce := code_hash s k hlt h35
        have HL : Hid (lineWords ln (bs s) = L) := by rw [Hid, HE.out, hce]; rfl
        have HBF : Hid (bad (bs s) = false) := by rw [Hid, HB.out, hce]; rfl
        have hl := hO.1
        clear HE HB hce
        by_cases hfull : 64 < n
        · have HF := Lib.hid (of_full (ln := ln) HBF.out (by rw [HL.out]; omega))
          go_wp2_with fail
          go_ret2
          exact ⟨none, 0, 0, retE HF.out.1.symm, by rw [HF.out.2]; exact Own.nil _ _, hbw⟩
        · have HF := Lib.hid (of_fine (ln := ln) HBF.out (by rw [HL.out]; omega))
          go_wp2_with fail
          go_ret2
          exact ⟨A, n, cc, retE HF.out.1.symm, by rw [HF.out.2, HL.out]; exact hO, hbw⟩
      | false =>
        have hcm := code_more s k hlt h35
        cases h32 : ((s[k].toNat : Int) == 32) with
        | true =>
          have hsp : plain s[k] = false ∧ foreign s[k] = false := bytes_space s k hlt (.inl h32)
          have HE2 : Hid (lineWords ln (bs s) = wst ln L false (k + 1) (Lin.code ((bs s).drop (k + 1)))) := by
            rw [Hid, HE.out, hcm, wst_skip _ _ _ _ _ _ hsp.1]
          have HB2 : Hid (bad (bs s) = (Lin.code ((bs s).drop (k + 1))).any foreign) := by
            rw [Hid, HB.out, hcm, List.any_cons, hsp.2, Bool.false_or]
          have HP2 := Lib.hid ((prevp_succ s k hlt).trans hsp.1)
          clear HE HB hcm hsp
          go_wp2_with fail
          go_roundw
          case rel => exact ⟨k + 1, n, cc, A, L, by omega, by omega, by go_num, rfl, hO, by rw [HP2.out]; exact HE2, HB2, by rw [HP2.out]; exact nofun, fun p hp => Nat.le_succ_of_le (HZ.out p hp), hbw⟩
          case measure => simp [intOf]; omega
        | false =>
        cases h9 : ((s[k].toNat : Int) == 9) with
        | true =>
          have hsp : plain s[k] = false ∧ foreign s[k] = false := bytes_space s k hlt (.inr h9)
          have HE2 : Hid (lineWords ln (bs s) = wst ln L false (k + 1) (Lin.code ((bs s).drop (k + 1)))) := by
            rw [Hid, HE.out, hcm, wst_skip _ _ _ _ _ _ hsp.1]
          have HB2 : Hid (bad (bs s) = (Lin.code ((bs s).drop (k + 1))).any foreign) := by
            rw [Hid, HB.out, hcm, List.any_cons, hsp.2, Bool.false_or]
          have HP2 := Lib.hid ((prevp_succ s k hlt).trans hsp.1)
          clear HE HB hcm hsp
          go_wp2_with fail
          go_roundw
          case rel => exact ⟨k + 1, n, cc, A, L, by omega, by omega, by go_num, rfl, hO, by rw [HP2.out]; exact HE2, HB2, by rw [HP2.out]; exact nofun, fun p hp => Nat.le_succ_of_le (HZ.out p hp), hbw⟩
          case measure => simp [intOf]; omega
        | false =>
          have hkd := bytes_other s k hlt h35 h32 h9
          cases hpl : plain s[k] with
          | false =>
            have HB2 : Hid (bad (bs s) = true) := by
              rw [Hid, HB.out, hcm, List.any_cons, hkd, hpl]; rfl
            have HF := Lib.hid (of_bad (ln := ln) HB2.out)
            clear HE HB hcm hkd
            go_wp2_with (go_at_call 93; refine (r_plain _ _).mono ?_; rintro e w' ⟨rfl, rfl⟩; rw [hpl])
            go_ret2
            exact ⟨none, 0, 0, retE HF.out.1.symm, by rw [HF.out.2]; exact Own.nil _ _, hbw⟩
          | true =>
            have HB2 : Hid (bad (bs s) = (Lin.code ((bs s).drop (k + 1))).any foreign) := by
              rw [Hid, HB.out, hcm, List.any_cons, hkd, hpl]; rfl
            have HP2 := Lib.hid ((prevp_succ s k hlt).trans hpl)
            have hl := hO.1
            cases hpp : prevp (bs s) k with
            | true =>
              obtain ⟨j, rfl⟩ : ∃ j, k = j + 1 := ⟨k - 1, by cases k with | zero => cases hpp | succ j => rfl⟩
              rw [prevp_succ s j (by omega)] at hpp
              obtain ⟨M, p, rfl⟩ : ∃ M p, L = M ++ [p] := by
                rcases List.eq_nil_or_concat L with e | ⟨M, p, e⟩
                · exact absurd e (HP.out (by rw [prevp_succ s j (by omega)]; exact hpp))
                · exact ⟨M, p, by rw [e, List.concat_eq_append]⟩
              obtain ⟨q, rfl⟩ : ∃ q, n = q + 1 := ⟨M.length, by simp at hl; exact hl.symm⟩
              obtain ⟨t, x⟩ := p
              have HE2 : Hid (lineWords ln (bs s) = wst ln (M ++ [(t ++ [s[j + 1]], x)]) true (j + 1 + 1) (Lin.code ((bs s).drop (j + 1 + 1)))) := by
                rw [Hid, HE.out, hcm, prevp_succ s j (by omega), hpp, wst, hpl]
                simp only [if_true, addTo_snoc]
              obtain ⟨g, rfl, hg1, hg2, d0, d2⟩ := hO.last
              have HZ2 : Hid (∀ p ∈ M ++ [(t ++ [s[j + 1]], x)], p.1.length ≤ j + 1 + 1) := by
                intro p hp
                rw [List.mem_append] at hp
                rcases hp with hp | hp
                · have := HZ.out p (List.mem_append_left _ hp); omega
                · have h1 := HZ.out (t, x) (List.mem_append_right _ (by simp))
                  simp at hp h1
                  subst hp; simp; exact h1
              have hts : (str t).size ≤ 65536 := by
                have h1 := HZ.out (t, x) (List.mem_append_right _ (by simp))
                simp at h1
                rw [size_str]; omega
              have hcat := cat_str t s (j + 1) hlt
              have hO2 := Lib.hid (hO.put (t ++ [s[j + 1]]))
              obtain ⟨X, hX, hXs⟩ : ∃ X : ByteArray, s.extract (j + 1) (j + 1 + 1) = X ∧ X.size ≤ 1 := ⟨_, rfl, by rw [ByteArray.size_extract]; omega⟩
              rw [hX] at hcat
              simp only at d0
              generalize str t = T0 at *
              obtain ⟨V, hV⟩ : ∃ V : ByteArray, V = str (t ++ [s[j + 1]]) := ⟨_, rfl⟩
              rw [← hV] at hcat
              have hO3 : Hid (Own (wr.setCell ⟨g, q * 3, none⟩ (.string V)) w.heap.size (.slice (some ⟨g, 0, none⟩) (q + 1) cc) (q + 1) (M ++ [(t ++ [s[j + 1]], x)])) := by rw [hV]; exact hO2
              clear HE HB hcm hkd HP hO HZ hO2 hV
              go_wp2_with first
                | (go_at_call 93; refine (r_plain _ _).mono ?_; rintro e w' ⟨rfl, rfl⟩; first | rw [hpl] | rw [hpp])
              have hc0 : (j : Int) + 1 ≤ (j : Int) + 1 + 1 := by omega
              have hc1 : (j : Int) + 1 + 1 ≤ (s.size : Int) := by omega
              have hq : (q : Int) < (q : Int) + 1 := by omega
              have hsum : T0.size + X.size ≤ 9223372036854775807 := by omega
              go_region
              go_wp2
              go_roundw
              case rel => exact ⟨j + 1 + 1, q + 1, cc, _, _, by omega, by omega, by go_num, rfl, hO3.out, by rw [HP2.out]; exact HE2, HB2, fun _ => by simp, HZ2, (Mem.below_draws hbw _).setCell hg1 _⟩
              case measure => simp [intOf]; omega
            | false =>
              have HE2 : Hid (lineWords ln (bs s) = wst ln (L ++ [([s[k]], ln, (k : Int) + 1)]) true (k + 1) (Lin.code ((bs s).drop (k + 1)))) := by
                rw [Hid, HE.out, hcm, hpp, wst, hpl]
                simp only [if_true, Bool.false_eq_true, if_false]
              have hone := one_str s k hlt
              have HZ2 : Hid (∀ p ∈ L ++ [([s[k]], ln, (k : Int) + 1)], p.1.length ≤ k + 1) := by
                intro p hp
                rw [List.mem_append] at hp
                rcases hp with hp | hp
                · have := HZ.out p hp; omega
                · simp at hp; subst hp; simp
              clear HE HB hcm hkd HP HZ
              have hown := hO.2
              cases k with
              | zero =>
                have hc0 : (0 : Int) ≤ 1 := by omega
                have hc1 : (1 : Int) ≤ (s.size : Int) := by omega
                go_wp2_with first
                  | at_builtin; refine wpList_append_own _ rfl (.tmp 63) (.tmp 73) 93 rfl w.heap.size 95 i0 _ 3 32 Tryz.underlying93 hi hz0 hz1 hz2 rfl (by omega) (.slice A n cc) n (cs L) rfl (hown.alloc _) ⟨wr.heap.size, 0, none⟩ 1 1 [.string (str [s[0]]), .int .i64 ln, .int .i64 1] rfl rfl (new_word _ _ _ _ _) (one_word _ _ _) (by unfold maxLen; omega) (by omega) (by simp; omega) ?_
                  | (go_at_call 93; refine (r_plain _ _).mono ?_; rintro e w' ⟨rfl, rfl⟩; rw [hpl])
                intro v w2 hown' hgrow _
                obtain ⟨A', c', rfl, hO', hb'⟩ := appended hbw hz hl hown hown' hgrow
                clear hown hown' hgrow
                go_wp2
                go_roundw
                case rel => exact ⟨1, n + 1, c', A', _, by omega, by omega, by go_num, rfl, hO', by rw [HP2.out]; exact HE2, HB2, fun _ => by simp, HZ2, hb'⟩
                case measure => simp [intOf]; omega
              | succ j =>
                rw [prevp_succ s j (by omega)] at hpp
                have hc0 : (j : Int) + 1 ≤ (j : Int) + 1 + 1 := by omega
                have hc1 : (j : Int) + 1 + 1 ≤ (s.size : Int) := by omega
                go_wp2_with first
                  | at_builtin; refine wpList_append_own _ rfl (.tmp 63) (.tmp 73) 93 rfl w.heap.size 95 i0 _ 3 32 Tryz.underlying93 hi hz0 hz1 hz2 rfl (by omega) (.slice A n cc) n (cs L) rfl (hown.alloc _) ⟨wr.heap.size, 0, none⟩ 1 1 [.string (str [s[j + 1]]), .int .i64 ln, .int .i64 ((j : Int) + 1 + 1)] rfl rfl (new_word _ _ _ _ _) (one_word _ _ _) (by unfold maxLen; omega) (by omega) (by simp; omega) ?_
                  | (go_at_call 93; refine (r_plain _ _).mono ?_; rintro e w' ⟨rfl, rfl⟩; first | rw [hpl] | rw [hpp])
                intro v w2 hown' hgrow _
                obtain ⟨A', c', rfl, hO', hb'⟩ := appended hbw hz hl hown hown' hgrow
                clear hown hown' hgrow
                go_wp2
                go_roundw
                case rel => exact ⟨j + 1 + 1, n + 1, c', A', _, by omega, by omega, by go_num, rfl, hO', by rw [HP2.out]; exact HE2, HB2, fun _ => by simp, HZ2, hb'⟩
                case measure => simp [intOf]; omega
    · have hce := code_end s k hlt
      have HL : Hid (lineWords ln (bs s) = L) := by rw [Hid, HE.out, hce]; rfl
      have HBF : Hid (bad (bs s) = false) := by rw [Hid, HB.out, hce]; rfl
      have hl := hO.1
      clear HE HB hce
      by_cases hfull : 64 < n
      · have HF := Lib.hid (of_full (ln := ln) HBF.out (by rw [HL.out]; omega))
        go_wp2_with fail
        go_ret2
        exact ⟨none, 0, 0, retE HF.out.1.symm, by rw [HF.out.2]; exact Own.nil _ _, hbw⟩
      · have HF := Lib.hid (of_fine (ln := ln) HBF.out (by rw [HL.out]; omega))
        go_wp2_with fail
        go_ret2
        exact ⟨A, n, cc, retE HF.out.1.symm, by rw [HF.out.2, HL.out]; exact hO, hbw⟩

end Go.Proofs.YtnfelcjpjodjhaaGreat.ROne

namespace Go.Proofs.YtnfelcjpjodjhaaGreat.PLines
open Go.ChangeShapes Go.WideShapes Go.ChangeAt Go.RowKit Wd Small Lin Mem Bytes Of
set_option linter.unusedVariables false

theorem info33 : (Tryz.prog.info? 93).map (fun i => (i.zero, i.size, i.bytes)) = some (some (.slice none 0 0), 1, 24) := by kernel_rfl

/-- what a call leaves that answers the lines of a text -/
def LinesPost (l : Bs) (w : World) (e : Ending) (w' : World) : Prop := ∃ A n c, e = .returned (.tuple #[.slice A n c, .int .i64 (linesOf l).2.1, .int .i64 (linesOf l).2.2]) ∧ OwnL w' w.heap.size (.slice A n c) n (linesOf l).1 ∧ Below w.heap.size w w'

theorem new_one (w : World) (v : Value) (e : TypeId) : ∀ (j : Nat) (u : Value), [v][j]? = some u → (w.alloc (.cells #[v] e)).cell? ((⟨w.heap.size, 0, none⟩ : Addr).add j) = some u := by
  intro j u hu
  match j, hu with
  | 0, hu => simp at hu; subst hu; simp [Addr.add]
theorem one_one (A : Option Addr) (n c : Nat) : ∀ u ∈ [Value.slice A n c], u.oneCell' = true := by
  intro u hu
  simp only [List.mem_cons, List.not_mem_nil, or_false] at hu
  subst hu; rfl
/-- behind the append of one line to a list of the call's own -/
theorem appendedL {B cc n : Nat} {w w1 w2 : World} {v : Value} {T : List (List W)} {L : List W} {A A1 : Option Addr} {c1 : Nat} {us : List Value} {o : Obj} (hbw : Below B w w1) (hB : B ≤ w1.heap.size) (hl : T.length = n) (hown : w1.ownsRow B 93 1 (.slice A n cc) n us) (hR : Mem.Rows w1 B us T)
    (hL : Own w1 B (.slice A1 L.length c1) L.length L) (hown' : w2.ownsRow B 93 1 v (n + 1) (us ++ [.slice A1 L.length c1])) (hgrow : (w1.alloc o).grownBy w2 (Value.slice A n cc).ownBlock) :
    ∃ A' c', v = .slice A' (n + 1) c' ∧ OwnL w2 B (.slice A' (n + 1) c') (n + 1) (T ++ [L]) ∧ Below B w w2 := by
  have hk : ∀ u M, Row w1 B u M → Row w2 B u M := fun u M hr => Own.kept (Own.alloc hr o) (hown.alloc o) hgrow
  have h : OwnL w2 B v (n + 1) (T ++ [L]) := ⟨_, by simp [hl], hown', Rows.snoc (hk _ _ hL) (Rows.imp hk hR)⟩
  obtain ⟨A', c', rfl, _⟩ := h.form
  exact ⟨A', c', rfl, h, (hbw.alloc hB _).grown hgrow (by simp; omega) (fun k hk => (hown.lt k hk).1)⟩

/-- what is left of the loop: the rest's length, while there is more -/
def left (r m : Value) : Nat := match m with
  | .bool true => (match r with | .string s => s.size + 1 | _ => 0)
  | _ => 0
theorem left_more (s : ByteArray) : left (.string s) (.bool true) = s.size + 1 := rfl
theorem left_done (s : ByteArray) : left (.string s) (.bool false) = 0 := rfl
theorem left_lt {b t : ByteArray} {f : Bool} (h : f = true → b.size < t.size) : left (.string b) (.bool f) < left (.string t) (.bool true) := by
  rw [left_more]
  cases f with
  | false => rw [left_done]; omega
  | true => rw [left_more]; have := h rfl; omega

end Go.Proofs.YtnfelcjpjodjhaaGreat.PLines

namespace Go.Proofs.YtnfelcjpjodjhaaGreat.RLines
open Go.ChangeShapes Go.WideShapes Go.ChangeAt Go.RowKit Wd Small Lin Mem Bytes Of PLines ROne
set_option linter.unusedVariables false

/-- the end of the line that begins at k -/
def nl (s : ByteArray) (k : Nat) : Nat := k + (((bs s).drop k).takeWhile (· != 10)).length
theorem nl_next (s : ByteArray) (k : Nat) (hk : k < s.size) (h : ((s[k].toNat : Int) == 10) = false) : nl s k = nl s (k + 1) := by
  have h1 : (s[k] != 10) = true := by rw [beq_eq_false_iff_ne] at h; rw [bne_iff_ne]; intro e; apply h; rw [e]; rfl
  unfold nl
  rw [bs_drop s k hk, List.takeWhile_cons, h1]
  simp only [if_true, List.length_cons]; omega
theorem nl_stop (s : ByteArray) (k : Nat) (hk : k < s.size) (h : ((s[k].toNat : Int) == 10) = true) : nl s k = k := by
  have h1 : (s[k] != 10) = false := by
    have : s[k] = 10 := UInt8.toNat_inj.1 (by have := eq_of_beq h; simp; omega)
    simp [this]
  unfold nl
  rw [bs_drop s k hk, List.takeWhile_cons, h1]
  simp
theorem nl_end (s : ByteArray) (k : Nat) (hk : s.size ≤ k) : nl s k = k := by
  unfold nl
  rw [bs_drop_nil s k hk]
  simp
theorem nl_le (s : ByteArray) (k : Nat) (hk : k ≤ s.size) : k ≤ nl s k ∧ nl s k ≤ s.size := by
  unfold nl
  have h1 : (((bs s).drop k).takeWhile (· != 10)).length ≤ ((bs s).drop k).length := List.Sublist.length_le (List.takeWhile_sublist _)
  rw [List.length_drop, bs_length] at h1
  omega
theorem contains_iff : ∀ l : Bs, l.contains 10 = decide ((l.takeWhile (· != 10)).length < l.length)
  | [] => by simp
  | b :: r => by
    have ih := contains_iff r
    by_cases hb : b = 10
    · subst hb; simp
    · have h2 : (b != 10) = true := by simpa using hb
      have h3 : ((10 : UInt8) == b) = false := by simpa using fun e : 10 = b => hb e.symm
      rw [List.takeWhile_cons, List.contains_cons, h2, h3, Bool.false_or, ih]
      simp only [if_true, List.length_cons]
      congr 1
      simp
theorem line_step (s : ByteArray) (k : Nat) (hk : k ≤ s.size) : split ((bs s).drop k) = bs (s.extract k (nl s k)) :: (if nl s k < s.size then split ((bs s).drop (nl s k + 1)) else []) := by
  rw [split_eq]
  have h := List.takeWhile_append_dropWhile (p := (· != 10)) (l := (bs s).drop k)
  have h1 : bs (s.extract k (nl s k)) = ((bs s).drop k).takeWhile (· != 10) := by
    rw [bs_extract]
    unfold nl
    rw [Nat.add_sub_cancel_left]
    conv => lhs; arg 2; rw [← h]
    exact List.take_left
  have h2 : (bs s).drop (nl s k + 1) = (((bs s).drop k).dropWhile (· != 10)).drop 1 := by
    unfold nl
    rw [← List.drop_drop, ← List.drop_drop]
    conv => lhs; arg 2; arg 2; rw [← h]
    rw [List.drop_left]
  have h3 : ((bs s).drop k).contains 10 = decide (nl s k < s.size) := by
    rw [contains_iff]
    unfold nl
    rw [List.length_drop, bs_length]
    congr 1
    rw [eq_iff_iff]
    omega
  rw [h1, h2, h3]
  simp only [decide_eq_true_eq]
theorem go_rest (s : ByteArray) (T : List (List W)) (q : Int) (z : Nat) : go T q (if z < s.size then split ((bs s).drop (z + 1)) else []) = go T q (split ((bs s).drop (z + 1))) := by
  by_cases h : z < s.size
  · rw [if_pos h]
  · rw [if_neg h, bs_drop_nil s (z + 1) (by omega)]
    exact (go_empty T q).symm
theorem go_done (s : ByteArray) (T : List (List W)) (q : Int) (k : Nat) (h : s.size ≤ k) : go T q (split ((bs s).drop k)) = (T, 0, 0) := by
  rw [bs_drop_nil s k h]; exact go_empty T q

set_option maxRecDepth 100000 in
set_option maxHeartbeats 1000000 in
theorem r_lines (s : ByteArray) (w : World) (hs : s.size ≤ 9223372036854775807) : Calls Tryz.prog 42 #[.string s] w (LinesPost (bs s) w) := by
  obtain ⟨i0, hi, hz0, hz1, hz2⟩ := info_parts info33
  by_cases hbig : 65536 < s.size
  · have HB : Hid (linesOf (bs s) = ([], 0, 7)) := by rw [Hid, linesOf, bs_length, if_pos hbig]
    go_enter Tryz.func42, Tryz.ntmps42
    go_wp2_with fail
    go_ret3
    exact ⟨none, 0, 0, by rw [HB.out]; rfl, by rw [HB.out]; exact OwnL.nil _ _, Below.refl _ _⟩
  · have HS : Hid (linesOf (bs s) = go [] 1 (split (bs s))) := by rw [Hid, linesOf, bs_length, if_neg hbig]
    go_enter Tryz.func42, Tryz.ntmps42
    go_wp2_with fail
    go_loopw [5, 6, 7] (fun o x y wr => ∃ (k q n cc : Nat) (A : Option Addr) (T : List (List W)), k ≤ s.size + 1 ∧ 1 ≤ q ∧ q ≤ k + 1 ∧ n < q ∧ x = .int .i64 q ∧ y = .int .i64 k ∧ o = .slice A n cc ∧ OwnL wr w.heap.size (.slice A n cc) n T ∧ Hid (linesOf (bs s) = go T q (split ((bs s).drop k))) ∧ Below w.heap.size w wr) (fun _ _ y _ => s.size + 1 - (intOf y).toNat)
    case atStart => exact ⟨0, 1, 0, 0, none, [], by omega, by omega, by omega, by omega, rfl, rfl, rfl, OwnL.nil _ _, HS, Below.refl _ _⟩
    case round =>
      obtain ⟨k, q, n, cc, A, T, hk, hq1, hq, hnq, rfl, rfl, rfl, hO, HE, hbw⟩ := hrel
      clear HS
      have hz := hbw.size
      by_cases hlt : k < s.size
      · go_wp2_with fail
        go_loopw [8] (fun y wx => ∃ (j : Nat), k ≤ j ∧ j ≤ s.size ∧ y = .int .i64 j ∧ Hid (nl s k = nl s j) ∧ wr = wx) (fun y _ => s.size - (intOf y).toNat)
        case atStart => exact ⟨k, by omega, by omega, rfl, rfl, rfl⟩
        case round =>
          obtain ⟨j, hkj, hj, rfl, HN, rfl⟩ := hrel
          by_cases hlj : j < s.size
          · cases h10 : ((s[j].toNat : Int) == 10) with
            | false =>
              have HN2 := Lib.hid (HN.out.trans (nl_next s j hlj h10))
              clear HN
              go_wp2_with fail
              go_roundw
              case rel => exact ⟨j + 1, by omega, by omega, by go_num, HN2, by trivial⟩
              case measure => simp [intOf]; omega
            | true =>
              have HN2 := Lib.hid (HN.out.trans (nl_stop s j hlj h10))
              clear HN
              have hcj : (k : Int) ≤ j := by omega
              have hcs : (j : Int) ≤ (s.size : Int) := by omega
              have HS2 : Hid (linesOf (bs s) = go T q (bs (s.extract k j) :: (if j < s.size then split ((bs s).drop (j + 1)) else []))) := by
                have h1 := line_step s k (by omega)
                rw [HN2.out] at h1
                rw [Hid, HE.out, h1]
              obtain ⟨a, ha, za⟩ : ∃ a : ByteArray, s.extract k j = a ∧ a.size ≤ 65536 := ⟨_, rfl, by rw [ByteArray.size_extract]; omega⟩
              rw [ha] at HS2
              clear HN2 HE
              go_wp2_with fail
              refine (one_any a q _ za (by omega) (by omega)).mono ?_
              rintro e w2 ⟨A1, n1, c1, rfl, hO2, hb2⟩
              have hO3 := hO.below hb2 (Nat.le_refl _)
              have hO4 := hO2.base_ hz
              have hbw2 := hbw.trans (hb2.mono hz)
              have hz2' := hbw2.size
              clear hO hO2 hb2
              by_cases he : lineErr q (bs a) = 0
              · have HE3 : Hid (linesOf (bs s) = go (if (lineWords q (bs a)).length = 0 then T else T ++ [lineWords q (bs a)]) (q + 1) (split ((bs s).drop (j + 1)))) := by
                  rw [Hid, HS2.out, ← go_rest]; simp only [go, he, if_true]
                have hwd : lineOut q (bs a) = lineWords q (bs a) := by simp [lineOut, he]
                rw [hwd] at hO4
                have hlen := hO4.1
                rw [he]
                clear HS2 he hwd
                by_cases hn1 : n1 = 0
                · rw [hn1] at hlen
                  rw [if_pos hlen] at HE3
                  go_wp2_with fail
                  go_roundw
                  case rel => exact ⟨j + 1, q + 1, n, cc, A, T, by omega, by omega, by omega, by omega, by go_num, by go_num, rfl, hO3, HE3, hbw2⟩
                  case measure => simp [intOf]; omega
                · rw [if_neg (by omega)] at HE3
                  generalize lineWords q (bs a) = L at *
                  subst hlen
                  obtain ⟨us, hl, hown, hR⟩ := hO3
                  go_wp2_with (at_builtin; refine wpList_append_own _ rfl (.tmp 49) (.tmp 51) 88 rfl w.heap.size 93 i0 _ 1 24 Tryz.underlying88 hi hz0 hz1 hz2 rfl (by omega) (.slice A n cc) n us rfl (hown.alloc _) ⟨w2.heap.size, 0, none⟩ 1 1 [.slice A1 L.length c1] rfl rfl (new_one _ _ _) (one_one _ _ _) (by unfold maxLen; omega) (by omega) (by simp; omega) ?_)
                  intro v w3 hown' hgrow _
                  obtain ⟨A', c', rfl, hO', hb'⟩ := appendedL hbw2 hz2' hl hown hR hO4 hown' hgrow
                  clear hown hown' hgrow hR hO4
                  go_wp2
                  go_roundw
                  case rel => exact ⟨j + 1, q + 1, n + 1, c', A', _, by omega, by omega, by omega, by omega, by go_num, by go_num, rfl, hO', HE3, hb'⟩
                  case measure => simp [intOf]; omega
              · have HE3 : Hid (linesOf (bs s) = ([], (q : Int), lineErr q (bs a))) := by
                  rw [Hid, HS2.out]; simp only [go, he, if_false]
                have hne : (lineErr q (bs a) == 0) = false := by rw [beq_eq_false_iff_ne]; exact he
                have hne2 : (lineErr q (bs a) != 0) = true := by rw [bne_iff_ne]; exact he
                clear HS2 he
                go_wp2_with fail
                go_ret3
                exact ⟨none, 0, 0, by rw [HE3.out]; rfl, by rw [HE3.out]; exact OwnL.nil _ _, hbw2⟩
          · have HN2 := Lib.hid (HN.out.trans (nl_end s j (by omega)))
            clear HN
            have hcj : (k : Int) ≤ j := by omega
            have hcs : (j : Int) ≤ (s.size : Int) := by omega
            have HS2 : Hid (linesOf (bs s) = go T q (bs (s.extract k j) :: (if j < s.size then split ((bs s).drop (j + 1)) else []))) := by
              have h1 := line_step s k (by omega)
              rw [HN2.out] at h1
              rw [Hid, HE.out, h1]
            obtain ⟨a, ha, za⟩ : ∃ a : ByteArray, s.extract k j = a ∧ a.size ≤ 65536 := ⟨_, rfl, by rw [ByteArray.size_extract]; omega⟩
            rw [ha] at HS2
            clear HN2 HE
            go_wp2_with fail
            refine (one_any a q _ za (by omega) (by omega)).mono ?_
            rintro e w2 ⟨A1, n1, c1, rfl, hO2, hb2⟩
            have hO3 := hO.below hb2 (Nat.le_refl _)
            have hO4 := hO2.base_ hz
            have hbw2 := hbw.trans (hb2.mono hz)
            have hz2' := hbw2.size
            clear hO hO2 hb2
            by_cases he : lineErr q (bs a) = 0
            · have HE3 : Hid (linesOf (bs s) = go (if (lineWords q (bs a)).length = 0 then T else T ++ [lineWords q (bs a)]) (q + 1) (split ((bs s).drop (j + 1)))) := by
                rw [Hid, HS2.out, ← go_rest]; simp only [go, he, if_true]
              have hwd : lineOut q (bs a) = lineWords q (bs a) := by simp [lineOut, he]
              rw [hwd] at hO4
              have hlen := hO4.1
              rw [he]
              clear HS2 he hwd
              by_cases hn1 : n1 = 0
              · rw [hn1] at hlen
                rw [if_pos hlen] at HE3
                go_wp2_with fail
                go_roundw
                case rel => exact ⟨j + 1, q + 1, n, cc, A, T, by omega, by omega, by omega, by omega, by go_num, by go_num, rfl, hO3, HE3, hbw2⟩
                case measure => simp [intOf]; omega
              · rw [if_neg (by omega)] at HE3
                generalize lineWords q (bs a) = L at *
                subst hlen
                obtain ⟨us, hl, hown, hR⟩ := hO3
                go_wp2_with (at_builtin; refine wpList_append_own _ rfl (.tmp 49) (.tmp 51) 88 rfl w.heap.size 93 i0 _ 1 24 Tryz.underlying88 hi hz0 hz1 hz2 rfl (by omega) (.slice A n cc) n us rfl (hown.alloc _) ⟨w2.heap.size, 0, none⟩ 1 1 [.slice A1 L.length c1] rfl rfl (new_one _ _ _) (one_one _ _ _) (by unfold maxLen; omega) (by omega) (by simp; omega) ?_)
                intro v w3 hown' hgrow _
                obtain ⟨A', c', rfl, hO', hb'⟩ := appendedL hbw2 hz2' hl hown hR hO4 hown' hgrow
                clear hown hown' hgrow hR hO4
                go_wp2
                go_roundw
                case rel => exact ⟨j + 1, q + 1, n + 1, c', A', _, by omega, by omega, by omega, by omega, by go_num, by go_num, rfl, hO', HE3, hb'⟩
                case measure => simp [intOf]; omega
            · have HE3 : Hid (linesOf (bs s) = ([], (q : Int), lineErr q (bs a))) := by
                rw [Hid, HS2.out]; simp only [go, he, if_false]
              have hne : (lineErr q (bs a) == 0) = false := by rw [beq_eq_false_iff_ne]; exact he
              have hne2 : (lineErr q (bs a) != 0) = true := by rw [bne_iff_ne]; exact he
              clear HS2 he
              go_wp2_with fail
              go_ret3
              exact ⟨none, 0, 0, by rw [HE3.out]; rfl, by rw [HE3.out]; exact OwnL.nil _ _, hbw2⟩
      · have HF := Lib.hid (HE.out.trans (go_done s T q k (by omega)))
        clear HE
        go_wp2_with fail
        go_ret3
        exact ⟨A, n, cc, by rw [HF.out]; rfl, by rw [HF.out]; exact hO, hbw⟩

end Go.Proofs.YtnfelcjpjodjhaaGreat.RLines
