/-
  Contract of the program's function that divides a line into words.
-/
import Derived.Test.YtkfobijgjdgbgaaDoorBytes
import Derived.Test.YtkfobijgjdgbgaaDoorMem
import Derived.Test.YtkfobijgjdgbgaaDoorShelf
namespace Go.Proofs.YtkfobijgjdgbgaaDoor.Of
open Go.ChangeShapes Go.WideShapes Go.ChangeAt Go.RowKit Wd Small Lin Mem Bytes
set_option linter.unusedVariables false

theorem info32 : (Tryd.prog.info? 74).map (fun i => (i.zero, i.size, i.bytes)) = some (some (.agg #[.string ByteArray.empty, .int .i64 0, .int .i64 0]), 3, 32) := by kernel_rfl

theorem mem_code (l : Bs) (b : UInt8) (h : b ∈ Lin.code l) : b ≠ 35 := by
  have h1 : (l.takeWhile (· != 35)).all (· != 35) = true := List.all_takeWhile
  have := List.all_eq_true.1 h1 b h
  simpa using this
/-- a byte of a line's code, where no byte is foreign -/
theorem kind (l : Bs) (c : ByteArray) (hc : bs c = Lin.code l) (hf : (bs c).any foreign = false) (k : Nat) (hk : k < c.size) : plain c[k] = !space c[k] := by
  have hm : c[k] ∈ bs c := by
    have := bs_get c k hk
    exact List.mem_of_getElem? this
  have h1 : foreign c[k] = false := by
    rw [List.any_eq_false] at hf
    simpa using hf _ hm
  have h2 : c[k] ≠ 35 := mem_code l _ (hc ▸ hm)
  have h3 : c[k].toNat ≠ 35 := fun e => h2 (UInt8.toNat_inj.1 e)
  generalize c[k] = b at *
  simp [foreign, h3] at h1
  cases hp : plain b with
  | true => simp [plain, space] at hp ⊢; omega
  | false => simp [hp] at h1; simp [h1]
theorem word_text (c : ByteArray) (k : Nat) : bs (c.extract k (endOf c k)) = ((bs c).drop k).takeWhile plain := by
  rw [bs_extract]
  unfold endOf
  rw [Nat.add_sub_cancel_left]
  have h := List.takeWhile_append_dropWhile (p := plain) (l := (bs c).drop k)
  conv => lhs; arg 2; rw [← h]
  exact List.take_left
theorem word_step (ln : Int) (c : ByteArray) (k : Nat) (L : List W) (hk : k < c.size) (hp : plain c[k] = true) :
    wst ln L false k ((bs c).drop k) = wst ln (L ++ [(bs (c.extract k (endOf c k)), ln, (k : Int) + 1)]) false (endOf c k) ((bs c).drop (endOf c k)) := by
  have h := List.takeWhile_append_dropWhile (p := plain) (l := (bs c).drop k)
  have hd : (bs c).drop (endOf c k) = ((bs c).drop k).dropWhile plain := by
    unfold endOf
    rw [← List.drop_drop]
    conv => lhs; arg 2; rw [← h]
    exact List.drop_left
  rw [word_text, hd]
  have hh : ∀ b, (((bs c).drop k).dropWhile plain).head? = some b → plain b = false := by
    intro b hb
    have := List.head?_dropWhile_not plain ((bs c).drop k)
    rw [hb] at this
    simpa using this
  conv => lhs; rw [← h]
  have htw := tw_next c k hk
  rw [hp] at htw
  simp only [if_true] at htw
  have hall : (((bs c).drop k).takeWhile plain).all plain = true := List.all_takeWhile
  unfold endOf
  rw [htw] at hall ⊢
  exact wst_word ln _ _ _ L k hall hh

/-- what the call leaves -/
def OfPost (ln : Int) (l : Bs) (w : World) (e : Ending) (w' : World) : Prop := ∃ A n c, e = .returned (.tuple #[.slice A n c, .int .i64 (lineErr ln l)]) ∧ Own w' w.heap.size (.slice A n c) n (lineOut ln l) ∧ Below w.heap.size w w'

theorem of_bad {ln : Int} {l : Bs} (h : bad l = true) : lineErr ln l = 2 ∧ lineOut ln l = [] := by simp [lineErr, lineOut, h]
theorem of_full {ln : Int} {l : Bs} (h : bad l = false) (h2 : 64 < (lineWords ln l).length) : lineErr ln l = 7 ∧ lineOut ln l = [] := by simp [lineErr, lineOut, h, h2]
theorem of_fine {ln : Int} {l : Bs} (h : bad l = false) (h2 : (lineWords ln l).length ≤ 64) : lineErr ln l = 0 ∧ lineOut ln l = lineWords ln l := by
  have : ¬ 64 < (lineWords ln l).length := by omega
  simp [lineErr, lineOut, h, this]

theorem retE {v : Value} {a b : Int} (h : a = b) : Ending.returned (.tuple #[v, .int .i64 a]) = Ending.returned (.tuple #[v, .int .i64 b]) := by rw [h]

theorem p_clone (s : ByteArray) (w : World) (hs : s.size ≤ 65536) : Calls Tryd.prog 90 #[.string s] w fun e w' => e = .returned (.string s) ∧ Below w.heap.size w w' := by
  go_enter Tryd.func90, Tryd.ntmps90
  go_wp2_with (go_at_call 102; refine (Tryd.stringslite_Clone _ _ (by omega)).mono ?_; rintro e w' ⟨rfl, hb⟩)
  go_ret
  exact ⟨rfl, hb⟩

set_option maxHeartbeats 1000000 in
theorem of_any (s : ByteArray) (ln : Int) (m : Int) (w : World) (hs : s.size ≤ 65536) (hln : 1 ≤ ln) (hln2 : ln ≤ 100000) (hm : w.cell? ⟨0, 0, none⟩ = some (.int .i64 m)) :
    Calls Tryd.prog 68 #[.string s, .int .i64 ln] w (OfPost ln (bs s) w) := by
  obtain ⟨i0, hi, hz0, hz1, hz2⟩ := info_parts info32
  have h0 : 0 < w.heap.size := World.block_lt_of_cell? w _ hm
  have hcut := cut_one 35 (bs s)
  obtain ⟨c, hc, c1, c2⟩ : ∃ c : ByteArray, (⟨(Lib.cut s.data.toList [35]).1.toArray⟩ : ByteArray) = c ∧ bs c = Lin.code (bs s) ∧ c.size ≤ 65536 := by
    have e : bs (⟨(Lib.cut s.data.toList [35]).1.toArray⟩ : ByteArray) = Lin.code (bs s) := by
      show (Lib.cut (bs s) [35]).1 = _
      rw [hcut]; rfl
    refine ⟨_, rfl, e, ?_⟩
    rw [← bs_length, e]
    have : (Lin.code (bs s)).length ≤ (bs s).length := List.Sublist.length_le (List.takeWhile_sublist _)
    rw [bs_length] at this; omega
  clear hcut
  have hbad : Hid (bad (bs s) = (bs c).any foreign) := by rw [Hid, bad, c1]
  cases hf : (bs c).any foreign with
  | true =>
    have HB := Lib.hid (of_bad (ln := ln) (hbad.out.trans hf))
    go_enter Tryd.func68, Tryd.ntmps68
    go_wp2_with first
      | (go_at_call 67; refine (Tryd.strings_Cut _ _ m _ (by omega) hm).mono ?_; rintro e w' ⟨rfl, n, rfl⟩; rw [hc])
      | (go_at_call 87; refine (p_foreign _ _ (by omega)).mono ?_; rintro e w' ⟨rfl, rfl⟩; rw [hf])
    go_ret2
    exact ⟨none, 0, 0, retE HB.out.1.symm, by rw [HB.out.2]; exact Own.nil _ _, Mem.below_draws (Below.refl _ _) _⟩
  | false =>
    have HB := Lib.hid (hbad.out.trans hf)
    have HK := Lib.hid (kind (bs s) c c1 hf)
    have HW : Hid (lineWords ln (bs s) = wst ln [] false 0 ((bs c).drop 0)) := by rw [Hid, lineWords, ← c1, List.drop_zero]
    clear c1 hbad
    go_enter Tryd.func68, Tryd.ntmps68
    go_wp2_with first
      | (go_at_call 67; refine (Tryd.strings_Cut _ _ m _ (by omega) hm).mono ?_; rintro e w' ⟨rfl, n, rfl⟩; rw [hc])
      | (go_at_call 87; refine (p_foreign _ _ (by omega)).mono ?_; rintro e w' ⟨rfl, rfl⟩; rw [hf])
    clear hc hf hm
    go_loopw [9, 10] (fun o x wr => ∃ (k n cc : Nat) (A : Option Addr) (L : List W), k ≤ c.size ∧ n ≤ 64 ∧ x = .int .i64 k ∧ o = .slice A n cc ∧ Own wr w.heap.size (.slice A n cc) n L ∧ Hid (lineWords ln (bs s) = wst ln L false k ((bs c).drop k)) ∧ Below w.heap.size w wr) (fun _ x _ => c.size - (intOf x).toNat)
    case atStart => exact ⟨0, 0, 0, none, [], by omega, by omega, rfl, rfl, Own.nil _ _, HW, Mem.below_draws (Below.refl _ _) _⟩
    case round =>
      obtain ⟨k, n, cc, A, L, hk, hn, rfl, rfl, hO, HE, hbw⟩ := hrel
      clear HW
      have hz := hbw.size
      by_cases hlt : k < c.size
      · have hkind := HK.out k hlt
        have hc1 := cls_space c[k]
        cases hsp : space c[k] with
        | true =>
          rw [hsp] at hkind hc1
          have HE2 : Hid (lineWords ln (bs s) = wst ln L false (k + 1) ((bs c).drop (k + 1))) := by
            have := HE.out
            rw [bs_drop c k hlt, wst_skip _ _ _ _ _ _ (by simpa using hkind)] at this
            exact this
          clear HE hkind hsp
          go_wp2_with (go_at_call 88; refine (p_class _ _).mono ?_; rintro e w' ⟨rfl, rfl⟩)
          go_roundw
          case rel => exact ⟨k + 1, n, cc, A, L, by omega, hn, by go_num, rfl, hO, HE2, hbw⟩
          case measure => simp [intOf]; omega
        | false =>
          rw [hsp] at hkind hc1
          have hpl : plain c[k] = true := by simpa using hkind
          have HG : Hid (L.length + 1 ≤ (lineWords ln (bs s)).length) := by
            have := HE.out
            rw [bs_drop c k hlt] at this
            rw [Hid, this]
            exact wst_grow ln _ _ L k hpl
          have HE2 := Lib.hid (HE.out.trans (word_step ln c k L hlt hpl))
          have hend := end_le c k (by omega)
          have hend2 : k < endOf c k := by
            rw [end_next c k hlt hpl]
            have := end_le c (k + 1) (by omega)
            omega
          have hl := hO.1
          clear HE hkind hsp hpl
          by_cases hfull : n = 64
          · have HF := Lib.hid (of_full (ln := ln) HB.out (by have := HG.out; omega))
            subst hfull
            go_wp2_with (go_at_call 88; refine (p_class _ _).mono ?_; rintro e w' ⟨rfl, rfl⟩)
            go_ret2
            exact ⟨none, 0, 0, retE HF.out.1.symm, by rw [HF.out.2]; exact Own.nil _ _, hbw⟩
          · have hne : ((n : Int) == 64) = false := by rw [beq_eq_false_iff_ne]; omega
            clear HG
            generalize hzz : endOf c k = z at *
            obtain ⟨t, ht, HT⟩ : ∃ t : ByteArray, c.extract k z = t ∧ Hid (lineWords ln (bs s) = wst ln (L ++ [(bs t, ln, (k : Int) + 1)]) false z ((bs c).drop z)) := ⟨_, rfl, HE2⟩
            have hts : t.size ≤ 65536 := by rw [← ht, ByteArray.size_extract]; omega
            clear HE2
            have hsl : (k : Int) ≤ z := by omega
            go_wp2_with first
              | (go_at_call 88; refine (p_class _ _).mono ?_; rintro e w' ⟨rfl, rfl⟩)
              | (go_at_call 89; refine (p_end c k _ (by omega) hk).mono ?_; rintro e w' ⟨rfl, rfl⟩; rw [hzz])
            refine (p_clone t _ hts).mono ?_
            rintro e w1 ⟨rfl, hb1⟩
            have hO1 := hO.below hb1 (Nat.le_refl _)
            have hbw1 : Below w.heap.size w w1 := hbw.trans (hb1.mono hz)
            have hz1' := hbw1.size
            have hown := hO1.2
            clear hO
            go_wp2_with (at_builtin; refine wpList_append_own _ rfl (.tmp 43) (.tmp 49) 71 rfl w.heap.size 74 i0 _ 3 32 Tryd.underlying71 hi hz0 hz1 hz2 rfl (by omega) (.slice A n cc) n (cs L) rfl (hown.alloc _) ⟨w1.heap.size, 0, none⟩ 1 1 [.string t, .int .i64 ln, .int .i64 ((k : Int) + 1)] rfl rfl (new_word _ _ _ _ _) (one_word _ _ _) (by unfold maxLen; omega) (by omega) (by simp; omega) ?_)
            intro v w2 hown' hgrow _
            obtain ⟨A', c', rfl, hO', hb'⟩ := appended (t := bs t) hbw1 hz1' hl hown (by rw [str_bs]; exact hown') hgrow
            clear hown hown' hgrow
            go_wp2
            go_roundw
            case rel => exact ⟨z, n + 1, c', A', _, by omega, by omega, rfl, rfl, hO', HT, hb'⟩
            case measure => simp [intOf]; omega
      · have HL : Hid (lineWords ln (bs s) = L) := by
          have := HE.out
          rw [bs_drop_nil c k (by omega)] at this
          exact this
        have HF := Lib.hid (of_fine (ln := ln) HB.out (by rw [HL.out]; have := hO.1; omega))
        clear HE
        go_wp2_with fail
        go_ret2
        exact ⟨A, n, cc, retE HF.out.1.symm, by rw [HF.out.2, HL.out]; exact hO, hbw⟩

end Go.Proofs.YtkfobijgjdgbgaaDoor.Of
