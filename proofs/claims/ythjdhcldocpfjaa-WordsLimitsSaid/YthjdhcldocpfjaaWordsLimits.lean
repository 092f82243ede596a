/-
  It is proved that railplanlaw3.WordsLimits returns true and changes nothing. Conditions: none.
-/
import Derived.Test.YthjdhcldocpfjaaFrame
import Derived.Test.YthjdhcldocpfjaaDec
import Derived.ProofKit
import Derived.OpenShut
namespace Go.Proofs.Ythjdhcldocpfjaa.wordsLimits
open Go.ChangeShapes Go.WideShapes Go.ChangeAt Go.ChangeMaps Go.RowKit Wd Mem Aids
set_option linter.unusedVariables false

theorem own : ownKnob Try.prog.godebug = none := by kernel_rfl

open Lin
/-- n words of one letter -/
def rep : Nat → Bs
  | 0 => []
  | n + 1 => 119 :: 32 :: rep n
def nls : Nat → Bs
  | 0 => []
  | n + 1 => 10 :: nls n
theorem rep_snoc : ∀ n, rep n ++ [119, 32] = rep (n + 1)
  | 0 => rfl
  | n + 1 => by simp only [rep, List.cons_append, rep_snoc n]
theorem nls_snoc : ∀ n, nls n ++ [10] = nls (n + 1)
  | 0 => rfl
  | n + 1 => by simp only [nls, List.cons_append, nls_snoc n]
theorem rep_len : ∀ n, (rep n).length = 2 * n
  | 0 => rfl
  | n + 1 => by simp only [rep, List.length_cons, rep_len n]; omega
theorem nls_len : ∀ n, (nls n).length = n
  | 0 => rfl
  | n + 1 => by simp only [nls, List.length_cons, nls_len n]
theorem rep_mem : ∀ n, ∀ b ∈ rep n, b = 119 ∨ b = 32
  | 0, b, h => by simp [rep] at h
  | n + 1, b, h => by
    simp only [rep, List.mem_cons] at h
    rcases h with h | h | h
    · exact .inl h
    · exact .inr h
    · exact rep_mem n b h
theorem tw_all {p : UInt8 → Bool} : ∀ l : Bs, (∀ b ∈ l, p b = true) → l.takeWhile p = l
  | [], _ => rfl
  | b :: l, h => by rw [List.takeWhile_cons, h b List.mem_cons_self, if_pos rfl, tw_all l (fun c hc => h c (List.mem_cons_of_mem _ hc))]
theorem rep_code (n : Nat) : code (rep n) = rep n := by
  refine tw_all _ fun b hb => ?_
  rcases rep_mem n b hb with rfl | rfl <;> decide
theorem rep_bad (n : Nat) : bad (rep n) = false := by
  unfold bad
  rw [rep_code, List.any_eq_false]
  intro b hb
  rcases rep_mem n b hb with rfl | rfl <;> decide
theorem rep_wst (ln : Int) : ∀ n L k, (wst ln L false k (rep n)).length = L.length + n
  | 0, L, k => rfl
  | n + 1, L, k => by
    have h1 : plain 119 = true := by decide
    have h2 : plain 32 = false := by decide
    simp only [rep, wst, h1, h2, if_true, Bool.false_eq_true, if_false]
    rw [rep_wst ln n]
    simp; omega
theorem rep_words (ln : Int) (n : Nat) : (lineWords ln (rep n)).length = n := by
  unfold lineWords
  rw [rep_code, rep_wst]
  simp
theorem split_line : ∀ (l r : Bs), (∀ b ∈ l, b ≠ 10) → split (l ++ 10 :: r) = l :: split r
  | [], r, _ => by simp [split]
  | b :: l, r, h => by
    have ih := split_line l r (fun c hc => h c (List.mem_cons_of_mem _ hc))
    have hb : (b == 10) = false := by rw [beq_eq_false_iff_ne]; exact h b List.mem_cons_self
    simp only [List.cons_append]
    conv => lhs; unfold split
    rw [hb, ih]
    rfl
theorem split_last : ∀ (l : Bs), (∀ b ∈ l, b ≠ 10) → split l = [l]
  | [], _ => by simp [split]
  | b :: l, h => by
    have ih := split_last l (fun c hc => h c (List.mem_cons_of_mem _ hc))
    have hb : (b == 10) = false := by rw [beq_eq_false_iff_ne]; exact h b List.mem_cons_self
    conv => lhs; unfold split
    rw [hb, ih]
    rfl
theorem go_nls (T : List (List W)) : ∀ k q r, go T q (split (nls k ++ r)) = go T (q + k) (split r)
  | 0, q, r => by simp [nls]
  | k + 1, q, r => by
    have h1 : split (nls (k + 1) ++ r) = [] :: split (nls k ++ r) := by simp [nls, split]
    have h2 : lineErr q [] = 0 := by simp [lineErr, bad, code, lineWords, wst]
    have h3 : (lineWords q []).length = 0 := by simp [lineWords, code, wst]
    rw [h1]
    simp only [go, h2, h3, if_true]
    rw [go_nls T k (q + 1) r]
    congr 1
    omega
theorem no_nl (n : Nat) : ∀ b ∈ rep n, b ≠ 10 := fun b hb => by rcases rep_mem n b hb with rfl | rfl <;> decide
theorem over_limit (k n : Nat) (r : Bs) (hn : 64 < n) (hl : (nls k ++ (rep n ++ 10 :: r)).length ≤ 65536) : linesOf (nls k ++ (rep n ++ 10 :: r)) = (([] : List (List W)), (1 : Int) + k, (7 : Int)) := by
  unfold linesOf
  rw [if_neg (by omega), go_nls, split_line _ _ (no_nl n)]
  have h1 : lineErr (1 + k) (rep n) = 7 := by unfold lineErr; rw [rep_bad, rep_words]; simp; omega
  simp only [go, h1]
  rfl
theorem in_limit (k n : Nat) (hn : n ≤ 64) (hl : (nls k ++ rep n).length ≤ 65536) : linesOf (nls k ++ rep n) = ((if n = 0 then [] else [lineWords (1 + k) (rep n)]), 0, 0) := by
  unfold linesOf
  rw [if_neg (by omega), go_nls, split_last _ (no_nl n)]
  have h1 : lineErr (1 + k) (rep n) = 0 := by unfold lineErr; rw [rep_bad, rep_words]; simp; omega
  simp only [go, h1, rep_words, if_true, List.nil_append]
set_option maxHeartbeats 1600000 in
theorem walk (a0 : Int) (w0 : (Lit.int .i64 a0).wf = true) (a1 : Int) (w1 : (Lit.int .u8 a1).wf = true) (s2 : ByteArray) (z2 : s2.size ≤ 9223372036854775807) (w : World)  (m : Int) (hm : w.cell? ⟨0, 0, none⟩ = some (.int .i64 m)) :
    Calls Try.prog 9 #[.int .i64 a0, .int .u8 a1, .string s2] w (Yes w) := by
  have b0 := bounds_i64 w0
  have b1 := Frame.bounds_u8 w1
  have ht : a1.tmod 5 = a1 % 5 := Int.tmod_eq_emod_of_nonneg b1.1
  obtain ⟨k, hk, hk5⟩ : ∃ k : Nat, a1 % 5 = k ∧ k < 5 := ⟨(a1 % 5).toNat, by omega, by omega⟩
  rw [hk] at ht
  go_enter Try.func9, Try.ntmps9
  go_wp2_with fail
  refine (Dec.pick_any a0 68 _ (by omega) (by omega) (by omega) (by omega)).mono ?_
  rintro e w' ⟨rfl, rfl⟩
  have r0 := Dec.pick_range a0 68 (by omega)
  generalize Dec.pick a0 68 = x at *
  obtain ⟨n, rfl⟩ : ∃ n : Nat, x = n := ⟨x.toNat, by omega⟩
  go_wp2_with fail
  have nl1 : (ByteArray.mk #[10]).size = 1 := rfl
  have wd2 : (ByteArray.mk #[119, 32]).size = 2 := rfl
  go_loopw [7, 8] (fun x i wr => ∃ j : Nat, j ≤ k ∧ i = .int .i64 j ∧ x = .string (str (nls j)) ∧ w = wr) (fun _ i _ => k - (intOf i).toNat)
  case atStart => exact ⟨0, by omega, rfl, rfl, rfl⟩
  case round =>
    obtain ⟨j, hj, rfl, rfl, rfl⟩ := hrel
    have zs : (str (nls j)).size = j := by rw [size_str, nls_len]
    by_cases hlt : j < k
    · have hcat : str (nls j) ++ ⟨#[10]⟩ = str (nls (j + 1)) := bs_ext (by rw [bs_append, bs_str, bs_str, ← nls_snoc]; rfl)
      have hsum : (str (nls j)).size + (ByteArray.mk #[10]).size ≤ 9223372036854775807 := by omega
      go_wp2_with fail
      go_roundw
      case rel => exact ⟨j + 1, by omega, by go_num, rfl, by trivial⟩
      case measure => simp [intOf]; omega
    · obtain rfl : j = k := by omega
      go_wp2_with fail
      go_loopw [7, 9] (fun x i wr => ∃ q : Nat, q ≤ n ∧ i = .int .i64 q ∧ x = .string (str (nls j ++ rep q)) ∧ w = wr) (fun _ i _ => n - (intOf i).toNat)
      case atStart => exact ⟨0, by omega, rfl, by simp [rep], rfl⟩
      case round =>
        obtain ⟨q, hq, rfl, rfl, rfl⟩ := hrel
        have zq : (str (nls j ++ rep q)).size = j + 2 * q := by rw [size_str, List.length_append, nls_len, rep_len]
        by_cases hlq : q < n
        · have hcat : str (nls j ++ rep q) ++ ⟨#[119, 32]⟩ = str (nls j ++ rep (q + 1)) := bs_ext (by rw [bs_append, bs_str, bs_str, ← rep_snoc, List.append_assoc]; rfl)
          have hsum : (str (nls j ++ rep q)).size + (ByteArray.mk #[119, 32]).size ≤ 9223372036854775807 := by omega
          go_wp2_with fail
          go_roundw
          case rel => exact ⟨q + 1, by omega, by go_num, rfl, by trivial⟩
          case measure => simp [intOf]; omega
        · obtain rfl : q = n := by omega
          by_cases hfull : 64 < q
          · obtain ⟨u, hu, zu⟩ : ∃ u : ByteArray, s2.extract 0 (min (s2.size : Int) 100).toNat = u ∧ u.size ≤ 100 := ⟨_, rfl, by rw [ByteArray.size_extract]; omega⟩
            have hov := over_limit j q (bs u) hfull (by rw [List.length_append, List.length_append, nls_len, rep_len, List.length_cons, bs_length]; omega)
            obtain ⟨X, hX, zX⟩ : ∃ X, str (nls j ++ rep q) ++ ⟨#[10]⟩ = X ∧ X.size ≤ 140 := ⟨_, rfl, by rw [ByteArray.size_append]; omega⟩
            obtain ⟨Y, hY, zY⟩ : ∃ Y, X ++ u = Y ∧ Y.size ≤ 240 := ⟨_, rfl, by rw [ByteArray.size_append]; omega⟩
            have hb : bs Y = nls j ++ (rep q ++ 10 :: bs u) := by
              rw [← hY, ← hX, bs_append, bs_append, bs_str, List.append_assoc, List.append_assoc]; rfl
            rw [← hb] at hov
            have t1 : (str (nls j ++ rep q)).size + (ByteArray.mk #[10]).size ≤ 9223372036854775807 := by omega
            have t2 : X.size + u.size ≤ 9223372036854775807 := by omega
            clear hb
            go_wp2_with fail
            refine (PLines.p_lines Y m _ (by omega) hm).mono ?_
            rintro e w1 ⟨A, n', c, rfl, hO, hb1⟩
            rw [hov]
            have hm1 := keep_cell hb1 hm
            clear hO hov t1 t2 hX hY
            go_wp2_with (go_at_call 18; refine (awake_any m _ hm1).mono ?_; rintro e w2 ⟨rfl, hb2⟩)
            go_ret
            exact ⟨Small.retb (by simp), hb1.trans (hb2.mono hb1.size)⟩
          · have hin := in_limit j q (by omega) (by rw [List.length_append, nls_len, rep_len]; omega)
            have hq64 : (q : Int) ≤ 64 := by omega
            have hwl := rep_words (1 + j) q
            obtain ⟨Y, hY, zY⟩ : ∃ Y, str (nls j ++ rep q) = Y ∧ Y.size ≤ 240 := ⟨_, rfl, by omega⟩
            have hb : bs Y = nls j ++ rep q := by rw [← hY]; rfl
            rw [← hb] at hin
            rw [hY]
            clear hb hY zq
            go_wp2_with fail
            refine (PLines.p_lines Y m _ (by omega) hm).mono ?_
            rintro e w1 ⟨A, n', c, rfl, hO, hb1⟩
            rw [hin] at hO ⊢
            have hm1 := keep_cell hb1 hm
            clear hin
            by_cases hq0 : q = 0
            · subst hq0
              have hn' : n' = 0 := by obtain ⟨us, h, _⟩ := hO; exact h.symm
              subst hn'
              clear hO
              go_wp2_with (go_at_call 18; refine (awake_any m _ hm1).mono ?_; rintro e w2 ⟨rfl, hb2⟩)
              go_ret
              exact ⟨Small.retb (by simp), hb1.trans (hb2.mono hb1.size)⟩
            · rw [if_neg hq0] at hO
              have hn' : n' = 1 := by obtain ⟨us, h, _⟩ := hO; exact h.symm
              subst hn'
              go_wp2_with fail
              refine (awake_any m _ hm1).mono ?_
              rintro e w2 ⟨rfl, hb2⟩
              obtain ⟨ad, L, A1, c1, rfl, hab, hL, c0, r1, z1, z1'⟩ := (hO.below hb2 (Nat.le_refl _)).load (k := 0) (by omega)
              have hL2 : L.length = q := by simp at hL; rw [← hL]; exact hwl
              rw [hL2] at c0
              have c0' : w2.cell? ad = some (.slice A1 q c1) := by simpa [Addr.add] using c0
              have hq1 : ¬ ((q : Int) = 0) := by omega
              clear hO hL r1 z1 z1' hL2 c0 hwl
              go_wp2_with fail
              go_ret
              exact ⟨Small.retb (by simp), hb1.trans (hb2.mono hb1.size)⟩

theorem readable : ∀ t ∈ Try.f9.params.toList, Try.prog.readableRec t = true ∧ t < Try.prog.types.size := by
  rw [Try.params9]
  exact Frame.rrs _ rfl

set_option maxRecDepth 100000 in
theorem lifted (os : Os) (started : os.Started) (H : Type) (enc : TypeId × Value → H) :
    ReturnsInHanded {} Try.checked os 9 .any (Rows.wordsLimitsSpec.pre6 enc Try.prog Try.f9 Rows.wordsLimitsRow.domain false) (Rows.wordsLimitsSpec.post enc Try.prog Try.f9 false true false false) := by
  refine returnsInHanded_of_change_shaped (C := Try.checked) own started (by kernel_rfl) Try.func9
    (ChangeSpec.witness6 (enc := enc) (C := Try.checked) false ⟨#[], #[.int .i64 0, .int .u8 0, .string ByteArray.empty], []⟩ 8 (by kernel_rfl) (by kernel_rfl) (by kernel_rfl) (by kernel_rfl)) ?_
  intro W base args ds gs before hval0 hW hcnd _ hsh _
  obtain ⟨m, hm⟩ := Frame.cell W hsh
  have hval : ∀ (j : Nat) t v, Try.f9.params[j]? = some t → args[j]? = some v → Value.okWide Try.prog W .any base t v := hval0
  have hW' := hW
  obtain ⟨p, q, hA0, hV, rfl, hfz, hnd⟩ := hW
  have hA : DataW.TrodAll enc Try.prog W 0 (fun _ => true) true Try.f9.params.toList args.toList ds p := hA0
  rw [Try.params9] at hA hval
  obtain ⟨v0, vs0, d0, ds0, p0, q0, hargs, rfl, rfl, h0, r0⟩ := trodAll_cons hA
  obtain ⟨v1, vs1, d1, ds1, p1, q1, rfl, rfl, rfl, h1, r1⟩ := trodAll_cons r0
  obtain ⟨v2, vs2, d2, ds2, p2, q2, rfl, rfl, rfl, h2, r2⟩ := trodAll_cons r1
  obtain ⟨rfl, rfl, rfl⟩ := trodAll_nil r2
  obtain rfl : args = #[v0, v1, v2] := by cases args; simp_all
  obtain ⟨rfl, rfl⟩ := trodVars_none hV
  obtain ⟨a0, rfl, _, _, w0⟩ := open_int Try.underlying3 (hval 0 3 v0 rfl rfl) h0
  obtain ⟨a1, rfl, _, _, w1⟩ := open_int Try.underlying5 (hval 1 5 v1 rfl rfl) h1
  obtain ⟨s2, rfl, _, _, z2⟩ := open_string Try.underlying9 (hval 2 9 v2 rfl rfl) h2
  clear hA0 hval0
  refine (walk a0 w0 a1 w1 s2 (by unfold maxLen at z2; omega) W  m hm).mono fun e W' ⟨he, hg⟩ => ?_
  subst he
  exact ⟨_, rfl, Frame.post_law (t4 := 4) Frame.laid readable Try.underlying4 rfl rfl rfl rfl rfl rfl hW' hg⟩

theorem over : Rows.wordsLimitsRow.holds Try.pinned (OpenSpec.ofChange Rows.wordsLimitsSpec) :=
  OpenClaim.holds_of_wide 9 Try.f9 rfl rfl rfl rfl rfl rfl rfl ⟨rfl, rfl, rfl, rfl, rfl⟩ rfl rfl rfl rfl rfl (by kernel_rfl) Try.func9 (by kernel_rfl)
    (of_decide_eq_true (by kernel_rfl)) (by unfold Func.isWrapper; first | (rw [if_pos (by decide +kernel)]; kernel_rfl) | (rw [if_neg (by decide +kernel)]; exact ⟨rfl, rfl⟩))
    (fun os started H enc _ => lifted os started H enc)

theorem proved : Rows.WordsLimitsSaid :=
  over
#print axioms proved
end Go.Proofs.Ythjdhcldocpfjaa.wordsLimits
