/-
  It is proved that railplanlaw3.WordsRanges returns true and changes nothing. Conditions: none.
-/
import Derived.Test.YthjdhcldocpfjaaFrame
import Derived.Test.YthjdhcldocpfjaaDec
import Derived.Test.YthjdhcldocpfjaaRng
import Derived.ProofKit
import Derived.OpenShut
namespace Go.Proofs.Ythjdhcldocpfjaa.wordsRanges
open Go.ChangeShapes Go.WideShapes Go.ChangeAt Go.ChangeMaps Go.RowKit Wd Mem Aids
set_option linter.unusedVariables false

theorem own : ownKnob Try.prog.godebug = none := by kernel_rfl

theorem dec_nodot (n : Int) : ∀ b ∈ Dec.dec n, b ≠ 46 := by
  intro b hb e
  subst e
  unfold Dec.dec at hb
  have hd : ∀ a : Nat, (46 : UInt8) ∈ Dec.dz a → False := by
    intro a ha
    have := List.all_eq_true.1 (Dec.dz_digits a) _ ha
    revert this
    decide
  split at hb
  · simp at hb
  · split at hb
    · rcases List.mem_cons.1 hb with h | h
      · exact absurd h (by decide)
      · exact hd _ h
    · exact hd _ hb
theorem index_dots (r : Bs) : ∀ l : Bs, (∀ b ∈ l, b ≠ 46) → Lib.index (l ++ (46 :: 46 :: r)) [46, 46] = l.length
  | [], _ => by simp [Lib.index, List.isPrefixOf]
  | b :: l, h => by
    have ih := index_dots r l (fun c hc => h c (List.mem_cons_of_mem _ hc))
    have hb : ((46 : UInt8) == b) = false := by rw [beq_eq_false_iff_ne]; exact fun e => h b List.mem_cons_self e.symm
    simp only [List.cons_append, Lib.index, List.isPrefixOf, hb, Bool.false_and, Bool.false_eq_true, if_false, ih]
    rw [if_neg (by simp <;> omega)]
    simp only [List.length_cons]; omega
theorem cut_dots (l r : Bs) (h : ∀ b ∈ l, b ≠ 46) : Lib.cut (l ++ (46 :: 46 :: r)) [46, 46] = (l, r, true) := by
  have hi := index_dots r l h
  unfold Lib.cut
  rw [hi, if_pos (by omega)]
  simp only [Int.toNat_natCast, List.take_left, Prod.mk.injEq, true_and, and_true]
  rw [← List.drop_drop, List.drop_left]; rfl
theorem range_dec (a b : Int) (ha : -1099511627776 ≤ a ∧ a ≤ 1099511627776) (hb : -1099511627776 ≤ b ∧ b ≤ 1099511627776) (l : Bs) (hl : l = Dec.dec a ++ (46 :: 46 :: Dec.dec b)) :
    Rng.rangeOK l = decide (a ≤ b) ∧ Rng.rangeLo l = (if a ≤ b then a else 0) ∧ Rng.rangeHi l = (if a ≤ b then b else 0) := by
  subst hl
  have hc := cut_dots (Dec.dec a) (Dec.dec b) (dec_nodot a)
  obtain ⟨x1, x2, _⟩ := Dec.dec_num a
  obtain ⟨y1, y2, _⟩ := Dec.dec_num b
  have hok : Rng.rangeOK (Dec.dec a ++ (46 :: 46 :: Dec.dec b)) = decide (a ≤ b) := by
    unfold Rng.rangeOK Rng.rng
    rw [hc]
    simp only [x1, y1, x2 ha, y2 hb, decide_eq_true ha, decide_eq_true hb, Bool.true_and]
  refine ⟨hok, ?_, ?_⟩
  · unfold Rng.rangeLo
    rw [hok, hc]
    simp only [decide_eq_true_eq, x2 ha]
  · unfold Rng.rangeHi
    rw [hok, hc]
    simp only [decide_eq_true_eq, y2 hb]
set_option maxHeartbeats 1600000 in
theorem walk (a0 : Int) (w0 : (Lit.int .i64 a0).wf = true) (a1 : Int) (w1 : (Lit.int .i64 a1).wf = true) (w : World)  (m : Int) (hm : w.cell? ⟨0, 0, none⟩ = some (.int .i64 m)) :
    Calls Try.prog 7 #[.int .i64 a0, .int .i64 a1] w (Yes w) := by
  have b0 := bounds_i64 w0
  have b1 := bounds_i64 w1
  go_enter Try.func7, Try.ntmps7
  go_wp2_with fail
  refine (Dec.pick_any a0 4001 _ (by omega) (by omega) (by omega) (by omega)).mono ?_
  rintro e w' ⟨rfl, rfl⟩
  have r0 := Dec.pick_range a0 4001 (by omega)
  generalize Dec.pick a0 4001 = x at *
  go_wp2_with fail
  refine (Dec.pick_any a1 4001 _ (by omega) (by omega) (by omega) (by omega)).mono ?_
  rintro e w' ⟨rfl, rfl⟩
  have r1 := Dec.pick_range a1 4001 (by omega)
  generalize Dec.pick a1 4001 = y at *
  go_wp2_with fail
  obtain ⟨p, hp, p1, p2⟩ : ∃ p, x - 2000 = p ∧ -2000 ≤ p ∧ p ≤ 2000 := ⟨_, rfl, by omega, by omega⟩
  obtain ⟨q, hq, q1, q2⟩ : ∃ q, y - 2000 = q ∧ -2000 ≤ q ∧ q ≤ 2000 := ⟨_, rfl, by omega, by omega⟩
  rw [hp, hq]
  clear hp hq r0 r1
  refine (Dec.r_dec p _ (by omega) (by omega)).mono ?_
  rintro e w' ⟨rfl, rfl⟩
  have z1 := Dec.dec_len p (by omega) (by omega)
  have z2 := Dec.dec_len q (by omega) (by omega)
  rw [← size_str] at z1 z2
  obtain ⟨k1, k2, k3⟩ := range_dec p q ⟨by omega, by omega⟩ ⟨by omega, by omega⟩ (bs (str (Dec.dec p) ++ ⟨#[46, 46]⟩ ++ str (Dec.dec q))) (by rw [bs_append, bs_append, List.append_assoc]; rfl)
  have hdot : (ByteArray.mk #[46, 46]).size = 2 := rfl
  obtain ⟨X, hX, hXs⟩ : ∃ X, str (Dec.dec p) ++ ⟨#[46, 46]⟩ = X ∧ X.size ≤ 22 := ⟨_, rfl, by rw [ByteArray.size_append]; omega⟩
  obtain ⟨Y, hY, hYs⟩ : ∃ Y, X ++ str (Dec.dec q) = Y ∧ Y.size ≤ 42 := ⟨_, rfl, by rw [ByteArray.size_append]; omega⟩
  rw [hX, hY] at k1 k2 k3
  have s1 : (str (Dec.dec p)).size + (ByteArray.mk #[46, 46]).size ≤ 9223372036854775807 := by omega
  have s2 : X.size + (str (Dec.dec q)).size ≤ 9223372036854775807 := by omega
  go_wp2_with fail
  refine (Dec.r_dec q _ (by omega) (by omega)).mono ?_
  rintro e w' ⟨rfl, rfl⟩
  go_wp2_with fail
  refine (Rng.p_range Y m _ (by omega) hm).mono ?_
  rintro e w' ⟨rfl, nd, rfl⟩
  rw [k1, k2, k3]
  clear k1 k2 k3 hX hY s1 s2
  have hm2 : (w.drewN nd).cell? ⟨0, 0, none⟩ = some (.int .i64 m) := hm
  have hbd : Below w.heap.size w (w.drewN nd) := Mem.below_draws (Below.refl _ _) nd
  have hz : (w.drewN nd).heap.size = w.heap.size := rfl
  generalize w.drewN nd = w2 at *
  by_cases hle : p ≤ q
  · rw [decide_eq_true hle, if_pos hle, if_pos hle]
    go_wp2_with (go_at_call 18; refine (awake_any m _ hm2).mono ?_; rintro e w1 ⟨rfl, hb1⟩)
    go_ret
    exact ⟨Small.retb (by simp), hbd.trans (by rw [hz] at hb1; exact hb1)⟩
  · rw [decide_eq_false hle, if_neg hle, if_neg hle]
    go_wp2_with (go_at_call 18; refine (awake_any m _ hm2).mono ?_; rintro e w1 ⟨rfl, hb1⟩)
    go_ret
    exact ⟨Small.retb (by simp), hbd.trans (by rw [hz] at hb1; exact hb1)⟩

theorem readable : ∀ t ∈ Try.f7.params.toList, Try.prog.readableRec t = true ∧ t < Try.prog.types.size := by
  rw [Try.params7]
  exact Frame.rrs _ rfl

set_option maxRecDepth 100000 in
theorem lifted (os : Os) (started : os.Started) (H : Type) (enc : TypeId × Value → H) :
    ReturnsInHanded {} Try.checked os 7 .any (Rows.wordsRangesSpec.pre6 enc Try.prog Try.f7 Rows.wordsRangesRow.domain false) (Rows.wordsRangesSpec.post enc Try.prog Try.f7 false true false false) := by
  refine returnsInHanded_of_change_shaped (C := Try.checked) own started (by kernel_rfl) Try.func7
    (ChangeSpec.witness6 (enc := enc) (C := Try.checked) false ⟨#[], #[.int .i64 0, .int .i64 0], []⟩ 8 (by kernel_rfl) (by kernel_rfl) (by kernel_rfl) (by kernel_rfl)) ?_
  intro W base args ds gs before hval0 hW hcnd _ hsh _
  obtain ⟨m, hm⟩ := Frame.cell W hsh
  have hval : ∀ (j : Nat) t v, Try.f7.params[j]? = some t → args[j]? = some v → Value.okWide Try.prog W .any base t v := hval0
  have hW' := hW
  obtain ⟨p, q, hA0, hV, rfl, hfz, hnd⟩ := hW
  have hA : DataW.TrodAll enc Try.prog W 0 (fun _ => true) true Try.f7.params.toList args.toList ds p := hA0
  rw [Try.params7] at hA hval
  obtain ⟨v0, vs0, d0, ds0, p0, q0, hargs, rfl, rfl, h0, r0⟩ := trodAll_cons hA
  obtain ⟨v1, vs1, d1, ds1, p1, q1, rfl, rfl, rfl, h1, r1⟩ := trodAll_cons r0
  obtain ⟨rfl, rfl, rfl⟩ := trodAll_nil r1
  obtain rfl : args = #[v0, v1] := by cases args; simp_all
  obtain ⟨rfl, rfl⟩ := trodVars_none hV
  obtain ⟨a0, rfl, _, _, w0⟩ := open_int Try.underlying3 (hval 0 3 v0 rfl rfl) h0
  obtain ⟨a1, rfl, _, _, w1⟩ := open_int Try.underlying3 (hval 1 3 v1 rfl rfl) h1
  clear hA0 hval0
  refine (walk a0 w0 a1 w1 W  m hm).mono fun e W' ⟨he, hg⟩ => ?_
  subst he
  exact ⟨_, rfl, Frame.post_law (t4 := 4) Frame.laid readable Try.underlying4 rfl rfl rfl rfl rfl rfl hW' hg⟩

theorem over : Rows.wordsRangesRow.holds Try.pinned (OpenSpec.ofChange Rows.wordsRangesSpec) :=
  OpenClaim.holds_of_wide 7 Try.f7 rfl rfl rfl rfl rfl rfl rfl ⟨rfl, rfl, rfl, rfl, rfl⟩ rfl rfl rfl rfl rfl (by kernel_rfl) Try.func7 (by kernel_rfl)
    (of_decide_eq_true (by kernel_rfl)) (by unfold Func.isWrapper; first | (rw [if_pos (by decide +kernel)]; kernel_rfl) | (rw [if_neg (by decide +kernel)]; exact ⟨rfl, rfl⟩))
    (fun os started H enc _ => lifted os started H enc)

theorem proved : Rows.WordsRangesSaid :=
  over
#print axioms proved
end Go.Proofs.Ythjdhcldocpfjaa.wordsRanges
