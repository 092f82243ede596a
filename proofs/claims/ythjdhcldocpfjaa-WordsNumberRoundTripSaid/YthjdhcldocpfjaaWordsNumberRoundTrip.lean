/-
  It is proved that railplanlaw3.WordsNumberRoundTrip returns true and changes nothing. Conditions: none.
-/
import Derived.Test.YthjdhcldocpfjaaFrame
import Derived.Test.YthjdhcldocpfjaaDec
import Derived.ProofKit
import Derived.OpenShut
namespace Go.Proofs.Ythjdhcldocpfjaa.wordsNumberRoundTrip
open Go.ChangeShapes Go.WideShapes Go.ChangeAt Go.ChangeMaps Go.RowKit Wd Mem Aids
set_option linter.unusedVariables false

theorem own : ownKnob Try.prog.godebug = none := by kernel_rfl

theorem shr_bounds (a : Int) (k : Nat) (h : -9223372036854775808 ≤ a ∧ a ≤ 9223372036854775807) : -9223372036854775808 ≤ a / 2 ^ k ∧ a / 2 ^ k ≤ 9223372036854775807 := by
  have hp : (0 : Int) < 2 ^ k := Int.pow_pos (by decide)
  constructor
  · refine (Int.le_ediv_iff_mul_le hp).2 ?_
    have : (-9223372036854775808 : Int) * 2 ^ k ≤ -9223372036854775808 * 1 := Int.mul_le_mul_of_nonpos_left (by omega) (by omega)
    omega
  · by_cases h0 : 0 ≤ a
    · exact Int.le_trans (Int.ediv_le_self _ h0) h.2
    · have : a / 2 ^ k < 0 := Int.ediv_neg_of_neg_of_pos (by omega) hp
      omega
set_option maxHeartbeats 1600000 in
theorem walk (a0 : Int) (w0 : (Lit.int .i64 a0).wf = true) (a1 : Int) (w1 : (Lit.int .u8 a1).wf = true) (w : World)  (m : Int) (hm : w.cell? ⟨0, 0, none⟩ = some (.int .i64 m)) :
    Calls Try.prog 6 #[.int .i64 a0, .int .u8 a1] w (Yes w) := by
  have b0 := bounds_i64 w0
  have b1 := Frame.bounds_u8 w1
  have ht : a1.tmod 64 = a1 % 64 := Int.tmod_eq_emod_of_nonneg b1.1
  have hr : 0 ≤ a1 % 64 ∧ a1 % 64 < 64 := by omega
  go_enter Try.func6, Try.ntmps6
  go_wp2_with fail
  have c1 := shr_bounds a0 (a1 % 64).toNat b0
  generalize a0 / 2 ^ (a1 % 64).toNat = n at *
  refine (Dec.r_dec n _ c1.1 c1.2).mono ?_
  rintro e w' ⟨rfl, rfl⟩
  obtain ⟨d1, d2, d3⟩ := Dec.dec_num n
  have hl : (str (Dec.dec n)).size ≤ 9223372036854775807 := by rw [size_str]; have := Dec.dec_len n c1.1 c1.2; omega
  go_wp2_with fail
  refine (Num.p_num _ _ hl).mono ?_
  rintro e w' ⟨rfl, rfl⟩
  rw [bs_str]
  by_cases hb : -1099511627776 ≤ n ∧ n ≤ 1099511627776
  · rw [d1, decide_eq_true hb, d2 hb]
    clear d1 d2 d3 hl
    obtain ⟨g1, g2⟩ := hb
    go_wp2_with (go_at_call 18; refine (awake_any m _ hm).mono ?_; rintro e w1 ⟨rfl, hb1⟩)
    go_ret
    exact ⟨Small.retb (by simp), hb1⟩
  · rw [d1, decide_eq_false hb, d3 hb]
    clear d1 d2 d3 hl
    by_cases hg : 1099511627776 < n
    · go_wp2_with (go_at_call 18; refine (awake_any m _ hm).mono ?_; rintro e w1 ⟨rfl, hb1⟩)
      go_ret
      exact ⟨Small.retb (by simp), hb1⟩
    · have hg2 : n < -1099511627776 := by omega
      go_wp2_with (go_at_call 18; refine (awake_any m _ hm).mono ?_; rintro e w1 ⟨rfl, hb1⟩)
      go_ret
      exact ⟨Small.retb (by simp), hb1⟩

theorem readable : ∀ t ∈ Try.f6.params.toList, Try.prog.readableRec t = true ∧ t < Try.prog.types.size := by
  rw [Try.params6]
  exact Frame.rrs _ rfl

set_option maxRecDepth 100000 in
theorem lifted (os : Os) (started : os.Started) (H : Type) (enc : TypeId × Value → H) :
    ReturnsInHanded {} Try.checked os 6 .any (Rows.wordsNumberRoundTripSpec.pre6 enc Try.prog Try.f6 Rows.wordsNumberRoundTripRow.domain false) (Rows.wordsNumberRoundTripSpec.post enc Try.prog Try.f6 false true false false) := by
  refine returnsInHanded_of_change_shaped (C := Try.checked) own started (by kernel_rfl) Try.func6
    (ChangeSpec.witness6 (enc := enc) (C := Try.checked) false ⟨#[], #[.int .i64 0, .int .u8 0], []⟩ 8 (by kernel_rfl) (by kernel_rfl) (by kernel_rfl) (by kernel_rfl)) ?_
  intro W base args ds gs before hval0 hW hcnd _ hsh _
  obtain ⟨m, hm⟩ := Frame.cell W hsh
  have hval : ∀ (j : Nat) t v, Try.f6.params[j]? = some t → args[j]? = some v → Value.okWide Try.prog W .any base t v := hval0
  have hW' := hW
  obtain ⟨p, q, hA0, hV, rfl, hfz, hnd⟩ := hW
  have hA : DataW.TrodAll enc Try.prog W 0 (fun _ => true) true Try.f6.params.toList args.toList ds p := hA0
  rw [Try.params6] at hA hval
  obtain ⟨v0, vs0, d0, ds0, p0, q0, hargs, rfl, rfl, h0, r0⟩ := trodAll_cons hA
  obtain ⟨v1, vs1, d1, ds1, p1, q1, rfl, rfl, rfl, h1, r1⟩ := trodAll_cons r0
  obtain ⟨rfl, rfl, rfl⟩ := trodAll_nil r1
  obtain rfl : args = #[v0, v1] := by cases args; simp_all
  obtain ⟨rfl, rfl⟩ := trodVars_none hV
  obtain ⟨a0, rfl, _, _, w0⟩ := open_int Try.underlying3 (hval 0 3 v0 rfl rfl) h0
  obtain ⟨a1, rfl, _, _, w1⟩ := open_int Try.underlying5 (hval 1 5 v1 rfl rfl) h1
  clear hA0 hval0
  refine (walk a0 w0 a1 w1 W  m hm).mono fun e W' ⟨he, hg⟩ => ?_
  subst he
  exact ⟨_, rfl, Frame.post_law (t4 := 4) Frame.laid readable Try.underlying4 rfl rfl rfl rfl rfl rfl hW' hg⟩

theorem over : Rows.wordsNumberRoundTripRow.holds Try.pinned (OpenSpec.ofChange Rows.wordsNumberRoundTripSpec) :=
  OpenClaim.holds_of_wide 6 Try.f6 rfl rfl rfl rfl rfl rfl rfl ⟨rfl, rfl, rfl, rfl, rfl⟩ rfl rfl rfl rfl rfl (by kernel_rfl) Try.func6 (by kernel_rfl)
    (of_decide_eq_true (by kernel_rfl)) (by unfold Func.isWrapper; first | (rw [if_pos (by decide +kernel)]; kernel_rfl) | (rw [if_neg (by decide +kernel)]; exact ⟨rfl, rfl⟩))
    (fun os started H enc _ => lifted os started H enc)

theorem proved : Rows.WordsNumberRoundTripSaid :=
  over
#print axioms proved
end Go.Proofs.Ythjdhcldocpfjaa.wordsNumberRoundTrip
