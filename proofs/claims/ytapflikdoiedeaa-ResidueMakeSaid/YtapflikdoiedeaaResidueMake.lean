/-
  It is proved that railplanlaw2.ResidueMake returns true and changes nothing. Conditions: none.
-/
import Derived.Test.YtapflikdoiedeaaFrame
import Derived.Test.YtapflikdoiedeaaUni
import Derived.ProofKit
import Derived.OpenShut
namespace Go.Proofs.Ytapflikdoiedeaa.residueMake
open Go.ChangeShapes Go.WideShapes Go.ChangeAt Go.RowKit Plain Mem
set_option linter.unusedVariables false

theorem own : ownKnob Try.prog.godebug = none := by kernel_rfl

set_option maxHeartbeats 1600000 in
theorem walk (a0 : Int) (w0 : (Lit.int .i64 a0).wf = true) (a1 : Int) (w1 : (Lit.int .i64 a1).wf = true) (a2 : Int) (w2 : (Lit.int .i64 a2).wf = true) (w : World)  :
    Calls Try.prog 5 #[.int .i64 a0, .int .i64 a1, .int .i64 a2] w fun e w' => e = .returned (.bool true) ∧ Below w.heap.size w w' := by
  have b0 := bounds_i64 w0
  have b1 := bounds_i64 w1
  have b2 := bounds_i64 w2
  obtain ⟨x, hx⟩ : ∃ x, Uni.mk a0 = x := ⟨_, rfl⟩
  have HX := Lib.hid hx
  clear hx
  go_enter Try.func5, Try.ntmps5
  have hbw : Below w.heap.size w w := Below.refl _ _
  go_wp2_with fail
  refine (Uni.make_x a0 a1 a2 _ x HX.out (by omega) (by omega) (by omega) (by omega) (by omega) (by omega)).mono ?_
  rintro e w1 ⟨Aa, na, ca, La, rfl, hOa, hna, hca, hIsa, hb⟩
  replace hbw := hbw.trans (hb.mono hbw.size)
  clear hb
  have hSa := hOa.spans
  have HIa := Lib.hid hIsa
  clear hOa hIsa
  go_wp2_with fail
  refine (Uni.makeref_x a0 a1 a2 _ x HX.out (by omega) (by omega) (by omega) (by omega) (by omega) (by omega)).mono ?_
  rintro e w1 ⟨Ab, nb, cb, Lb, rfl, hOb, hnb, hcb, hIsb, hb⟩
  replace hSa := (hSa.below hb).more hb.size
  replace hbw := hbw.trans (hb.mono hbw.size)
  clear hb
  have hSb := hOb.spans
  have HIb := Lib.hid hIsb
  clear hOb hIsb
  go_wp2_with fail
  refine (Nums.period_any a0 _ (by omega) (by omega)).mono ?_
  rintro e w1 ⟨p, hp0, hp1, rfl, rfl⟩
  obtain ⟨k, rfl⟩ : ∃ k : Nat, p = k := ⟨p.toNat, by omega⟩
  obtain ⟨y, hy⟩ : ∃ y, Uni.mk (k : Int) = y := ⟨_, rfl⟩
  have HY := Lib.hid hy
  clear hy
  have hr := Nums.pick_range a2 (2 * (k : Int)) (by omega)
  go_wp2_with fail
  refine (Nums.pick_any a2 _ _ (by omega) (by omega) (by omega) (by omega)).mono ?_
  rintro e w1 ⟨rfl, rfl⟩
  go_wp2_with fail
  refine (Uni.make_x k a1 _ _ y HY.out (by omega) (by omega) (by omega) (by omega) (by omega) (by omega)).mono ?_
  rintro e w1 ⟨Ac, nc, cc, Lc, rfl, hOc, hnc, hcc, hIsc, hb⟩
  replace hSa := (hSa.below hb).more hb.size
  replace hSb := (hSb.below hb).more hb.size
  replace hbw := hbw.trans (hb.mono hbw.size)
  clear hb
  have hSc := hOc.spans
  have HIc := Lib.hid hIsc
  clear hOc hIsc
  go_wp2_with fail
  refine (Nums.pick_any a2 _ _ (by omega) (by omega) (by omega) (by omega)).mono ?_
  rintro e w1 ⟨rfl, rfl⟩
  go_wp2_with fail
  refine (Uni.makeref_x k a1 _ _ y HY.out (by omega) (by omega) (by omega) (by omega) (by omega) (by omega)).mono ?_
  rintro e w1 ⟨Ad, nd, cd, Ld, rfl, hOd, hnd, hcd, hIsd, hb⟩
  replace hSa := (hSa.below hb).more hb.size
  replace hSb := (hSb.below hb).more hb.size
  replace hSc := (hSc.below hb).more hb.size
  replace hbw := hbw.trans (hb.mono hbw.size)
  clear hb
  have hSd := hOd.spans
  have HId := Lib.hid hIsd
  clear hOd hIsd
  go_wp2_with fail
  refine (Uni.awake_any _).mono ?_
  rintro e w1 ⟨rfl, hb⟩
  replace hSa := (hSa.below hb).more hb.size
  replace hSb := (hSb.below hb).more hb.size
  replace hSc := (hSc.below hb).more hb.size
  replace hSd := (hSd.below hb).more hb.size
  replace hbw := hbw.trans (hb.mono hbw.size)
  clear hb
  go_wp2_with fail
  refine (Uni.same_yes Aa na ca La Ab nb cb Lb _ (Uni.is_same HIa.out HIb.out) hSa (by omega) hSb (by omega)).mono ?_
  rintro e w1 ⟨rfl, hb⟩
  replace hSa := (hSa.below hb).more hb.size
  replace hSb := (hSb.below hb).more hb.size
  replace hSc := (hSc.below hb).more hb.size
  replace hSd := (hSd.below hb).more hb.size
  replace hbw := hbw.trans (hb.mono hbw.size)
  clear hb
  go_wp2_with fail
  refine (Uni.same_yes Ac nc cc Lc Ad nd cd Ld _ (Uni.is_same HIc.out HId.out) hSc (by omega) hSd (by omega)).mono ?_
  rintro e w1 ⟨rfl, hb⟩
  replace hSa := (hSa.below hb).more hb.size
  replace hSb := (hSb.below hb).more hb.size
  replace hSc := (hSc.below hb).more hb.size
  replace hSd := (hSd.below hb).more hb.size
  replace hbw := hbw.trans (hb.mono hbw.size)
  clear hb
  go_wp2_with fail
  go_ret
  exact ⟨rfl, hbw⟩

theorem readable : ∀ t ∈ Try.f5.params.toList, Try.prog.readableRec t = true ∧ t < Try.prog.types.size := by
  rw [Try.params5]
  exact Frame.rrs _ rfl

set_option maxRecDepth 100000 in
theorem lifted (os : Os) (started : os.Started) (H : Type) (enc : TypeId × Value → H) :
    ReturnsInHanded {} Try.checked os 5 .any (Rows.residueMakeSpec.pre6 enc Try.prog Try.f5 Rows.residueMakeRow.domain false) (Rows.residueMakeSpec.post enc Try.prog Try.f5 false true false false) := by
  refine returnsInHanded_of_change (C := Try.checked) own started (by kernel_rfl) Try.func5
    (ChangeSpec.witness6 (enc := enc) (C := Try.checked) false ⟨#[], #[.int .i64 0, .int .i64 0, .int .i64 0], []⟩ 8 (by kernel_rfl) (by kernel_rfl) (by kernel_rfl) (by kernel_rfl)) ?_
  intro W base args ds gs before hval0 hW hcnd _
  have hval : ∀ (j : Nat) t v, Try.f5.params[j]? = some t → args[j]? = some v → Value.okWide Try.prog W .any base t v := hval0
  have hW' := hW
  obtain ⟨p, q, hA0, hV, rfl, hfz, hnd⟩ := hW
  have hA : DataW.TrodAll enc Try.prog W 0 (fun _ => true) true Try.f5.params.toList args.toList ds p := hA0
  rw [Try.params5] at hA hval
  obtain ⟨v0, vs0, d0, ds0, p0, q0, hargs, rfl, rfl, h0, r0⟩ := trodAll_cons hA
  obtain ⟨v1, vs1, d1, ds1, p1, q1, rfl, rfl, rfl, h1, r1⟩ := trodAll_cons r0
  obtain ⟨v2, vs2, d2, ds2, p2, q2, rfl, rfl, rfl, h2, r2⟩ := trodAll_cons r1
  obtain ⟨rfl, rfl, rfl⟩ := trodAll_nil r2
  obtain rfl : args = #[v0, v1, v2] := by cases args; simp_all
  obtain ⟨rfl, rfl⟩ := trodVars_none hV
  obtain ⟨a0, rfl, _, _, w0⟩ := open_int Try.underlying3 (hval 0 3 v0 rfl rfl) h0
  obtain ⟨a1, rfl, _, _, w1⟩ := open_int Try.underlying3 (hval 1 3 v1 rfl rfl) h1
  obtain ⟨a2, rfl, _, _, w2⟩ := open_int Try.underlying3 (hval 2 3 v2 rfl rfl) h2
  clear hA0 hval0
  refine (walk a0 w0 a1 w1 a2 w2 W ).mono fun e W' ⟨he, hg⟩ => ?_
  subst he
  exact ⟨_, rfl, Frame.post_law (t4 := 4) Frame.laid readable Try.underlying4 rfl rfl rfl rfl rfl rfl hW' hg⟩

theorem over : Rows.residueMakeRow.holds Try.pinned (OpenSpec.ofChange Rows.residueMakeSpec) :=
  OpenClaim.holds_of_wide 5 Try.f5 rfl rfl rfl rfl rfl rfl rfl ⟨rfl, rfl, rfl, rfl, rfl⟩ rfl rfl rfl rfl rfl (by kernel_rfl) Try.func5 (by kernel_rfl)
    (of_decide_eq_true (by kernel_rfl)) (by unfold Func.isWrapper; first | (rw [if_pos (by decide +kernel)]; kernel_rfl) | (rw [if_neg (by decide +kernel)]; exact ⟨rfl, rfl⟩))
    (fun os started H enc _ => lifted os started H enc)

theorem proved : Rows.ResidueMakeSaid :=
  over
#print axioms proved
end Go.Proofs.Ytapflikdoiedeaa.residueMake
