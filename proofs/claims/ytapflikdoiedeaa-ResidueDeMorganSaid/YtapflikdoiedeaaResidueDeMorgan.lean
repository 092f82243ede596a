/-
  It is proved that railplanlaw2.ResidueDeMorgan returns true and changes nothing. Conditions: none.
-/
import Derived.Test.YtapflikdoiedeaaFrame
import Derived.Test.YtapflikdoiedeaaUni
import Derived.Test.YtapflikdoiedeaaAsk
import Derived.Test.YtapflikdoiedeaaCMath
import Derived.ProofKit
import Derived.OpenShut
namespace Go.Proofs.Ytapflikdoiedeaa.residueDeMorgan
open Go.ChangeShapes Go.WideShapes Go.ChangeAt Go.RowKit Plain Mem
set_option linter.unusedVariables false

theorem own : ownKnob Try.prog.godebug = none := by kernel_rfl

set_option maxHeartbeats 1600000 in
theorem walk (a0 : Int) (w0 : (Lit.int .i64 a0).wf = true) (A1 : Option Addr) (n1 c1 : Nat) (hn1 : n1 ≤ c1) (hc1 : c1 ≤ 9223372036854775807) (A2 : Option Addr) (n2 c2 : Nat) (hn2 : n2 ≤ c2) (hc2 : c2 ≤ 9223372036854775807) (w : World) (hI1 : Source.Ints w w.heap.size A1 n1) (hI2 : Source.Ints w w.heap.size A2 n2) :
    Calls Try.prog 10 #[.int .i64 a0, .slice A1 n1 c1, .slice A2 n2 c2] w fun e w' => e = .returned (.bool true) ∧ Below w.heap.size w w' := by
  have b0 := bounds_i64 w0
  go_enter Try.func10, Try.ntmps10
  have hbw : Below w.heap.size w w := Below.refl _ _
  go_wp2_with fail
  refine (Nums.period_any a0 _ (by omega) (by omega)).mono ?_
  rintro e w1 ⟨p, hp0, hp1, rfl, rfl⟩
  obtain ⟨k, rfl⟩ : ∃ k : Nat, p = k := ⟨p.toNat, by omega⟩
  go_wp2_with fail
  refine (Source.set_any k A1 n1 c1 _ (by omega) (by omega) hI1 (by omega)).mono ?_
  rintro e w1 ⟨Aa, na, ca, La, rfl, hOa, hva, hb⟩
  replace hI1 := Uni.ints_more (hI1.below hb) hb.size
  replace hI2 := Uni.ints_more (hI2.below hb) hb.size
  replace hbw := hbw.trans (hb.mono hbw.size)
  clear hb
  have hSa := hOa.spans
  have HVa := Lib.hid hva
  obtain ⟨hna, hca⟩ := Uni.own_form hOa
  clear hOa hva
  go_wp2_with fail
  refine (Source.set_any k A2 n2 c2 _ (by omega) (by omega) hI2 (by omega)).mono ?_
  rintro e w1 ⟨Ab, nb, cb, Lb, rfl, hOb, hvb, hb⟩
  replace hSa := (hSa.below hb).more hb.size
  replace hI1 := Uni.ints_more (hI1.below hb) hb.size
  replace hI2 := Uni.ints_more (hI2.below hb) hb.size
  replace hbw := hbw.trans (hb.mono hbw.size)
  clear hb
  have hSb := hOb.spans
  have HVb := Lib.hid hvb
  obtain ⟨hnb, hcb⟩ := Uni.own_form hOb
  clear hOb hvb
  have Eab : Hid (Errs.er (k : Int) [La, Lb] = 0) := (Errs.er_two _ _ _).2 ⟨HVa.out, HVb.out⟩
  go_wp2_with fail
  refine (Uni.union_x k Aa na ca La Ab nb cb Lb _ 0 Eab.out (by omega) (by omega) hSa hna hca hSb hnb hcb).mono ?_
  rintro e w1 ⟨Au, nu, cu, Lu, rfl, hOu, hnu, hcu, hIsu, hb⟩
  replace hSa := (hSa.below hb).more hb.size
  replace hSb := (hSb.below hb).more hb.size
  replace hI1 := Uni.ints_more (hI1.below hb) hb.size
  replace hI2 := Uni.ints_more (hI2.below hb) hb.size
  replace hbw := hbw.trans (hb.mono hbw.size)
  clear hb
  have hSu := hOu.spans
  have HIu := Lib.hid hIsu
  clear hOu hIsu
  have HVu : Hid (Valid.vl (k : Int) Lu = true) := Uni.is_vl HIu.out rfl ⟨by omega, by omega⟩
  have Eu : Hid (Errs.er (k : Int) [Lu] = 0) := (Errs.er_one _ _).2 HVu.out
  go_wp2_with fail
  refine (Uni.compl_x k Au nu cu Lu _ 0 Eu.out (by omega) (by omega) hSu hnu hcu).mono ?_
  rintro e w1 ⟨Ax, nx, cx, Lx, rfl, hOx, hnx, hcx, hIsx, hb⟩
  replace hSa := (hSa.below hb).more hb.size
  replace hSb := (hSb.below hb).more hb.size
  replace hSu := (hSu.below hb).more hb.size
  replace hI1 := Uni.ints_more (hI1.below hb) hb.size
  replace hI2 := Uni.ints_more (hI2.below hb) hb.size
  replace hbw := hbw.trans (hb.mono hbw.size)
  clear hb
  have hSx := hOx.spans
  have HIx := Lib.hid hIsx
  clear hOx hIsx
  have Ea : Hid (Errs.er (k : Int) [La] = 0) := (Errs.er_one _ _).2 HVa.out
  go_wp2_with fail
  refine (Uni.compl_x k Aa na ca La _ 0 Ea.out (by omega) (by omega) hSa hna hca).mono ?_
  rintro e w1 ⟨Ac, nc, cc, Lc, rfl, hOc, hnc, hcc, hIsc, hb⟩
  replace hSa := (hSa.below hb).more hb.size
  replace hSb := (hSb.below hb).more hb.size
  replace hSu := (hSu.below hb).more hb.size
  replace hSx := (hSx.below hb).more hb.size
  replace hI1 := Uni.ints_more (hI1.below hb) hb.size
  replace hI2 := Uni.ints_more (hI2.below hb) hb.size
  replace hbw := hbw.trans (hb.mono hbw.size)
  clear hb
  have hSc := hOc.spans
  have HIc := Lib.hid hIsc
  clear hOc hIsc
  have Eb : Hid (Errs.er (k : Int) [Lb] = 0) := (Errs.er_one _ _).2 HVb.out
  go_wp2_with fail
  refine (Uni.compl_x k Ab nb cb Lb _ 0 Eb.out (by omega) (by omega) hSb hnb hcb).mono ?_
  rintro e w1 ⟨Ad, nd, cd, Ld, rfl, hOd, hnd, hcd, hIsd, hb⟩
  replace hSa := (hSa.below hb).more hb.size
  replace hSb := (hSb.below hb).more hb.size
  replace hSu := (hSu.below hb).more hb.size
  replace hSx := (hSx.below hb).more hb.size
  replace hSc := (hSc.below hb).more hb.size
  replace hI1 := Uni.ints_more (hI1.below hb) hb.size
  replace hI2 := Uni.ints_more (hI2.below hb) hb.size
  replace hbw := hbw.trans (hb.mono hbw.size)
  clear hb
  have hSd := hOd.spans
  have HId := Lib.hid hIsd
  clear hOd hIsd
  have HVc : Hid (Valid.vl (k : Int) Lc = true) := Uni.is_vl HIc.out rfl ⟨by omega, by omega⟩
  have HVd : Hid (Valid.vl (k : Int) Ld = true) := Uni.is_vl HId.out rfl ⟨by omega, by omega⟩
  have Ecd : Hid (Errs.er (k : Int) [Lc, Ld] = 0) := (Errs.er_two _ _ _).2 ⟨HVc.out, HVd.out⟩
  go_wp2_with fail
  refine (Uni.inter_x k Ac nc cc Lc Ad nd cd Ld _ 0 Ecd.out (by omega) (by omega) hSc hnc hcc hSd hnd hcd).mono ?_
  rintro e w1 ⟨Ay, ny, cy, Ly, rfl, hOy, hny, hcy, hIsy, hb⟩
  replace hSa := (hSa.below hb).more hb.size
  replace hSb := (hSb.below hb).more hb.size
  replace hSu := (hSu.below hb).more hb.size
  replace hSx := (hSx.below hb).more hb.size
  replace hSc := (hSc.below hb).more hb.size
  replace hSd := (hSd.below hb).more hb.size
  replace hI1 := Uni.ints_more (hI1.below hb) hb.size
  replace hI2 := Uni.ints_more (hI2.below hb) hb.size
  replace hbw := hbw.trans (hb.mono hbw.size)
  clear hb
  have hSy := hOy.spans
  have HIy := Lib.hid hIsy
  clear hOy hIsy
  have Ec : Hid (Errs.er (k : Int) [Lc] = 0) := (Errs.er_one _ _).2 HVc.out
  go_wp2_with fail
  refine (Uni.compl_x k Ac nc cc Lc _ 0 Ec.out (by omega) (by omega) hSc hnc hcc).mono ?_
  rintro e w1 ⟨Az, nz, cz, Lz, rfl, hOz, hnz, hcz, hIsz, hb⟩
  replace hSa := (hSa.below hb).more hb.size
  replace hSb := (hSb.below hb).more hb.size
  replace hSu := (hSu.below hb).more hb.size
  replace hSx := (hSx.below hb).more hb.size
  replace hSc := (hSc.below hb).more hb.size
  replace hSd := (hSd.below hb).more hb.size
  replace hSy := (hSy.below hb).more hb.size
  replace hI1 := Uni.ints_more (hI1.below hb) hb.size
  replace hI2 := Uni.ints_more (hI2.below hb) hb.size
  replace hbw := hbw.trans (hb.mono hbw.size)
  clear hb
  have hSz := hOz.spans
  have HIz := Lib.hid hIsz
  clear hOz hIsz
  go_wp2_with fail
  refine (Uni.awake_any _).mono ?_
  rintro e w1 ⟨rfl, hb⟩
  replace hSa := (hSa.below hb).more hb.size
  replace hSb := (hSb.below hb).more hb.size
  replace hSu := (hSu.below hb).more hb.size
  replace hSx := (hSx.below hb).more hb.size
  replace hSc := (hSc.below hb).more hb.size
  replace hSd := (hSd.below hb).more hb.size
  replace hSy := (hSy.below hb).more hb.size
  replace hSz := (hSz.below hb).more hb.size
  replace hI1 := Uni.ints_more (hI1.below hb) hb.size
  replace hI2 := Uni.ints_more (hI2.below hb) hb.size
  replace hbw := hbw.trans (hb.mono hbw.size)
  clear hb
  go_wp2_with fail
  refine (Uni.same_yes Ax nx cx Lx Ay ny cy Ly _ (by
    refine Uni.is_same (Uni.is_congr HIx.out ?_) HIy.out
    intro v h0 h1
    have e1 := (HIu.out.1 rfl).2 v h0 h1
    have e2 := (HIc.out.1 rfl).2 v h0 h1
    have e3 := (HId.out.1 rfl).2 v h0 h1
    simp only at e1 e2 e3 ⊢
    rw [e1, e2, e3]
    cases mem La v <;> cases mem Lb v <;> rfl) hSx (by omega) hSy (by omega)).mono ?_
  rintro e w1 ⟨rfl, hb⟩
  replace hSa := (hSa.below hb).more hb.size
  replace hSb := (hSb.below hb).more hb.size
  replace hSu := (hSu.below hb).more hb.size
  replace hSx := (hSx.below hb).more hb.size
  replace hSc := (hSc.below hb).more hb.size
  replace hSd := (hSd.below hb).more hb.size
  replace hSy := (hSy.below hb).more hb.size
  replace hSz := (hSz.below hb).more hb.size
  replace hI1 := Uni.ints_more (hI1.below hb) hb.size
  replace hI2 := Uni.ints_more (hI2.below hb) hb.size
  replace hbw := hbw.trans (hb.mono hbw.size)
  clear hb
  go_wp2_with fail
  refine (Uni.same_yes Az nz cz Lz Aa na ca La _ (by
    refine Uni.is_same (Uni.is_congr HIz.out ?_) (Uni.is_own HVa.out)
    intro v h0 h1
    have e2 := (HIc.out.1 rfl).2 v h0 h1
    simp only at e2 ⊢
    rw [e2]
    cases mem La v <;> rfl) hSz (by omega) hSa (by omega)).mono ?_
  rintro e w1 ⟨rfl, hb⟩
  replace hSa := (hSa.below hb).more hb.size
  replace hSb := (hSb.below hb).more hb.size
  replace hSu := (hSu.below hb).more hb.size
  replace hSx := (hSx.below hb).more hb.size
  replace hSc := (hSc.below hb).more hb.size
  replace hSd := (hSd.below hb).more hb.size
  replace hSy := (hSy.below hb).more hb.size
  replace hSz := (hSz.below hb).more hb.size
  replace hI1 := Uni.ints_more (hI1.below hb) hb.size
  replace hI2 := Uni.ints_more (hI2.below hb) hb.size
  replace hbw := hbw.trans (hb.mono hbw.size)
  clear hb
  go_wp2_with fail
  refine (Ask.count_any k Aa na ca La _ (by omega) (by omega) hSa (by omega)).mono ?_
  rintro e w1 ⟨rfl, hb⟩
  replace hSa := (hSa.below hb).more hb.size
  replace hSb := (hSb.below hb).more hb.size
  replace hSu := (hSu.below hb).more hb.size
  replace hSx := (hSx.below hb).more hb.size
  replace hSc := (hSc.below hb).more hb.size
  replace hSd := (hSd.below hb).more hb.size
  replace hSy := (hSy.below hb).more hb.size
  replace hSz := (hSz.below hb).more hb.size
  replace hI1 := Uni.ints_more (hI1.below hb) hb.size
  replace hI2 := Uni.ints_more (hI2.below hb) hb.size
  replace hbw := hbw.trans (hb.mono hbw.size)
  clear hb
  go_wp2_with fail
  refine (Ask.count_any k Ac nc cc Lc _ (by omega) (by omega) hSc (by omega)).mono ?_
  rintro e w1 ⟨rfl, hb⟩
  replace hSa := (hSa.below hb).more hb.size
  replace hSb := (hSb.below hb).more hb.size
  replace hSu := (hSu.below hb).more hb.size
  replace hSx := (hSx.below hb).more hb.size
  replace hSc := (hSc.below hb).more hb.size
  replace hSd := (hSd.below hb).more hb.size
  replace hSy := (hSy.below hb).more hb.size
  replace hSz := (hSz.below hb).more hb.size
  replace hI1 := Uni.ints_more (hI1.below hb) hb.size
  replace hI2 := Uni.ints_more (hI2.below hb) hb.size
  replace hbw := hbw.trans (hb.mono hbw.size)
  clear hb
  have s1 := size_range La 0 k (by have := HVa.out; simp only [Valid.vl, Bool.and_eq_true] at this; exact this.2) (by omega)
  have s2 := size_range Lc 0 k (by have := HVc.out; simp only [Valid.vl, Bool.and_eq_true] at this; exact this.2) (by omega)
  have s3 := compl_size k La Lc (by omega) (by have := HVa.out; simp only [Valid.vl, Bool.and_eq_true] at this; exact this.2) (by have := HVc.out; simp only [Valid.vl, Bool.and_eq_true] at this; exact this.2) (HIc.out.1 rfl).2
  have e1 : RefAsk.countI (k : Int) La = size La := by unfold RefAsk.countI; rw [HVa.out]; rfl
  have e2 : RefAsk.countI (k : Int) Lc = size Lc := by unfold RefAsk.countI; rw [HVc.out]; rfl
  rw [← e1] at s1 s3
  rw [← e2] at s2 s3
  clear e1 e2
  generalize RefAsk.countI (k : Int) La = m1 at *
  generalize RefAsk.countI (k : Int) Lc = m2 at *
  have s4 : (m1 + m2 == (k : Int)) = true := by rw [beq_iff_eq]; exact s3
  clear s3
  go_wp2_with fail
  go_ret
  exact ⟨Nums.retb (by simp), hbw⟩

theorem readable : ∀ t ∈ Try.f10.params.toList, Try.prog.readableRec t = true ∧ t < Try.prog.types.size := by
  rw [Try.params10]
  exact Frame.rrs _ rfl

set_option maxRecDepth 100000 in
theorem lifted (os : Os) (started : os.Started) (H : Type) (enc : TypeId × Value → H) :
    ReturnsInHanded {} Try.checked os 10 .any (Rows.residueDeMorganSpec.pre6 enc Try.prog Try.f10 Rows.residueDeMorganRow.domain false) (Rows.residueDeMorganSpec.post enc Try.prog Try.f10 false true false false) := by
  refine returnsInHanded_of_change (C := Try.checked) own started (by kernel_rfl) Try.func10
    (ChangeSpec.witness6 (enc := enc) (C := Try.checked) false ⟨#[], #[.int .i64 0, .slice none 0 0, .slice none 0 0], []⟩ 8 (by kernel_rfl) (by kernel_rfl) (by kernel_rfl) (by kernel_rfl)) ?_
  intro W base args ds gs before hval0 hW hcnd _
  have hval : ∀ (j : Nat) t v, Try.f10.params[j]? = some t → args[j]? = some v → Value.okWide Try.prog W .any base t v := hval0
  have hW' := hW
  obtain ⟨p, q, hA0, hV, rfl, hfz, hnd⟩ := hW
  have hA : DataW.TrodAll enc Try.prog W 0 (fun _ => true) true Try.f10.params.toList args.toList ds p := hA0
  rw [Try.params10] at hA hval
  obtain ⟨v0, vs0, d0, ds0, p0, q0, hargs, rfl, rfl, h0, r0⟩ := trodAll_cons hA
  obtain ⟨v1, vs1, d1, ds1, p1, q1, rfl, rfl, rfl, h1, r1⟩ := trodAll_cons r0
  obtain ⟨v2, vs2, d2, ds2, p2, q2, rfl, rfl, rfl, h2, r2⟩ := trodAll_cons r1
  obtain ⟨rfl, rfl, rfl⟩ := trodAll_nil r2
  obtain rfl : args = #[v0, v1, v2] := by cases args; simp_all
  obtain ⟨rfl, rfl⟩ := trodVars_none hV
  obtain ⟨a0, rfl, _, _, w0⟩ := open_int Try.underlying3 (hval 0 3 v0 rfl rfl) h0
  obtain ⟨A1, n1, c1, rfl, hI1, hn1, hc1⟩ := Frame.arg_ints (hval 1 35 v1 rfl rfl) h1
  obtain ⟨A2, n2, c2, rfl, hI2, hn2, hc2⟩ := Frame.arg_ints (hval 2 35 v2 rfl rfl) h2
  clear hA0 hval0
  refine (walk a0 w0 A1 n1 c1 hn1 hc1 A2 n2 c2 hn2 hc2 W hI1 hI2).mono fun e W' ⟨he, hg⟩ => ?_
  subst he
  exact ⟨_, rfl, Frame.post_law (t4 := 4) Frame.laid readable Try.underlying4 rfl rfl rfl rfl rfl rfl hW' hg⟩

theorem over : Rows.residueDeMorganRow.holds Try.pinned (OpenSpec.ofChange Rows.residueDeMorganSpec) :=
  OpenClaim.holds_of_wide 10 Try.f10 rfl rfl rfl rfl rfl rfl rfl ⟨rfl, rfl, rfl, rfl, rfl⟩ rfl rfl rfl rfl rfl (by kernel_rfl) Try.func10 (by kernel_rfl)
    (of_decide_eq_true (by kernel_rfl)) (by unfold Func.isWrapper; first | (rw [if_pos (by decide +kernel)]; kernel_rfl) | (rw [if_neg (by decide +kernel)]; exact ⟨rfl, rfl⟩))
    (fun os started H enc _ => lifted os started H enc)

theorem proved : Rows.ResidueDeMorganSaid :=
  over
#print axioms proved
end Go.Proofs.Ytapflikdoiedeaa.residueDeMorgan
