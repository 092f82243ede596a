/-
  It is proved that railplanlaw2.ResidueSumOfShifts returns true and changes nothing. Conditions: none.
-/
import Derived.Test.YtapflikdoiedeaaFrame
import Derived.Test.YtapflikdoiedeaaUni
import Derived.Test.YtapflikdoiedeaaAsk
import Derived.Test.YtapflikdoiedeaaCMath
import Derived.ProofKit
import Derived.OpenShut
namespace Go.Proofs.Ytapflikdoiedeaa.residueSumOfShifts
open Go.ChangeShapes Go.WideShapes Go.ChangeAt Go.RowKit Plain Mem
set_option linter.unusedVariables false

theorem own : ownKnob Try.prog.godebug = none := by kernel_rfl

set_option maxHeartbeats 1600000 in
theorem walk (a0 : Int) (w0 : (Lit.int .i64 a0).wf = true) (A1 : Option Addr) (n1 c1 : Nat) (hn1 : n1 ≤ c1) (hc1 : c1 ≤ 9223372036854775807) (a2 : Int) (w2 : (Lit.int .i64 a2).wf = true) (a3 : Int) (w3 : (Lit.int .i64 a3).wf = true) (w : World) (hI1 : Source.Ints w w.heap.size A1 n1) :
    Calls Try.prog 11 #[.int .i64 a0, .slice A1 n1 c1, .int .i64 a2, .int .i64 a3] w fun e w' => e = .returned (.bool true) ∧ Below w.heap.size w w' := by
  have b0 := bounds_i64 w0
  have b2 := bounds_i64 w2
  have b3 := bounds_i64 w3
  go_enter Try.func11, Try.ntmps11
  have hbw : Below w.heap.size w w := Below.refl _ _
  go_wp2_with fail
  refine (Nums.period_any a0 _ (by omega) (by omega)).mono ?_
  rintro e w1 ⟨p, hp0, hp1, rfl, rfl⟩
  obtain ⟨k, rfl⟩ : ∃ k : Nat, p = k := ⟨p.toNat, by omega⟩
  go_wp2_with fail
  refine (Source.set_any k A1 n1 c1 _ (by omega) (by omega) hI1 (by omega)).mono ?_
  rintro e w1 ⟨Aa, na, ca, La, rfl, hOa, hva, hb⟩
  replace hI1 := Uni.ints_more (hI1.below hb) hb.size
  replace hbw := hbw.trans (hb.mono hbw.size)
  clear hb
  have hSa := hOa.spans
  have HVa := Lib.hid hva
  obtain ⟨hna, hca⟩ := Uni.own_form hOa
  clear hOa hva
  have hr := Nums.pick_range a2 k (by omega)
  have hs := Nums.pick_range a3 (5 * (k : Int)) (by omega)
  go_wp2_with fail
  refine (Nums.pick_any a2 _ _ (by omega) (by omega) (by omega) (by omega)).mono ?_
  rintro e w1 ⟨rfl, rfl⟩
  go_wp2_with fail
  refine (Nums.pick_any a3 _ _ (by omega) (by omega) (by omega) (by omega)).mono ?_
  rintro e w1 ⟨rfl, rfl⟩
  generalize Nums.pick a2 (k : Int) = X at *
  generalize Nums.pick a3 (5 * (k : Int)) = Y at *
  have EM : Hid (Uni.mk (k : Int) = 0) := by simp [Hid, Uni.mk, (Nums.vp_iff (k : Int)).2 ⟨by omega, by omega⟩]
  go_wp2_with fail
  refine (Uni.make_x k X 1 _ 0 EM.out (by omega) (by omega) (by omega) (by omega) (by omega) (by omega)).mono ?_
  rintro e w1 ⟨Ao, no, co, Lo, rfl, hOo, hno, hco, hIso, hb⟩
  replace hSa := (hSa.below hb).more hb.size
  replace hI1 := Uni.ints_more (hI1.below hb) hb.size
  replace hbw := hbw.trans (hb.mono hbw.size)
  clear hb
  have hSo := hOo.spans
  have HIo := Lib.hid hIso
  clear hOo hIso
  have HVo : Hid (Valid.vl (k : Int) Lo = true) := Uni.is_vl HIo.out rfl ⟨by omega, by omega⟩
  have HL1 := Lib.hid (one_list k X Lo (by omega) (by omega) (HIo.out.1 rfl).1 (HIo.out.1 rfl).2)
  have Eao : Hid (Errs.er (k : Int) [La, Lo] = 0) := (Errs.er_two _ _ _).2 ⟨HVa.out, HVo.out⟩
  go_wp2_with fail
  refine (Uni.sum_x k Aa na ca La Ao no co Lo _ 0 Eao.out (by omega) (by omega) hSa hna hca hSo hno hco).mono ?_
  rintro e w1 ⟨As, ns, cs, Ls, rfl, hOs, hns, hcs, hIss, hb⟩
  replace hSa := (hSa.below hb).more hb.size
  replace hSo := (hSo.below hb).more hb.size
  replace hI1 := Uni.ints_more (hI1.below hb) hb.size
  replace hbw := hbw.trans (hb.mono hbw.size)
  clear hb
  have hSs := hOs.spans
  have HIs := Lib.hid hIss
  clear hOs hIss
  have Ea : Hid (Errs.er (k : Int) [La] = 0) := (Errs.er_one _ _).2 HVa.out
  go_wp2_with fail
  refine (Uni.shift_x k Aa na ca La X _ 0 Ea.out (by omega) (by omega) (by omega) (by omega) hSa hna hca).mono ?_
  rintro e w1 ⟨Ah, nh, ch, Lh, rfl, hOh, hnh, hch, hIsh, hb⟩
  replace hSa := (hSa.below hb).more hb.size
  replace hSo := (hSo.below hb).more hb.size
  replace hSs := (hSs.below hb).more hb.size
  replace hI1 := Uni.ints_more (hI1.below hb) hb.size
  replace hbw := hbw.trans (hb.mono hbw.size)
  clear hb
  have hSh := hOh.spans
  have HIh := Lib.hid hIsh
  clear hOh hIsh
  have HVh : Hid (Valid.vl (k : Int) Lh = true) := Uni.is_vl HIh.out rfl ⟨by omega, by omega⟩
  have Eh : Hid (Errs.er (k : Int) [Lh] = 0) := (Errs.er_one _ _).2 HVh.out
  go_wp2_with fail
  refine (Uni.shift_x k Ah nh ch Lh Y _ 0 Eh.out (by omega) (by omega) (by omega) (by omega) hSh hnh hch).mono ?_
  rintro e w1 ⟨Aq, nq, cq, Lq, rfl, hOq, hnq, hcq, hIsq, hb⟩
  replace hSa := (hSa.below hb).more hb.size
  replace hSo := (hSo.below hb).more hb.size
  replace hSs := (hSs.below hb).more hb.size
  replace hSh := (hSh.below hb).more hb.size
  replace hI1 := Uni.ints_more (hI1.below hb) hb.size
  replace hbw := hbw.trans (hb.mono hbw.size)
  clear hb
  have hSq := hOq.spans
  have HIq := Lib.hid hIsq
  clear hOq hIsq
  go_wp2_with fail
  refine (Uni.shift_x k Aa na ca La (X + Y) _ 0 Ea.out (by omega) (by omega) (by omega) (by omega) hSa hna hca).mono ?_
  rintro e w1 ⟨Ar, nr, cr, Lr, rfl, hOr, hnr, hcr, hIsr, hb⟩
  replace hSa := (hSa.below hb).more hb.size
  replace hSo := (hSo.below hb).more hb.size
  replace hSs := (hSs.below hb).more hb.size
  replace hSh := (hSh.below hb).more hb.size
  replace hSq := (hSq.below hb).more hb.size
  replace hI1 := Uni.ints_more (hI1.below hb) hb.size
  replace hbw := hbw.trans (hb.mono hbw.size)
  clear hb
  have hSr := hOr.spans
  have HIr := Lib.hid hIsr
  clear hOr hIsr
  go_wp2_with fail
  refine (Uni.awake_any _).mono ?_
  rintro e w1 ⟨rfl, hb⟩
  replace hSa := (hSa.below hb).more hb.size
  replace hSo := (hSo.below hb).more hb.size
  replace hSs := (hSs.below hb).more hb.size
  replace hSh := (hSh.below hb).more hb.size
  replace hSq := (hSq.below hb).more hb.size
  replace hSr := (hSr.below hb).more hb.size
  replace hI1 := Uni.ints_more (hI1.below hb) hb.size
  replace hbw := hbw.trans (hb.mono hbw.size)
  clear hb
  go_wp2_with fail
  refine (Uni.same_yes As ns cs Ls Ah nh ch Lh _ (by
    refine Uni.is_same (Uni.is_congr HIs.out ?_) HIh.out
    intro v h0 h1
    rw [HL1.out]
    exact sum_one k X La v (by omega) (by have := HVa.out; simp only [Valid.vl, Bool.and_eq_true] at this; exact this.2)) hSs (by omega) hSh (by omega)).mono ?_
  rintro e w1 ⟨rfl, hb⟩
  replace hSa := (hSa.below hb).more hb.size
  replace hSo := (hSo.below hb).more hb.size
  replace hSs := (hSs.below hb).more hb.size
  replace hSh := (hSh.below hb).more hb.size
  replace hSq := (hSq.below hb).more hb.size
  replace hSr := (hSr.below hb).more hb.size
  replace hI1 := Uni.ints_more (hI1.below hb) hb.size
  replace hbw := hbw.trans (hb.mono hbw.size)
  clear hb
  go_wp2_with fail
  refine (Uni.same_yes Aq nq cq Lq Ar nr cr Lr _ (by
    refine Uni.is_same (Uni.is_congr HIq.out ?_) HIr.out
    intro v h0 h1
    exact turned_twice k X Y v La Lh (by omega) (HIh.out.1 rfl).2) hSq (by omega) hSr (by omega)).mono ?_
  rintro e w1 ⟨rfl, hb⟩
  replace hSa := (hSa.below hb).more hb.size
  replace hSo := (hSo.below hb).more hb.size
  replace hSs := (hSs.below hb).more hb.size
  replace hSh := (hSh.below hb).more hb.size
  replace hSq := (hSq.below hb).more hb.size
  replace hSr := (hSr.below hb).more hb.size
  replace hI1 := Uni.ints_more (hI1.below hb) hb.size
  replace hbw := hbw.trans (hb.mono hbw.size)
  clear hb
  go_wp2_with fail
  refine (Ask.count_any k Ah nh ch Lh _ (by omega) (by omega) hSh (by omega)).mono ?_
  rintro e w1 ⟨rfl, hb⟩
  replace hSa := (hSa.below hb).more hb.size
  replace hSo := (hSo.below hb).more hb.size
  replace hSs := (hSs.below hb).more hb.size
  replace hSh := (hSh.below hb).more hb.size
  replace hSq := (hSq.below hb).more hb.size
  replace hSr := (hSr.below hb).more hb.size
  replace hI1 := Uni.ints_more (hI1.below hb) hb.size
  replace hbw := hbw.trans (hb.mono hbw.size)
  clear hb
  go_wp2_with fail
  refine (Ask.count_any k Aa na ca La _ (by omega) (by omega) hSa (by omega)).mono ?_
  rintro e w1 ⟨rfl, hb⟩
  replace hSa := (hSa.below hb).more hb.size
  replace hSo := (hSo.below hb).more hb.size
  replace hSs := (hSs.below hb).more hb.size
  replace hSh := (hSh.below hb).more hb.size
  replace hSq := (hSq.below hb).more hb.size
  replace hSr := (hSr.below hb).more hb.size
  replace hI1 := Uni.ints_more (hI1.below hb) hb.size
  replace hbw := hbw.trans (hb.mono hbw.size)
  clear hb
  have s3 := turned_size k X La Lh (by omega) (by have := HVa.out; simp only [Valid.vl, Bool.and_eq_true] at this; exact this.2) (HIh.out.1 rfl).1 (HIh.out.1 rfl).2
  have e1 : RefAsk.countI (k : Int) La = size La := by unfold RefAsk.countI; rw [HVa.out]; rfl
  have e2 : RefAsk.countI (k : Int) Lh = size Lh := by unfold RefAsk.countI; rw [HVh.out]; rfl
  have s4 : (RefAsk.countI (k : Int) Lh == RefAsk.countI (k : Int) La) = true := by rw [beq_iff_eq, e1, e2]; exact s3
  clear s3 e1 e2
  go_wp2_with fail
  go_ret
  exact ⟨Nums.retb (by simp), hbw⟩

theorem readable : ∀ t ∈ Try.f11.params.toList, Try.prog.readableRec t = true ∧ t < Try.prog.types.size := by
  rw [Try.params11]
  exact Frame.rrs _ rfl

set_option maxRecDepth 100000 in
theorem lifted (os : Os) (started : os.Started) (H : Type) (enc : TypeId × Value → H) :
    ReturnsInHanded {} Try.checked os 11 .any (Rows.residueSumOfShiftsSpec.pre6 enc Try.prog Try.f11 Rows.residueSumOfShiftsRow.domain false) (Rows.residueSumOfShiftsSpec.post enc Try.prog Try.f11 false true false false) := by
  refine returnsInHanded_of_change (C := Try.checked) own started (by kernel_rfl) Try.func11
    (ChangeSpec.witness6 (enc := enc) (C := Try.checked) false ⟨#[], #[.int .i64 0, .slice none 0 0, .int .i64 0, .int .i64 0], []⟩ 8 (by kernel_rfl) (by kernel_rfl) (by kernel_rfl) (by kernel_rfl)) ?_
  intro W base args ds gs before hval0 hW hcnd _
  have hval : ∀ (j : Nat) t v, Try.f11.params[j]? = some t → args[j]? = some v → Value.okWide Try.prog W .any base t v := hval0
  have hW' := hW
  obtain ⟨p, q, hA0, hV, rfl, hfz, hnd⟩ := hW
  have hA : DataW.TrodAll enc Try.prog W 0 (fun _ => true) true Try.f11.params.toList args.toList ds p := hA0
  rw [Try.params11] at hA hval
  obtain ⟨v0, vs0, d0, ds0, p0, q0, hargs, rfl, rfl, h0, r0⟩ := trodAll_cons hA
  obtain ⟨v1, vs1, d1, ds1, p1, q1, rfl, rfl, rfl, h1, r1⟩ := trodAll_cons r0
  obtain ⟨v2, vs2, d2, ds2, p2, q2, rfl, rfl, rfl, h2, r2⟩ := trodAll_cons r1
  obtain ⟨v3, vs3, d3, ds3, p3, q3, rfl, rfl, rfl, h3, r3⟩ := trodAll_cons r2
  obtain ⟨rfl, rfl, rfl⟩ := trodAll_nil r3
  obtain rfl : args = #[v0, v1, v2, v3] := by cases args; simp_all
  obtain ⟨rfl, rfl⟩ := trodVars_none hV
  obtain ⟨a0, rfl, _, _, w0⟩ := open_int Try.underlying3 (hval 0 3 v0 rfl rfl) h0
  obtain ⟨A1, n1, c1, rfl, hI1, hn1, hc1⟩ := Frame.arg_ints (hval 1 35 v1 rfl rfl) h1
  obtain ⟨a2, rfl, _, _, w2⟩ := open_int Try.underlying3 (hval 2 3 v2 rfl rfl) h2
  obtain ⟨a3, rfl, _, _, w3⟩ := open_int Try.underlying3 (hval 3 3 v3 rfl rfl) h3
  clear hA0 hval0
  refine (walk a0 w0 A1 n1 c1 hn1 hc1 a2 w2 a3 w3 W hI1).mono fun e W' ⟨he, hg⟩ => ?_
  subst he
  exact ⟨_, rfl, Frame.post_law (t4 := 4) Frame.laid readable Try.underlying4 rfl rfl rfl rfl rfl rfl hW' hg⟩

theorem over : Rows.residueSumOfShiftsRow.holds Try.pinned (OpenSpec.ofChange Rows.residueSumOfShiftsSpec) :=
  OpenClaim.holds_of_wide 11 Try.f11 rfl rfl rfl rfl rfl rfl rfl ⟨rfl, rfl, rfl, rfl, rfl⟩ rfl rfl rfl rfl rfl (by kernel_rfl) Try.func11 (by kernel_rfl)
    (of_decide_eq_true (by kernel_rfl)) (by unfold Func.isWrapper; first | (rw [if_pos (by decide +kernel)]; kernel_rfl) | (rw [if_neg (by decide +kernel)]; exact ⟨rfl, rfl⟩))
    (fun os started H enc _ => lifted os started H enc)

theorem proved : Rows.ResidueSumOfShiftsSaid :=
  over
#print axioms proved
end Go.Proofs.Ytapflikdoiedeaa.residueSumOfShifts
