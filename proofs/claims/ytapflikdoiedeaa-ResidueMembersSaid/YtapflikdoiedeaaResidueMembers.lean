/-
  It is proved that railplanlaw2.ResidueMembers returns true and changes nothing. Conditions: none.
-/
import Derived.Test.YtapflikdoiedeaaFrame
import Derived.Test.YtapflikdoiedeaaUni
import Derived.Test.YtapflikdoiedeaaAids
import Derived.ProofKit
import Derived.OpenShut
namespace Go.Proofs.Ytapflikdoiedeaa.residueMembers
open Go.ChangeShapes Go.WideShapes Go.ChangeAt Go.RowKit Plain Mem
set_option linter.unusedVariables false

theorem own : ownKnob Try.prog.godebug = none := by kernel_rfl

set_option maxHeartbeats 1600000 in
theorem walk (a0 : Int) (w0 : (Lit.int .i64 a0).wf = true) (A1 : Option Addr) (n1 c1 : Nat) (hn1 : n1 ≤ c1) (hc1 : c1 ≤ 9223372036854775807) (A2 : Option Addr) (n2 c2 : Nat) (hn2 : n2 ≤ c2) (hc2 : c2 ≤ 9223372036854775807) (a3 : Int) (w3 : (Lit.int .i64 a3).wf = true) (w : World) (hI1 : Source.Ints w w.heap.size A1 n1) (hI2 : Source.Ints w w.heap.size A2 n2) :
    Calls Try.prog 12 #[.int .i64 a0, .slice A1 n1 c1, .slice A2 n2 c2, .int .i64 a3] w fun e w' => e = .returned (.bool true) ∧ Below w.heap.size w w' := by
  have b0 := bounds_i64 w0
  have b3 := bounds_i64 w3
  go_enter Try.func12, Try.ntmps12
  have hbw : Below w.heap.size w w := Below.refl _ _
  go_wp2_with fail
  refine (Nums.period_any a0 _ (by omega) (by omega)).mono ?_
  rintro e w1 ⟨p, hp0, hp1, rfl, rfl⟩
  obtain ⟨k, rfl⟩ : ∃ k : Nat, p = k := ⟨p.toNat, by omega⟩
  go_wp2_with fail
  refine (Source.set_any k A1 n1 c1 _ (by omega) (by omega) hI1 (by omega)).mono ?_
  rintro e w1 ⟨Aa, na, ca, La, rfl, hOa, hva, hb⟩
  replace hI1 := Uni.ints_more (hI1.below hb) hb.size
  replace hI2 := Uni.ints_more (hI2.below hb) hb.size
  replace hbw := hbw.trans (hb.mono hbw.size)
  clear hb
  have hSa := hOa.spans
  have HVa := Lib.hid hva
  obtain ⟨hna, hca⟩ := Uni.own_form hOa
  clear hOa hva
  go_wp2_with fail
  refine (Source.set_any k A2 n2 c2 _ (by omega) (by omega) hI2 (by omega)).mono ?_
  rintro e w1 ⟨Ab, nb, cb, Lb, rfl, hOb, hvb, hb⟩
  replace hSa := (hSa.below hb).more hb.size
  replace hI1 := Uni.ints_more (hI1.below hb) hb.size
  replace hI2 := Uni.ints_more (hI2.below hb) hb.size
  replace hbw := hbw.trans (hb.mono hbw.size)
  clear hb
  have hSb := hOb.spans
  have HVb := Lib.hid hvb
  obtain ⟨hnb, hcb⟩ := Uni.own_form hOb
  clear hOb hvb
  have Eab : Hid (Errs.er (k : Int) [La, Lb] = 0) := (Errs.er_two _ _ _).2 ⟨HVa.out, HVb.out⟩
  go_wp2_with fail
  refine (Uni.sum_x k Aa na ca La Ab nb cb Lb _ 0 Eab.out (by omega) (by omega) hSa hna hca hSb hnb hcb).mono ?_
  rintro e w1 ⟨As, ns, cs, Ls, rfl, hOs, hns, hcs, hIss, hb⟩
  replace hSa := (hSa.below hb).more hb.size
  replace hSb := (hSb.below hb).more hb.size
  replace hI1 := Uni.ints_more (hI1.below hb) hb.size
  replace hI2 := Uni.ints_more (hI2.below hb) hb.size
  replace hbw := hbw.trans (hb.mono hbw.size)
  clear hb
  have hSs := hOs.spans
  have HIs := Lib.hid hIss
  clear hOs hIss
  have HVs : Hid (Valid.vl (k : Int) Ls = true) := Uni.is_vl HIs.out rfl ⟨by omega, by omega⟩
  have hr := Nums.pick_range a3 k (by omega)
  go_wp2_with fail
  refine (Nums.pick_any a3 _ _ (by omega) (by omega) (by omega) (by omega)).mono ?_
  rintro e w1 ⟨rfl, rfl⟩
  generalize Nums.pick a3 (k : Int) = X at *
  clear hI1 hI2
  go_wp2_with fail
  go_loopw [14, 15] (fun g d wr => ∃ m : Nat, m ≤ k ∧ d = .int .i64 m ∧ g = .bool (Aids.wantB k La Lb X m) ∧ Spans wr wr.heap.size Aa na La ∧ Spans wr wr.heap.size Ab nb Lb ∧ Spans wr wr.heap.size As ns Ls ∧ Below w.heap.size w wr) (fun _ d _ => k - (intOf d).toNat)
  case atStart => exact ⟨0, Nat.zero_le _, rfl, rfl, hSa, hSb, hSs, hbw⟩
  case round =>
    clear hSa hSb hSs hbw
    obtain ⟨m, hm, rfl, rfl, hSa, hSb, hSs, hbw⟩ := hrel
    by_cases hlt : m < k
    · have HW := Lib.hid (Aids.wantB_succ k La Lb X m)
      cases hg : Aids.wantB k La Lb X m with
      | true =>
        have R : Hid (Aids.wantB k La Lb X (m + 1) = true) := by rw [Hid, HW.out, hg]; rfl
        clear hg
        go_wp2
        go_roundw
        case rel => exact ⟨m + 1, by omega, by go_num, by rw [R.out], hSa, hSb, hSs, hbw⟩
        case measure => simp [intOf]; omega
      | false =>
        have em : (m : Int) % (k : Int) = m := Int.emod_eq_of_lt (by omega) (by omega)
        cases ha : mem La (m : Int) with
        | false =>
          have R : Hid (Aids.wantB k La Lb X (m + 1) = false) := by rw [Hid, HW.out, hg, ha]; rfl
          have E1 : Hid (RefAsk.hasB (k : Int) La m = false) := by rw [Hid, Aids.has_at k La m HVa.out, em]; exact ha
          clear hg ha em
          go_wp2_with fail
          refine (Aids.has_is k Aa na ca La m false _ E1.out (by omega) (by omega) (by omega) (by omega) hSa (by omega)).mono ?_
          rintro e w1 ⟨rfl, hb⟩
          replace hSa := (hSa.below hb).more hb.size
          replace hSb := (hSb.below hb).more hb.size
          replace hSs := (hSs.below hb).more hb.size
          replace hbw := hbw.trans (hb.mono hbw.size)
          clear hb
          go_wp2_with fail
          go_roundw
          case rel => exact ⟨m + 1, by omega, by go_num, by rw [R.out], hSa, hSb, hSs, hbw⟩
          case measure => simp [intOf]; omega
        | true =>
          have E1 : Hid (RefAsk.hasB (k : Int) La m = true) := by rw [Hid, Aids.has_at k La m HVa.out, em]; exact ha
          have E2 : Hid (RefAsk.hasB (k : Int) Lb (X - m) = Aids.wantB k La Lb X (m + 1)) := by rw [Hid, Aids.has_at k Lb _ HVb.out, HW.out, hg, ha]; simp
          clear hg ha em
          go_wp2_with fail
          refine (Aids.has_is k Aa na ca La m true _ E1.out (by omega) (by omega) (by omega) (by omega) hSa (by omega)).mono ?_
          rintro e w1 ⟨rfl, hb⟩
          replace hSa := (hSa.below hb).more hb.size
          replace hSb := (hSb.below hb).more hb.size
          replace hSs := (hSs.below hb).more hb.size
          replace hbw := hbw.trans (hb.mono hbw.size)
          clear hb
          go_wp2_with fail
          refine (Aids.has_is k Ab nb cb Lb (X - m) _ _ E2.out (by omega) (by omega) (by omega) (by omega) hSb (by omega)).mono ?_
          rintro e w1 ⟨rfl, hb⟩
          replace hSa := (hSa.below hb).more hb.size
          replace hSb := (hSb.below hb).more hb.size
          replace hSs := (hSs.below hb).more hb.size
          replace hbw := hbw.trans (hb.mono hbw.size)
          clear hb
          go_wp2_with fail
          go_roundw
          case rel => exact ⟨m + 1, by omega, by go_num, rfl, hSa, hSb, hSs, hbw⟩
          case measure => simp [intOf]; omega
    · obtain rfl : m = k := by omega
      have E3 : Hid (RefAsk.hasB (m : Int) Ls X = Aids.wantB m La Lb X m) := by
        rw [Hid, Aids.has_at m Ls X HVs.out, Int.emod_eq_of_lt hr.1 hr.2, (HIs.out.1 rfl).2 X hr.1 hr.2]
        exact (Aids.wantB_all m La Lb X (by omega) (by have := HVa.out; simp only [Valid.vl, Bool.and_eq_true] at this; exact this.2) (by have := HVb.out; simp only [Valid.vl, Bool.and_eq_true] at this; exact this.2) hr.1 hr.2).symm
      generalize Aids.wantB m La Lb X m = g at *
      go_wp2_with fail
      refine (Uni.awake_any _).mono ?_
      rintro e w1 ⟨rfl, hb⟩
      replace hSs := (hSs.below hb).more hb.size
      replace hbw := hbw.trans (hb.mono hbw.size)
      clear hb hSa hSb
      go_wp2_with fail
      refine (Aids.has_is m As ns cs Ls X _ _ E3.out (by omega) (by omega) (by omega) (by omega) hSs (by omega)).mono ?_
      rintro e w1 ⟨rfl, hb⟩
      replace hbw := hbw.trans (hb.mono hbw.size)
      clear hb
      go_wp2_with fail
      go_ret
      exact ⟨Nums.retb (by simp), hbw⟩

theorem readable : ∀ t ∈ Try.f12.params.toList, Try.prog.readableRec t = true ∧ t < Try.prog.types.size := by
  rw [Try.params12]
  exact Frame.rrs _ rfl

set_option maxRecDepth 100000 in
theorem lifted (os : Os) (started : os.Started) (H : Type) (enc : TypeId × Value → H) :
    ReturnsInHanded {} Try.checked os 12 .any (Rows.residueMembersSpec.pre6 enc Try.prog Try.f12 Rows.residueMembersRow.domain false) (Rows.residueMembersSpec.post enc Try.prog Try.f12 false true false false) := by
  refine returnsInHanded_of_change (C := Try.checked) own started (by kernel_rfl) Try.func12
    (ChangeSpec.witness6 (enc := enc) (C := Try.checked) false ⟨#[], #[.int .i64 0, .slice none 0 0, .slice none 0 0, .int .i64 0], []⟩ 8 (by kernel_rfl) (by kernel_rfl) (by kernel_rfl) (by kernel_rfl)) ?_
  intro W base args ds gs before hval0 hW hcnd _
  have hval : ∀ (j : Nat) t v, Try.f12.params[j]? = some t → args[j]? = some v → Value.okWide Try.prog W .any base t v := hval0
  have hW' := hW
  obtain ⟨p, q, hA0, hV, rfl, hfz, hnd⟩ := hW
  have hA : DataW.TrodAll enc Try.prog W 0 (fun _ => true) true Try.f12.params.toList args.toList ds p := hA0
  rw [Try.params12] at hA hval
  obtain ⟨v0, vs0, d0, ds0, p0, q0, hargs, rfl, rfl, h0, r0⟩ := trodAll_cons hA
  obtain ⟨v1, vs1, d1, ds1, p1, q1, rfl, rfl, rfl, h1, r1⟩ := trodAll_cons r0
  obtain ⟨v2, vs2, d2, ds2, p2, q2, rfl, rfl, rfl, h2, r2⟩ := trodAll_cons r1
  obtain ⟨v3, vs3, d3, ds3, p3, q3, rfl, rfl, rfl, h3, r3⟩ := trodAll_cons r2
  obtain ⟨rfl, rfl, rfl⟩ := trodAll_nil r3
  obtain rfl : args = #[v0, v1, v2, v3] := by cases args; simp_all
  obtain ⟨rfl, rfl⟩ := trodVars_none hV
  obtain ⟨a0, rfl, _, _, w0⟩ := open_int Try.underlying3 (hval 0 3 v0 rfl rfl) h0
  obtain ⟨A1, n1, c1, rfl, hI1, hn1, hc1⟩ := Frame.arg_ints (hval 1 35 v1 rfl rfl) h1
  obtain ⟨A2, n2, c2, rfl, hI2, hn2, hc2⟩ := Frame.arg_ints (hval 2 35 v2 rfl rfl) h2
  obtain ⟨a3, rfl, _, _, w3⟩ := open_int Try.underlying3 (hval 3 3 v3 rfl rfl) h3
  clear hA0 hval0
  refine (walk a0 w0 A1 n1 c1 hn1 hc1 A2 n2 c2 hn2 hc2 a3 w3 W hI1 hI2).mono fun e W' ⟨he, hg⟩ => ?_
  subst he
  exact ⟨_, rfl, Frame.post_law (t4 := 4) Frame.laid readable Try.underlying4 rfl rfl rfl rfl rfl rfl hW' hg⟩

theorem over : Rows.residueMembersRow.holds Try.pinned (OpenSpec.ofChange Rows.residueMembersSpec) :=
  OpenClaim.holds_of_wide 12 Try.f12 rfl rfl rfl rfl rfl rfl rfl ⟨rfl, rfl, rfl, rfl, rfl⟩ rfl rfl rfl rfl rfl (by kernel_rfl) Try.func12 (by kernel_rfl)
    (of_decide_eq_true (by kernel_rfl)) (by unfold Func.isWrapper; first | (rw [if_pos (by decide +kernel)]; kernel_rfl) | (rw [if_neg (by decide +kernel)]; exact ⟨rfl, rfl⟩))
    (fun os started H enc _ => lifted os started H enc)

theorem proved : Rows.ResidueMembersSaid :=
  over
#print axioms proved
end Go.Proofs.Ytapflikdoiedeaa.residueMembers
