/-
  It is proved that railplanlaw2.ResidueShiftAndSum returns true and changes nothing. Conditions: none.
-/
import Derived.Test.YtapflikdoiedeaaFrame
import Derived.Test.YtapflikdoiedeaaUni
import Derived.ProofKit
import Derived.OpenShut
namespace Go.Proofs.Ytapflikdoiedeaa.residueShiftAndSum
open Go.ChangeShapes Go.WideShapes Go.ChangeAt Go.RowKit Plain Mem
set_option linter.unusedVariables false

theorem own : ownKnob Try.prog.godebug = none := by kernel_rfl

set_option maxHeartbeats 1600000 in
theorem walk (a0 : Int) (w0 : (Lit.int .i64 a0).wf = true) (A1 : Option Addr) (n1 c1 : Nat) (hn1 : n1 ≤ c1) (hc1 : c1 ≤ 9223372036854775807) (A2 : Option Addr) (n2 c2 : Nat) (hn2 : n2 ≤ c2) (hc2 : c2 ≤ 9223372036854775807) (a3 : Int) (w3 : (Lit.int .i64 a3).wf = true) (A4 : Option Addr) (n4 c4 : Nat) (L4 : List Sp) (hn4 : n4 ≤ c4) (hc4 : c4 ≤ 9223372036854775807) (b5 : Bool) (w : World) (hI1 : Source.Ints w w.heap.size A1 n1) (hI2 : Source.Ints w w.heap.size A2 n2) (hS4 : Spans w w.heap.size A4 n4 L4) :
    Calls Try.prog 7 #[.int .i64 a0, .slice A1 n1 c1, .slice A2 n2 c2, .int .i64 a3, .slice A4 n4 c4, .bool b5] w fun e w' => e = .returned (.bool true) ∧ Below w.heap.size w w' := by
  cases b5 with
  | true =>
    have b0 := bounds_i64 w0
    have b3 := bounds_i64 w3
    go_enter Try.func7, Try.ntmps7
    have hbw : Below w.heap.size w w := Below.refl _ _
    go_wp2_with fail
    refine (Nums.period_any a0 _ (by omega) (by omega)).mono ?_
    rintro e w1 ⟨p, hp0, hp1, rfl, rfl⟩
    obtain ⟨k, rfl⟩ : ∃ k : Nat, p = k := ⟨p.toNat, by omega⟩
    go_wp2_with fail
    refine (Source.set_any k A1 n1 c1 _ (by omega) (by omega) hI1 (by omega)).mono ?_
    rintro e w1 ⟨Aa, na, ca, La, rfl, hOa, hva, hb⟩
    replace hS4 := (hS4.below hb).more hb.size
    replace hI1 := Uni.ints_more (hI1.below hb) hb.size
    replace hI2 := Uni.ints_more (hI2.below hb) hb.size
    replace hbw := hbw.trans (hb.mono hbw.size)
    clear hb
    have hSa := hOa.spans
    have HVa := Lib.hid hva
    obtain ⟨hna, hca⟩ := Uni.own_form hOa
    clear hOa hva
    go_wp2_with fail
    refine (Source.set_any k A2 n2 c2 _ (by omega) (by omega) hI2 (by omega)).mono ?_
    rintro e w1 ⟨Ab, nb, cb, Lb, rfl, hOb, hvb, hb⟩
    replace hS4 := (hS4.below hb).more hb.size
    replace hSa := (hSa.below hb).more hb.size
    replace hI1 := Uni.ints_more (hI1.below hb) hb.size
    replace hI2 := Uni.ints_more (hI2.below hb) hb.size
    replace hbw := hbw.trans (hb.mono hbw.size)
    clear hb
    have hSb := hOb.spans
    have HVb := Lib.hid hvb
    obtain ⟨hnb, hcb⟩ := Uni.own_form hOb
    clear hOb hvb
    obtain ⟨x, hx⟩ : ∃ x, Errs.er (k : Int) [La, L4] = x := ⟨_, rfl⟩
    have HX := Lib.hid hx
    clear hx
    obtain ⟨y, hy⟩ : ∃ y, Errs.er (k : Int) [L4] = y := ⟨_, rfl⟩
    have HY := Lib.hid hy
    clear hy
    go_wp2_with fail
    refine (Uni.shift_x k A4 n4 c4 L4 a3 _ y HY.out (by omega) (by omega) (by omega) (by omega) hS4 hn4 hc4).mono ?_
    rintro e w1 ⟨Au, nu, cu, Lu, rfl, hOu, hnu, hcu, hIsu, hb⟩
    replace hS4 := (hS4.below hb).more hb.size
    replace hSa := (hSa.below hb).more hb.size
    replace hSb := (hSb.below hb).more hb.size
    replace hI1 := Uni.ints_more (hI1.below hb) hb.size
    replace hI2 := Uni.ints_more (hI2.below hb) hb.size
    replace hbw := hbw.trans (hb.mono hbw.size)
    clear hb
    have hSu := hOu.spans
    have HIu := Lib.hid hIsu
    clear hOu hIsu
    go_wp2_with fail
    refine (Uni.shiftref_x k A4 n4 c4 L4 a3 _ y HY.out (by omega) (by omega) (by omega) (by omega) hS4 hn4 hc4).mono ?_
    rintro e w1 ⟨Av, nv, cv, Lv, rfl, hOv, hnv, hcv, hIsv, hb⟩
    replace hS4 := (hS4.below hb).more hb.size
    replace hSa := (hSa.below hb).more hb.size
    replace hSb := (hSb.below hb).more hb.size
    replace hSu := (hSu.below hb).more hb.size
    replace hI1 := Uni.ints_more (hI1.below hb) hb.size
    replace hI2 := Uni.ints_more (hI2.below hb) hb.size
    replace hbw := hbw.trans (hb.mono hbw.size)
    clear hb
    have hSv := hOv.spans
    have HIv := Lib.hid hIsv
    clear hOv hIsv
    go_wp2_with fail
    refine (Uni.sum_x k Aa na ca La A4 n4 c4 L4 _ x HX.out (by omega) (by omega) hSa hna hca hS4 hn4 hc4).mono ?_
    rintro e w1 ⟨Ai, ni, ci, Li, rfl, hOi, hni, hci, hIsi, hb⟩
    replace hS4 := (hS4.below hb).more hb.size
    replace hSa := (hSa.below hb).more hb.size
    replace hSb := (hSb.below hb).more hb.size
    replace hSu := (hSu.below hb).more hb.size
    replace hSv := (hSv.below hb).more hb.size
    replace hI1 := Uni.ints_more (hI1.below hb) hb.size
    replace hI2 := Uni.ints_more (hI2.below hb) hb.size
    replace hbw := hbw.trans (hb.mono hbw.size)
    clear hb
    have hSi := hOi.spans
    have HIi := Lib.hid hIsi
    clear hOi hIsi
    go_wp2_with fail
    refine (Uni.sumref_x k Aa na ca La A4 n4 c4 L4 _ x HX.out (by omega) (by omega) hSa hna hca hS4 hn4 hc4).mono ?_
    rintro e w1 ⟨Aj, nj, cj, Lj, rfl, hOj, hnj, hcj, hIsj, hb⟩
    replace hS4 := (hS4.below hb).more hb.size
    replace hSa := (hSa.below hb).more hb.size
    replace hSb := (hSb.below hb).more hb.size
    replace hSu := (hSu.below hb).more hb.size
    replace hSv := (hSv.below hb).more hb.size
    replace hSi := (hSi.below hb).more hb.size
    replace hI1 := Uni.ints_more (hI1.below hb) hb.size
    replace hI2 := Uni.ints_more (hI2.below hb) hb.size
    replace hbw := hbw.trans (hb.mono hbw.size)
    clear hb
    have hSj := hOj.spans
    have HIj := Lib.hid hIsj
    clear hOj hIsj
    go_wp2_with fail
    refine (Uni.awake_any _).mono ?_
    rintro e w1 ⟨rfl, hb⟩
    replace hS4 := (hS4.below hb).more hb.size
    replace hSa := (hSa.below hb).more hb.size
    replace hSb := (hSb.below hb).more hb.size
    replace hSu := (hSu.below hb).more hb.size
    replace hSv := (hSv.below hb).more hb.size
    replace hSi := (hSi.below hb).more hb.size
    replace hSj := (hSj.below hb).more hb.size
    replace hI1 := Uni.ints_more (hI1.below hb) hb.size
    replace hI2 := Uni.ints_more (hI2.below hb) hb.size
    replace hbw := hbw.trans (hb.mono hbw.size)
    clear hb
    go_wp2_with fail
    refine (Uni.same_yes Au nu cu Lu Av nv cv Lv _ (Uni.is_same HIu.out HIv.out) hSu (by omega) hSv (by omega)).mono ?_
    rintro e w1 ⟨rfl, hb⟩
    replace hS4 := (hS4.below hb).more hb.size
    replace hSa := (hSa.below hb).more hb.size
    replace hSb := (hSb.below hb).more hb.size
    replace hSu := (hSu.below hb).more hb.size
    replace hSv := (hSv.below hb).more hb.size
    replace hSi := (hSi.below hb).more hb.size
    replace hSj := (hSj.below hb).more hb.size
    replace hI1 := Uni.ints_more (hI1.below hb) hb.size
    replace hI2 := Uni.ints_more (hI2.below hb) hb.size
    replace hbw := hbw.trans (hb.mono hbw.size)
    clear hb
    go_wp2_with fail
    refine (Uni.same_yes Ai ni ci Li Aj nj cj Lj _ (Uni.is_same HIi.out HIj.out) hSi (by omega) hSj (by omega)).mono ?_
    rintro e w1 ⟨rfl, hb⟩
    replace hS4 := (hS4.below hb).more hb.size
    replace hSa := (hSa.below hb).more hb.size
    replace hSb := (hSb.below hb).more hb.size
    replace hSu := (hSu.below hb).more hb.size
    replace hSv := (hSv.below hb).more hb.size
    replace hSi := (hSi.below hb).more hb.size
    replace hSj := (hSj.below hb).more hb.size
    replace hI1 := Uni.ints_more (hI1.below hb) hb.size
    replace hI2 := Uni.ints_more (hI2.below hb) hb.size
    replace hbw := hbw.trans (hb.mono hbw.size)
    clear hb
    go_wp2_with fail
    go_ret
    exact ⟨rfl, hbw⟩
  | false =>
    have b0 := bounds_i64 w0
    have b3 := bounds_i64 w3
    go_enter Try.func7, Try.ntmps7
    have hbw : Below w.heap.size w w := Below.refl _ _
    go_wp2_with fail
    refine (Nums.period_any a0 _ (by omega) (by omega)).mono ?_
    rintro e w1 ⟨p, hp0, hp1, rfl, rfl⟩
    obtain ⟨k, rfl⟩ : ∃ k : Nat, p = k := ⟨p.toNat, by omega⟩
    go_wp2_with fail
    refine (Source.set_any k A1 n1 c1 _ (by omega) (by omega) hI1 (by omega)).mono ?_
    rintro e w1 ⟨Aa, na, ca, La, rfl, hOa, hva, hb⟩
    replace hS4 := (hS4.below hb).more hb.size
    replace hI1 := Uni.ints_more (hI1.below hb) hb.size
    replace hI2 := Uni.ints_more (hI2.below hb) hb.size
    replace hbw := hbw.trans (hb.mono hbw.size)
    clear hb
    have hSa := hOa.spans
    have HVa := Lib.hid hva
    obtain ⟨hna, hca⟩ := Uni.own_form hOa
    clear hOa hva
    go_wp2_with fail
    refine (Source.set_any k A2 n2 c2 _ (by omega) (by omega) hI2 (by omega)).mono ?_
    rintro e w1 ⟨Ab, nb, cb, Lb, rfl, hOb, hvb, hb⟩
    replace hS4 := (hS4.below hb).more hb.size
    replace hSa := (hSa.below hb).more hb.size
    replace hI1 := Uni.ints_more (hI1.below hb) hb.size
    replace hI2 := Uni.ints_more (hI2.below hb) hb.size
    replace hbw := hbw.trans (hb.mono hbw.size)
    clear hb
    have hSb := hOb.spans
    have HVb := Lib.hid hvb
    obtain ⟨hnb, hcb⟩ := Uni.own_form hOb
    clear hOb hvb
    obtain ⟨x, hx⟩ : ∃ x, Errs.er (k : Int) [La, Lb] = x := ⟨_, rfl⟩
    have HX := Lib.hid hx
    clear hx
    obtain ⟨y, hy⟩ : ∃ y, Errs.er (k : Int) [Lb] = y := ⟨_, rfl⟩
    have HY := Lib.hid hy
    clear hy
    go_wp2_with fail
    refine (Uni.shift_x k Ab nb cb Lb a3 _ y HY.out (by omega) (by omega) (by omega) (by omega) hSb hnb hcb).mono ?_
    rintro e w1 ⟨Au, nu, cu, Lu, rfl, hOu, hnu, hcu, hIsu, hb⟩
    replace hS4 := (hS4.below hb).more hb.size
    replace hSa := (hSa.below hb).more hb.size
    replace hSb := (hSb.below hb).more hb.size
    replace hI1 := Uni.ints_more (hI1.below hb) hb.size
    replace hI2 := Uni.ints_more (hI2.below hb) hb.size
    replace hbw := hbw.trans (hb.mono hbw.size)
    clear hb
    have hSu := hOu.spans
    have HIu := Lib.hid hIsu
    clear hOu hIsu
    go_wp2_with fail
    refine (Uni.shiftref_x k Ab nb cb Lb a3 _ y HY.out (by omega) (by omega) (by omega) (by omega) hSb hnb hcb).mono ?_
    rintro e w1 ⟨Av, nv, cv, Lv, rfl, hOv, hnv, hcv, hIsv, hb⟩
    replace hS4 := (hS4.below hb).more hb.size
    replace hSa := (hSa.below hb).more hb.size
    replace hSb := (hSb.below hb).more hb.size
    replace hSu := (hSu.below hb).more hb.size
    replace hI1 := Uni.ints_more (hI1.below hb) hb.size
    replace hI2 := Uni.ints_more (hI2.below hb) hb.size
    replace hbw := hbw.trans (hb.mono hbw.size)
    clear hb
    have hSv := hOv.spans
    have HIv := Lib.hid hIsv
    clear hOv hIsv
    go_wp2_with fail
    refine (Uni.sum_x k Aa na ca La Ab nb cb Lb _ x HX.out (by omega) (by omega) hSa hna hca hSb hnb hcb).mono ?_
    rintro e w1 ⟨Ai, ni, ci, Li, rfl, hOi, hni, hci, hIsi, hb⟩
    replace hS4 := (hS4.below hb).more hb.size
    replace hSa := (hSa.below hb).more hb.size
    replace hSb := (hSb.below hb).more hb.size
    replace hSu := (hSu.below hb).more hb.size
    replace hSv := (hSv.below hb).more hb.size
    replace hI1 := Uni.ints_more (hI1.below hb) hb.size
    replace hI2 := Uni.ints_more (hI2.below hb) hb.size
    replace hbw := hbw.trans (hb.mono hbw.size)
    clear hb
    have hSi := hOi.spans
    have HIi := Lib.hid hIsi
    clear hOi hIsi
    go_wp2_with fail
    refine (Uni.sumref_x k Aa na ca La Ab nb cb Lb _ x HX.out (by omega) (by omega) hSa hna hca hSb hnb hcb).mono ?_
    rintro e w1 ⟨Aj, nj, cj, Lj, rfl, hOj, hnj, hcj, hIsj, hb⟩
    replace hS4 := (hS4.below hb).more hb.size
    replace hSa := (hSa.below hb).more hb.size
    replace hSb := (hSb.below hb).more hb.size
    replace hSu := (hSu.below hb).more hb.size
    replace hSv := (hSv.below hb).more hb.size
    replace hSi := (hSi.below hb).more hb.size
    replace hI1 := Uni.ints_more (hI1.below hb) hb.size
    replace hI2 := Uni.ints_more (hI2.below hb) hb.size
    replace hbw := hbw.trans (hb.mono hbw.size)
    clear hb
    have hSj := hOj.spans
    have HIj := Lib.hid hIsj
    clear hOj hIsj
    go_wp2_with fail
    refine (Uni.awake_any _).mono ?_
    rintro e w1 ⟨rfl, hb⟩
    replace hS4 := (hS4.below hb).more hb.size
    replace hSa := (hSa.below hb).more hb.size
    replace hSb := (hSb.below hb).more hb.size
    replace hSu := (hSu.below hb).more hb.size
    replace hSv := (hSv.below hb).more hb.size
    replace hSi := (hSi.below hb).more hb.size
    replace hSj := (hSj.below hb).more hb.size
    replace hI1 := Uni.ints_more (hI1.below hb) hb.size
    replace hI2 := Uni.ints_more (hI2.below hb) hb.size
    replace hbw := hbw.trans (hb.mono hbw.size)
    clear hb
    go_wp2_with fail
    refine (Uni.same_yes Au nu cu Lu Av nv cv Lv _ (Uni.is_same HIu.out HIv.out) hSu (by omega) hSv (by omega)).mono ?_
    rintro e w1 ⟨rfl, hb⟩
    replace hS4 := (hS4.below hb).more hb.size
    replace hSa := (hSa.below hb).more hb.size
    replace hSb := (hSb.below hb).more hb.size
    replace hSu := (hSu.below hb).more hb.size
    replace hSv := (hSv.below hb).more hb.size
    replace hSi := (hSi.below hb).more hb.size
    replace hSj := (hSj.below hb).more hb.size
    replace hI1 := Uni.ints_more (hI1.below hb) hb.size
    replace hI2 := Uni.ints_more (hI2.below hb) hb.size
    replace hbw := hbw.trans (hb.mono hbw.size)
    clear hb
    go_wp2_with fail
    refine (Uni.same_yes Ai ni ci Li Aj nj cj Lj _ (Uni.is_same HIi.out HIj.out) hSi (by omega) hSj (by omega)).mono ?_
    rintro e w1 ⟨rfl, hb⟩
    replace hS4 := (hS4.below hb).more hb.size
    replace hSa := (hSa.below hb).more hb.size
    replace hSb := (hSb.below hb).more hb.size
    replace hSu := (hSu.below hb).more hb.size
    replace hSv := (hSv.below hb).more hb.size
    replace hSi := (hSi.below hb).more hb.size
    replace hSj := (hSj.below hb).more hb.size
    replace hI1 := Uni.ints_more (hI1.below hb) hb.size
    replace hI2 := Uni.ints_more (hI2.below hb) hb.size
    replace hbw := hbw.trans (hb.mono hbw.size)
    clear hb
    go_wp2_with fail
    go_ret
    exact ⟨rfl, hbw⟩

theorem readable : ∀ t ∈ Try.f7.params.toList, Try.prog.readableRec t = true ∧ t < Try.prog.types.size := by
  rw [Try.params7]
  exact Frame.rrs _ rfl

set_option maxRecDepth 100000 in
theorem lifted (os : Os) (started : os.Started) (H : Type) (enc : TypeId × Value → H) :
    ReturnsInHanded {} Try.checked os 7 .any (Rows.residueShiftAndSumSpec.pre6 enc Try.prog Try.f7 Rows.residueShiftAndSumRow.domain false) (Rows.residueShiftAndSumSpec.post enc Try.prog Try.f7 false true false false) := by
  refine returnsInHanded_of_change (C := Try.checked) own started (by kernel_rfl) Try.func7
    (ChangeSpec.witness6 (enc := enc) (C := Try.checked) false ⟨#[], #[.int .i64 0, .slice none 0 0, .slice none 0 0, .int .i64 0, .slice none 0 0, .bool false], []⟩ 8 (by kernel_rfl) (by kernel_rfl) (by kernel_rfl) (by kernel_rfl)) ?_
  intro W base args ds gs before hval0 hW hcnd _
  have hval : ∀ (j : Nat) t v, Try.f7.params[j]? = some t → args[j]? = some v → Value.okWide Try.prog W .any base t v := hval0
  have hW' := hW
  obtain ⟨p, q, hA0, hV, rfl, hfz, hnd⟩ := hW
  have hA : DataW.TrodAll enc Try.prog W 0 (fun _ => true) true Try.f7.params.toList args.toList ds p := hA0
  rw [Try.params7] at hA hval
  obtain ⟨v0, vs0, d0, ds0, p0, q0, hargs, rfl, rfl, h0, r0⟩ := trodAll_cons hA
  obtain ⟨v1, vs1, d1, ds1, p1, q1, rfl, rfl, rfl, h1, r1⟩ := trodAll_cons r0
  obtain ⟨v2, vs2, d2, ds2, p2, q2, rfl, rfl, rfl, h2, r2⟩ := trodAll_cons r1
  obtain ⟨v3, vs3, d3, ds3, p3, q3, rfl, rfl, rfl, h3, r3⟩ := trodAll_cons r2
  obtain ⟨v4, vs4, d4, ds4, p4, q4, rfl, rfl, rfl, h4, r4⟩ := trodAll_cons r3
  obtain ⟨v5, vs5, d5, ds5, p5, q5, rfl, rfl, rfl, h5, r5⟩ := trodAll_cons r4
  obtain ⟨rfl, rfl, rfl⟩ := trodAll_nil r5
  obtain rfl : args = #[v0, v1, v2, v3, v4, v5] := by cases args; simp_all
  obtain ⟨rfl, rfl⟩ := trodVars_none hV
  obtain ⟨a0, rfl, _, _, w0⟩ := open_int Try.underlying3 (hval 0 3 v0 rfl rfl) h0
  obtain ⟨A1, n1, c1, rfl, hI1, hn1, hc1⟩ := Frame.arg_ints (hval 1 35 v1 rfl rfl) h1
  obtain ⟨A2, n2, c2, rfl, hI2, hn2, hc2⟩ := Frame.arg_ints (hval 2 35 v2 rfl rfl) h2
  obtain ⟨a3, rfl, _, _, w3⟩ := open_int Try.underlying3 (hval 3 3 v3 rfl rfl) h3
  obtain ⟨A4, n4, c4, L4, rfl, hS4, hn4, hc4⟩ := Frame.arg_spans (hval 4 22 v4 rfl rfl) h4
  obtain ⟨b5, rfl, _, _⟩ := open_bool Try.underlying4 (hval 5 4 v5 rfl rfl) h5
  clear hA0 hval0
  refine (walk a0 w0 A1 n1 c1 hn1 hc1 A2 n2 c2 hn2 hc2 a3 w3 A4 n4 c4 L4 hn4 hc4 b5 W hI1 hI2 hS4).mono fun e W' ⟨he, hg⟩ => ?_
  subst he
  exact ⟨_, rfl, Frame.post_law (t4 := 4) Frame.laid readable Try.underlying4 rfl rfl rfl rfl rfl rfl hW' hg⟩

theorem over : Rows.residueShiftAndSumRow.holds Try.pinned (OpenSpec.ofChange Rows.residueShiftAndSumSpec) :=
  OpenClaim.holds_of_wide 7 Try.f7 rfl rfl rfl rfl rfl rfl rfl ⟨rfl, rfl, rfl, rfl, rfl⟩ rfl rfl rfl rfl rfl (by kernel_rfl) Try.func7 (by kernel_rfl)
    (of_decide_eq_true (by kernel_rfl)) (by unfold Func.isWrapper; first | (rw [if_pos (by decide +kernel)]; kernel_rfl) | (rw [if_neg (by decide +kernel)]; exact ⟨rfl, rfl⟩))
    (fun os started H enc _ => lifted os started H enc)

theorem proved : Rows.ResidueShiftAndSumSaid :=
  over
#print axioms proved
end Go.Proofs.Ytapflikdoiedeaa.residueShiftAndSum
