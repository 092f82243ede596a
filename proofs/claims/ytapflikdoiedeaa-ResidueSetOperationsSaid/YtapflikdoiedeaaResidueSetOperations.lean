/-
  It is proved that railplanlaw2.ResidueSetOperations returns true and changes nothing. Conditions: none.
-/
import Derived.Test.YtapflikdoiedeaaFrame
import Derived.Test.YtapflikdoiedeaaUni
import Derived.ProofKit
import Derived.OpenShut
namespace Go.Proofs.Ytapflikdoiedeaa.residueSetOperations
open Go.ChangeShapes Go.WideShapes Go.ChangeAt Go.RowKit Plain Mem
set_option linter.unusedVariables false

theorem own : ownKnob Try.prog.godebug = none := by kernel_rfl

set_option maxHeartbeats 1600000 in
theorem walk (a0 : Int) (w0 : (Lit.int .i64 a0).wf = true) (A1 : Option Addr) (n1 c1 : Nat) (hn1 : n1 ≤ c1) (hc1 : c1 ≤ 9223372036854775807) (A2 : Option Addr) (n2 c2 : Nat) (hn2 : n2 ≤ c2) (hc2 : c2 ≤ 9223372036854775807) (A3 : Option Addr) (n3 c3 : Nat) (L3 : List Sp) (hn3 : n3 ≤ c3) (hc3 : c3 ≤ 9223372036854775807) (b4 : Bool) (w : World) (hI1 : Source.Ints w w.heap.size A1 n1) (hI2 : Source.Ints w w.heap.size A2 n2) (hS3 : Spans w w.heap.size A3 n3 L3) :
    Calls Try.prog 6 #[.int .i64 a0, .slice A1 n1 c1, .slice A2 n2 c2, .slice A3 n3 c3, .bool b4] w fun e w' => e = .returned (.bool true) ∧ Below w.heap.size w w' := by
  cases b4 with
  | true =>
    have b0 := bounds_i64 w0
    go_enter Try.func6, Try.ntmps6
    have hbw : Below w.heap.size w w := Below.refl _ _
    go_wp2_with fail
    refine (Nums.period_any a0 _ (by omega) (by omega)).mono ?_
    rintro e w1 ⟨p, hp0, hp1, rfl, rfl⟩
    obtain ⟨k, rfl⟩ : ∃ k : Nat, p = k := ⟨p.toNat, by omega⟩
    go_wp2_with fail
    refine (Source.set_any k A1 n1 c1 _ (by omega) (by omega) hI1 (by omega)).mono ?_
    rintro e w1 ⟨Aa, na, ca, La, rfl, hOa, hva, hb⟩
    replace hS3 := (hS3.below hb).more hb.size
    replace hI1 := Uni.ints_more (hI1.below hb) hb.size
    replace hI2 := Uni.ints_more (hI2.below hb) hb.size
    replace hbw := hbw.trans (hb.mono hbw.size)
    clear hb
    have hSa := hOa.spans
    have HVa := Lib.hid hva
    obtain ⟨hna, hca⟩ := Uni.own_form hOa
    clear hOa hva
    go_wp2_with fail
    refine (Source.set_any k A2 n2 c2 _ (by omega) (by omega) hI2 (by omega)).mono ?_
    rintro e w1 ⟨Ab, nb, cb, Lb, rfl, hOb, hvb, hb⟩
    replace hS3 := (hS3.below hb).more hb.size
    replace hSa := (hSa.below hb).more hb.size
    replace hI1 := Uni.ints_more (hI1.below hb) hb.size
    replace hI2 := Uni.ints_more (hI2.below hb) hb.size
    replace hbw := hbw.trans (hb.mono hbw.size)
    clear hb
    have hSb := hOb.spans
    have HVb := Lib.hid hvb
    obtain ⟨hnb, hcb⟩ := Uni.own_form hOb
    clear hOb hvb
    obtain ⟨x, hx⟩ : ∃ x, Errs.er (k : Int) [La, L3] = x := ⟨_, rfl⟩
    have HX := Lib.hid hx
    clear hx
    obtain ⟨y, hy⟩ : ∃ y, Errs.er (k : Int) [L3] = y := ⟨_, rfl⟩
    have HY := Lib.hid hy
    clear hy
    go_wp2_with fail
    refine (Uni.union_x k Aa na ca La A3 n3 c3 L3 _ x HX.out (by omega) (by omega) hSa hna hca hS3 hn3 hc3).mono ?_
    rintro e w1 ⟨Au, nu, cu, Lu, rfl, hOu, hnu, hcu, hIsu, hb⟩
    replace hS3 := (hS3.below hb).more hb.size
    replace hSa := (hSa.below hb).more hb.size
    replace hSb := (hSb.below hb).more hb.size
    replace hI1 := Uni.ints_more (hI1.below hb) hb.size
    replace hI2 := Uni.ints_more (hI2.below hb) hb.size
    replace hbw := hbw.trans (hb.mono hbw.size)
    clear hb
    have hSu := hOu.spans
    have HIu := Lib.hid hIsu
    clear hOu hIsu
    go_wp2_with fail
    refine (Uni.unionref_x k Aa na ca La A3 n3 c3 L3 _ x HX.out (by omega) (by omega) hSa hna hca hS3 hn3 hc3).mono ?_
    rintro e w1 ⟨Av, nv, cv, Lv, rfl, hOv, hnv, hcv, hIsv, hb⟩
    replace hS3 := (hS3.below hb).more hb.size
    replace hSa := (hSa.below hb).more hb.size
    replace hSb := (hSb.below hb).more hb.size
    replace hSu := (hSu.below hb).more hb.size
    replace hI1 := Uni.ints_more (hI1.below hb) hb.size
    replace hI2 := Uni.ints_more (hI2.below hb) hb.size
    replace hbw := hbw.trans (hb.mono hbw.size)
    clear hb
    have hSv := hOv.spans
    have HIv := Lib.hid hIsv
    clear hOv hIsv
    go_wp2_with fail
    refine (Uni.inter_x k Aa na ca La A3 n3 c3 L3 _ x HX.out (by omega) (by omega) hSa hna hca hS3 hn3 hc3).mono ?_
    rintro e w1 ⟨Ai, ni, ci, Li, rfl, hOi, hni, hci, hIsi, hb⟩
    replace hS3 := (hS3.below hb).more hb.size
    replace hSa := (hSa.below hb).more hb.size
    replace hSb := (hSb.below hb).more hb.size
    replace hSu := (hSu.below hb).more hb.size
    replace hSv := (hSv.below hb).more hb.size
    replace hI1 := Uni.ints_more (hI1.below hb) hb.size
    replace hI2 := Uni.ints_more (hI2.below hb) hb.size
    replace hbw := hbw.trans (hb.mono hbw.size)
    clear hb
    have hSi := hOi.spans
    have HIi := Lib.hid hIsi
    clear hOi hIsi
    go_wp2_with fail
    refine (Uni.interref_x k Aa na ca La A3 n3 c3 L3 _ x HX.out (by omega) (by omega) hSa hna hca hS3 hn3 hc3).mono ?_
    rintro e w1 ⟨Aj, nj, cj, Lj, rfl, hOj, hnj, hcj, hIsj, hb⟩
    replace hS3 := (hS3.below hb).more hb.size
    replace hSa := (hSa.below hb).more hb.size
    replace hSb := (hSb.below hb).more hb.size
    replace hSu := (hSu.below hb).more hb.size
    replace hSv := (hSv.below hb).more hb.size
    replace hSi := (hSi.below hb).more hb.size
    replace hI1 := Uni.ints_more (hI1.below hb) hb.size
    replace hI2 := Uni.ints_more (hI2.below hb) hb.size
    replace hbw := hbw.trans (hb.mono hbw.size)
    clear hb
    have hSj := hOj.spans
    have HIj := Lib.hid hIsj
    clear hOj hIsj
    go_wp2_with fail
    refine (Uni.compl_x k A3 n3 c3 L3 _ y HY.out (by omega) (by omega) hS3 hn3 hc3).mono ?_
    rintro e w1 ⟨Ac, nc, cc, Lc, rfl, hOc, hnc, hcc, hIsc, hb⟩
    replace hS3 := (hS3.below hb).more hb.size
    replace hSa := (hSa.below hb).more hb.size
    replace hSb := (hSb.below hb).more hb.size
    replace hSu := (hSu.below hb).more hb.size
    replace hSv := (hSv.below hb).more hb.size
    replace hSi := (hSi.below hb).more hb.size
    replace hSj := (hSj.below hb).more hb.size
    replace hI1 := Uni.ints_more (hI1.below hb) hb.size
    replace hI2 := Uni.ints_more (hI2.below hb) hb.size
    replace hbw := hbw.trans (hb.mono hbw.size)
    clear hb
    have hSc := hOc.spans
    have HIc := Lib.hid hIsc
    clear hOc hIsc
    go_wp2_with fail
    refine (Uni.complref_x k A3 n3 c3 L3 _ y HY.out (by omega) (by omega) hS3 hn3 hc3).mono ?_
    rintro e w1 ⟨Ad, nd, cd, Ld, rfl, hOd, hnd, hcd, hIsd, hb⟩
    replace hS3 := (hS3.below hb).more hb.size
    replace hSa := (hSa.below hb).more hb.size
    replace hSb := (hSb.below hb).more hb.size
    replace hSu := (hSu.below hb).more hb.size
    replace hSv := (hSv.below hb).more hb.size
    replace hSi := (hSi.below hb).more hb.size
    replace hSj := (hSj.below hb).more hb.size
    replace hSc := (hSc.below hb).more hb.size
    replace hI1 := Uni.ints_more (hI1.below hb) hb.size
    replace hI2 := Uni.ints_more (hI2.below hb) hb.size
    replace hbw := hbw.trans (hb.mono hbw.size)
    clear hb
    have hSd := hOd.spans
    have HId := Lib.hid hIsd
    clear hOd hIsd
    go_wp2_with fail
    refine (Uni.awake_any _).mono ?_
    rintro e w1 ⟨rfl, hb⟩
    replace hS3 := (hS3.below hb).more hb.size
    replace hSa := (hSa.below hb).more hb.size
    replace hSb := (hSb.below hb).more hb.size
    replace hSu := (hSu.below hb).more hb.size
    replace hSv := (hSv.below hb).more hb.size
    replace hSi := (hSi.below hb).more hb.size
    replace hSj := (hSj.below hb).more hb.size
    replace hSc := (hSc.below hb).more hb.size
    replace hSd := (hSd.below hb).more hb.size
    replace hI1 := Uni.ints_more (hI1.below hb) hb.size
    replace hI2 := Uni.ints_more (hI2.below hb) hb.size
    replace hbw := hbw.trans (hb.mono hbw.size)
    clear hb
    go_wp2_with fail
    refine (Uni.same_yes Au nu cu Lu Av nv cv Lv _ (Uni.is_same HIu.out HIv.out) hSu (by omega) hSv (by omega)).mono ?_
    rintro e w1 ⟨rfl, hb⟩
    replace hS3 := (hS3.below hb).more hb.size
    replace hSa := (hSa.below hb).more hb.size
    replace hSb := (hSb.below hb).more hb.size
    replace hSu := (hSu.below hb).more hb.size
    replace hSv := (hSv.below hb).more hb.size
    replace hSi := (hSi.below hb).more hb.size
    replace hSj := (hSj.below hb).more hb.size
    replace hSc := (hSc.below hb).more hb.size
    replace hSd := (hSd.below hb).more hb.size
    replace hI1 := Uni.ints_more (hI1.below hb) hb.size
    replace hI2 := Uni.ints_more (hI2.below hb) hb.size
    replace hbw := hbw.trans (hb.mono hbw.size)
    clear hb
    go_wp2_with fail
    refine (Uni.same_yes Ai ni ci Li Aj nj cj Lj _ (Uni.is_same HIi.out HIj.out) hSi (by omega) hSj (by omega)).mono ?_
    rintro e w1 ⟨rfl, hb⟩
    replace hS3 := (hS3.below hb).more hb.size
    replace hSa := (hSa.below hb).more hb.size
    replace hSb := (hSb.below hb).more hb.size
    replace hSu := (hSu.below hb).more hb.size
    replace hSv := (hSv.below hb).more hb.size
    replace hSi := (hSi.below hb).more hb.size
    replace hSj := (hSj.below hb).more hb.size
    replace hSc := (hSc.below hb).more hb.size
    replace hSd := (hSd.below hb).more hb.size
    replace hI1 := Uni.ints_more (hI1.below hb) hb.size
    replace hI2 := Uni.ints_more (hI2.below hb) hb.size
    replace hbw := hbw.trans (hb.mono hbw.size)
    clear hb
    go_wp2_with fail
    refine (Uni.same_yes Ac nc cc Lc Ad nd cd Ld _ (Uni.is_same HIc.out HId.out) hSc (by omega) hSd (by omega)).mono ?_
    rintro e w1 ⟨rfl, hb⟩
    replace hS3 := (hS3.below hb).more hb.size
    replace hSa := (hSa.below hb).more hb.size
    replace hSb := (hSb.below hb).more hb.size
    replace hSu := (hSu.below hb).more hb.size
    replace hSv := (hSv.below hb).more hb.size
    replace hSi := (hSi.below hb).more hb.size
    replace hSj := (hSj.below hb).more hb.size
    replace hSc := (hSc.below hb).more hb.size
    replace hSd := (hSd.below hb).more hb.size
    replace hI1 := Uni.ints_more (hI1.below hb) hb.size
    replace hI2 := Uni.ints_more (hI2.below hb) hb.size
    replace hbw := hbw.trans (hb.mono hbw.size)
    clear hb
    go_wp2_with fail
    go_ret
    exact ⟨rfl, hbw⟩
  | false =>
    have b0 := bounds_i64 w0
    go_enter Try.func6, Try.ntmps6
    have hbw : Below w.heap.size w w := Below.refl _ _
    go_wp2_with fail
    refine (Nums.period_any a0 _ (by omega) (by omega)).mono ?_
    rintro e w1 ⟨p, hp0, hp1, rfl, rfl⟩
    obtain ⟨k, rfl⟩ : ∃ k : Nat, p = k := ⟨p.toNat, by omega⟩
    go_wp2_with fail
    refine (Source.set_any k A1 n1 c1 _ (by omega) (by omega) hI1 (by omega)).mono ?_
    rintro e w1 ⟨Aa, na, ca, La, rfl, hOa, hva, hb⟩
    replace hS3 := (hS3.below hb).more hb.size
    replace hI1 := Uni.ints_more (hI1.below hb) hb.size
    replace hI2 := Uni.ints_more (hI2.below hb) hb.size
    replace hbw := hbw.trans (hb.mono hbw.size)
    clear hb
    have hSa := hOa.spans
    have HVa := Lib.hid hva
    obtain ⟨hna, hca⟩ := Uni.own_form hOa
    clear hOa hva
    go_wp2_with fail
    refine (Source.set_any k A2 n2 c2 _ (by omega) (by omega) hI2 (by omega)).mono ?_
    rintro e w1 ⟨Ab, nb, cb, Lb, rfl, hOb, hvb, hb⟩
    replace hS3 := (hS3.below hb).more hb.size
    replace hSa := (hSa.below hb).more hb.size
    replace hI1 := Uni.ints_more (hI1.below hb) hb.size
    replace hI2 := Uni.ints_more (hI2.below hb) hb.size
    replace hbw := hbw.trans (hb.mono hbw.size)
    clear hb
    have hSb := hOb.spans
    have HVb := Lib.hid hvb
    obtain ⟨hnb, hcb⟩ := Uni.own_form hOb
    clear hOb hvb
    obtain ⟨x, hx⟩ : ∃ x, Errs.er (k : Int) [La, Lb] = x := ⟨_, rfl⟩
    have HX := Lib.hid hx
    clear hx
    obtain ⟨y, hy⟩ : ∃ y, Errs.er (k : Int) [Lb] = y := ⟨_, rfl⟩
    have HY := Lib.hid hy
    clear hy
    go_wp2_with fail
    refine (Uni.union_x k Aa na ca La Ab nb cb Lb _ x HX.out (by omega) (by omega) hSa hna hca hSb hnb hcb).mono ?_
    rintro e w1 ⟨Au, nu, cu, Lu, rfl, hOu, hnu, hcu, hIsu, hb⟩
    replace hS3 := (hS3.below hb).more hb.size
    replace hSa := (hSa.below hb).more hb.size
    replace hSb := (hSb.below hb).more hb.size
    replace hI1 := Uni.ints_more (hI1.below hb) hb.size
    replace hI2 := Uni.ints_more (hI2.below hb) hb.size
    replace hbw := hbw.trans (hb.mono hbw.size)
    clear hb
    have hSu := hOu.spans
    have HIu := Lib.hid hIsu
    clear hOu hIsu
    go_wp2_with fail
    refine (Uni.unionref_x k Aa na ca La Ab nb cb Lb _ x HX.out (by omega) (by omega) hSa hna hca hSb hnb hcb).mono ?_
    rintro e w1 ⟨Av, nv, cv, Lv, rfl, hOv, hnv, hcv, hIsv, hb⟩
    replace hS3 := (hS3.below hb).more hb.size
    replace hSa := (hSa.below hb).more hb.size
    replace hSb := (hSb.below hb).more hb.size
    replace hSu := (hSu.below hb).more hb.size
    replace hI1 := Uni.ints_more (hI1.below hb) hb.size
    replace hI2 := Uni.ints_more (hI2.below hb) hb.size
    replace hbw := hbw.trans (hb.mono hbw.size)
    clear hb
    have hSv := hOv.spans
    have HIv := Lib.hid hIsv
    clear hOv hIsv
    go_wp2_with fail
    refine (Uni.inter_x k Aa na ca La Ab nb cb Lb _ x HX.out (by omega) (by omega) hSa hna hca hSb hnb hcb).mono ?_
    rintro e w1 ⟨Ai, ni, ci, Li, rfl, hOi, hni, hci, hIsi, hb⟩
    replace hS3 := (hS3.below hb).more hb.size
    replace hSa := (hSa.below hb).more hb.size
    replace hSb := (hSb.below hb).more hb.size
    replace hSu := (hSu.below hb).more hb.size
    replace hSv := (hSv.below hb).more hb.size
    replace hI1 := Uni.ints_more (hI1.below hb) hb.size
    replace hI2 := Uni.ints_more (hI2.below hb) hb.size
    replace hbw := hbw.trans (hb.mono hbw.size)
    clear hb
    have hSi := hOi.spans
    have HIi := Lib.hid hIsi
    clear hOi hIsi
    go_wp2_with fail
    refine (Uni.interref_x k Aa na ca La Ab nb cb Lb _ x HX.out (by omega) (by omega) hSa hna hca hSb hnb hcb).mono ?_
    rintro e w1 ⟨Aj, nj, cj, Lj, rfl, hOj, hnj, hcj, hIsj, hb⟩
    replace hS3 := (hS3.below hb).more hb.size
    replace hSa := (hSa.below hb).more hb.size
    replace hSb := (hSb.below hb).more hb.size
    replace hSu := (hSu.below hb).more hb.size
    replace hSv := (hSv.below hb).more hb.size
    replace hSi := (hSi.below hb).more hb.size
    replace hI1 := Uni.ints_more (hI1.below hb) hb.size
    replace hI2 := Uni.ints_more (hI2.below hb) hb.size
    replace hbw := hbw.trans (hb.mono hbw.size)
    clear hb
    have hSj := hOj.spans
    have HIj := Lib.hid hIsj
    clear hOj hIsj
    go_wp2_with fail
    refine (Uni.compl_x k Ab nb cb Lb _ y HY.out (by omega) (by omega) hSb hnb hcb).mono ?_
    rintro e w1 ⟨Ac, nc, cc, Lc, rfl, hOc, hnc, hcc, hIsc, hb⟩
    replace hS3 := (hS3.below hb).more hb.size
    replace hSa := (hSa.below hb).more hb.size
    replace hSb := (hSb.below hb).more hb.size
    replace hSu := (hSu.below hb).more hb.size
    replace hSv := (hSv.below hb).more hb.size
    replace hSi := (hSi.below hb).more hb.size
    replace hSj := (hSj.below hb).more hb.size
    replace hI1 := Uni.ints_more (hI1.below hb) hb.size
    replace hI2 := Uni.ints_more (hI2.below hb) hb.size
    replace hbw := hbw.trans (hb.mono hbw.size)
    clear hb
    have hSc := hOc.spans
    have HIc := Lib.hid hIsc
    clear hOc hIsc
    go_wp2_with fail
    refine (Uni.complref_x k Ab nb cb Lb _ y HY.out (by omega) (by omega) hSb hnb hcb).mono ?_
    rintro e w1 ⟨Ad, nd, cd, Ld, rfl, hOd, hnd, hcd, hIsd, hb⟩
    replace hS3 := (hS3.below hb).more hb.size
    replace hSa := (hSa.below hb).more hb.size
    replace hSb := (hSb.below hb).more hb.size
    replace hSu := (hSu.below hb).more hb.size
    replace hSv := (hSv.below hb).more hb.size
    replace hSi := (hSi.below hb).more hb.size
    replace hSj := (hSj.below hb).more hb.size
    replace hSc := (hSc.below hb).more hb.size
    replace hI1 := Uni.ints_more (hI1.below hb) hb.size
    replace hI2 := Uni.ints_more (hI2.below hb) hb.size
    replace hbw := hbw.trans (hb.mono hbw.size)
    clear hb
    have hSd := hOd.spans
    have HId := Lib.hid hIsd
    clear hOd hIsd
    go_wp2_with fail
    refine (Uni.awake_any _).mono ?_
    rintro e w1 ⟨rfl, hb⟩
    replace hS3 := (hS3.below hb).more hb.size
    replace hSa := (hSa.below hb).more hb.size
    replace hSb := (hSb.below hb).more hb.size
    replace hSu := (hSu.below hb).more hb.size
    replace hSv := (hSv.below hb).more hb.size
    replace hSi := (hSi.below hb).more hb.size
    replace hSj := (hSj.below hb).more hb.size
    replace hSc := (hSc.below hb).more hb.size
    replace hSd := (hSd.below hb).more hb.size
    replace hI1 := Uni.ints_more (hI1.below hb) hb.size
    replace hI2 := Uni.ints_more (hI2.below hb) hb.size
    replace hbw := hbw.trans (hb.mono hbw.size)
    clear hb
    go_wp2_with fail
    refine (Uni.same_yes Au nu cu Lu Av nv cv Lv _ (Uni.is_same HIu.out HIv.out) hSu (by omega) hSv (by omega)).mono ?_
    rintro e w1 ⟨rfl, hb⟩
    replace hS3 := (hS3.below hb).more hb.size
    replace hSa := (hSa.below hb).more hb.size
    replace hSb := (hSb.below hb).more hb.size
    replace hSu := (hSu.below hb).more hb.size
    replace hSv := (hSv.below hb).more hb.size
    replace hSi := (hSi.below hb).more hb.size
    replace hSj := (hSj.below hb).more hb.size
    replace hSc := (hSc.below hb).more hb.size
    replace hSd := (hSd.below hb).more hb.size
    replace hI1 := Uni.ints_more (hI1.below hb) hb.size
    replace hI2 := Uni.ints_more (hI2.below hb) hb.size
    replace hbw := hbw.trans (hb.mono hbw.size)
    clear hb
    go_wp2_with fail
    refine (Uni.same_yes Ai ni ci Li Aj nj cj Lj _ (Uni.is_same HIi.out HIj.out) hSi (by omega) hSj (by omega)).mono ?_
    rintro e w1 ⟨rfl, hb⟩
    replace hS3 := (hS3.below hb).more hb.size
    replace hSa := (hSa.below hb).more hb.size
    replace hSb := (hSb.below hb).more hb.size
    replace hSu := (hSu.below hb).more hb.size
    replace hSv := (hSv.below hb).more hb.size
    replace hSi := (hSi.below hb).more hb.size
    replace hSj := (hSj.below hb).more hb.size
    replace hSc := (hSc.below hb).more hb.size
    replace hSd := (hSd.below hb).more hb.size
    replace hI1 := Uni.ints_more (hI1.below hb) hb.size
    replace hI2 := Uni.ints_more (hI2.below hb) hb.size
    replace hbw := hbw.trans (hb.mono hbw.size)
    clear hb
    go_wp2_with fail
    refine (Uni.same_yes Ac nc cc Lc Ad nd cd Ld _ (Uni.is_same HIc.out HId.out) hSc (by omega) hSd (by omega)).mono ?_
    rintro e w1 ⟨rfl, hb⟩
    replace hS3 := (hS3.below hb).more hb.size
    replace hSa := (hSa.below hb).more hb.size
    replace hSb := (hSb.below hb).more hb.size
    replace hSu := (hSu.below hb).more hb.size
    replace hSv := (hSv.below hb).more hb.size
    replace hSi := (hSi.below hb).more hb.size
    replace hSj := (hSj.below hb).more hb.size
    replace hSc := (hSc.below hb).more hb.size
    replace hSd := (hSd.below hb).more hb.size
    replace hI1 := Uni.ints_more (hI1.below hb) hb.size
    replace hI2 := Uni.ints_more (hI2.below hb) hb.size
    replace hbw := hbw.trans (hb.mono hbw.size)
    clear hb
    go_wp2_with fail
    go_ret
    exact ⟨rfl, hbw⟩

theorem readable : ∀ t ∈ Try.f6.params.toList, Try.prog.readableRec t = true ∧ t < Try.prog.types.size := by
  rw [Try.params6]
  exact Frame.rrs _ rfl

set_option maxRecDepth 100000 in
theorem lifted (os : Os) (started : os.Started) (H : Type) (enc : TypeId × Value → H) :
    ReturnsInHanded {} Try.checked os 6 .any (Rows.residueSetOperationsSpec.pre6 enc Try.prog Try.f6 Rows.residueSetOperationsRow.domain false) (Rows.residueSetOperationsSpec.post enc Try.prog Try.f6 false true false false) := by
  refine returnsInHanded_of_change (C := Try.checked) own started (by kernel_rfl) Try.func6
    (ChangeSpec.witness6 (enc := enc) (C := Try.checked) false ⟨#[], #[.int .i64 0, .slice none 0 0, .slice none 0 0, .slice none 0 0, .bool false], []⟩ 8 (by kernel_rfl) (by kernel_rfl) (by kernel_rfl) (by kernel_rfl)) ?_
  intro W base args ds gs before hval0 hW hcnd _
  have hval : ∀ (j : Nat) t v, Try.f6.params[j]? = some t → args[j]? = some v → Value.okWide Try.prog W .any base t v := hval0
  have hW' := hW
  obtain ⟨p, q, hA0, hV, rfl, hfz, hnd⟩ := hW
  have hA : DataW.TrodAll enc Try.prog W 0 (fun _ => true) true Try.f6.params.toList args.toList ds p := hA0
  rw [Try.params6] at hA hval
  obtain ⟨v0, vs0, d0, ds0, p0, q0, hargs, rfl, rfl, h0, r0⟩ := trodAll_cons hA
  obtain ⟨v1, vs1, d1, ds1, p1, q1, rfl, rfl, rfl, h1, r1⟩ := trodAll_cons r0
  obtain ⟨v2, vs2, d2, ds2, p2, q2, rfl, rfl, rfl, h2, r2⟩ := trodAll_cons r1
  obtain ⟨v3, vs3, d3, ds3, p3, q3, rfl, rfl, rfl, h3, r3⟩ := trodAll_cons r2
  obtain ⟨v4, vs4, d4, ds4, p4, q4, rfl, rfl, rfl, h4, r4⟩ := trodAll_cons r3
  obtain ⟨rfl, rfl, rfl⟩ := trodAll_nil r4
  obtain rfl : args = #[v0, v1, v2, v3, v4] := by cases args; simp_all
  obtain ⟨rfl, rfl⟩ := trodVars_none hV
  obtain ⟨a0, rfl, _, _, w0⟩ := open_int Try.underlying3 (hval 0 3 v0 rfl rfl) h0
  obtain ⟨A1, n1, c1, rfl, hI1, hn1, hc1⟩ := Frame.arg_ints (hval 1 35 v1 rfl rfl) h1
  obtain ⟨A2, n2, c2, rfl, hI2, hn2, hc2⟩ := Frame.arg_ints (hval 2 35 v2 rfl rfl) h2
  obtain ⟨A3, n3, c3, L3, rfl, hS3, hn3, hc3⟩ := Frame.arg_spans (hval 3 22 v3 rfl rfl) h3
  obtain ⟨b4, rfl, _, _⟩ := open_bool Try.underlying4 (hval 4 4 v4 rfl rfl) h4
  clear hA0 hval0
  refine (walk a0 w0 A1 n1 c1 hn1 hc1 A2 n2 c2 hn2 hc2 A3 n3 c3 L3 hn3 hc3 b4 W hI1 hI2 hS3).mono fun e W' ⟨he, hg⟩ => ?_
  subst he
  exact ⟨_, rfl, Frame.post_law (t4 := 4) Frame.laid readable Try.underlying4 rfl rfl rfl rfl rfl rfl hW' hg⟩

theorem over : Rows.residueSetOperationsRow.holds Try.pinned (OpenSpec.ofChange Rows.residueSetOperationsSpec) :=
  OpenClaim.holds_of_wide 6 Try.f6 rfl rfl rfl rfl rfl rfl rfl ⟨rfl, rfl, rfl, rfl, rfl⟩ rfl rfl rfl rfl rfl (by kernel_rfl) Try.func6 (by kernel_rfl)
    (of_decide_eq_true (by kernel_rfl)) (by unfold Func.isWrapper; first | (rw [if_pos (by decide +kernel)]; kernel_rfl) | (rw [if_neg (by decide +kernel)]; exact ⟨rfl, rfl⟩))
    (fun os started H enc _ => lifted os started H enc)

theorem proved : Rows.ResidueSetOperationsSaid :=
  over
#print axioms proved
end Go.Proofs.Ytapflikdoiedeaa.residueSetOperations
