/-
  It is proved that railplanlaw2.ResidueRejects returns true and changes nothing. Conditions: none.
-/
import Derived.Test.YtapflikdoiedeaaFrame
import Derived.Test.YtapflikdoiedeaaUni
import Derived.ProofKit
import Derived.OpenShut
namespace Go.Proofs.Ytapflikdoiedeaa.residueRejects
open Go.ChangeShapes Go.WideShapes Go.ChangeAt Go.RowKit Plain Mem
set_option linter.unusedVariables false

theorem own : ownKnob Try.prog.godebug = none := by kernel_rfl

set_option maxHeartbeats 1600000 in
theorem walk (a0 : Int) (w0 : (Lit.int .i64 a0).wf = true) (A1 : Option Addr) (n1 c1 : Nat) (L1 : List Sp) (hn1 : n1 ≤ c1) (hc1 : c1 ≤ 9223372036854775807) (w : World) (hS1 : Spans w w.heap.size A1 n1 L1) :
    Calls Try.prog 9 #[.int .i64 a0, .slice A1 n1 c1] w fun e w' => e = .returned (.bool true) ∧ Below w.heap.size w w' := by
  have b0 := bounds_i64 w0
  by_cases t1 : a0 < 1
  · skip
    have E1 : Hid (Errs.er a0 [L1, []] = 4) := by simp [Hid, Errs.er, Nums.vp]; omega
    have E2 : Hid (Errs.er a0 [[], L1] = 4) := by simp [Hid, Errs.er, Nums.vp]; omega
    have E3 : Hid (Errs.er a0 [L1] = 4) := by simp [Hid, Errs.er, Nums.vp]; omega
    go_enter Try.func9, Try.ntmps9
    have hbw : Below w.heap.size w w := Below.refl _ _
    go_wp2_with fail
    refine (Uni.union_x a0 A1 n1 c1 L1 none 0 0 [] _ 4 E1.out (by omega) (by omega) hS1 hn1 hc1 (Spans.nil _ _ _) (Nat.le_refl _) (by omega)).mono ?_
    rintro e w1 ⟨Au, nu, cu, Lu, rfl, hOu, hnu, hcu, hIsu, hb⟩
    replace hS1 := (hS1.below hb).more hb.size
    replace hbw := hbw.trans (hb.mono hbw.size)
    clear hb
    have hSu := hOu.spans
    have HIu := Lib.hid hIsu
    clear hOu hIsu
    go_wp2_with fail
    refine (Uni.inter_x a0 none 0 0 [] A1 n1 c1 L1 _ 4 E2.out (by omega) (by omega) (Spans.nil _ _ _) (Nat.le_refl _) (by omega) hS1 hn1 hc1).mono ?_
    rintro e w1 ⟨Ai, ni, ci, Li, rfl, hOi, hni, hci, hIsi, hb⟩
    replace hS1 := (hS1.below hb).more hb.size
    replace hSu := (hSu.below hb).more hb.size
    replace hbw := hbw.trans (hb.mono hbw.size)
    clear hb
    have hSi := hOi.spans
    have HIi := Lib.hid hIsi
    clear hOi hIsi
    go_wp2_with fail
    refine (Uni.compl_x a0 A1 n1 c1 L1 _ 4 E3.out (by omega) (by omega) hS1 hn1 hc1).mono ?_
    rintro e w1 ⟨Ac, nc, cc, Lc, rfl, hOc, hnc, hcc, hIsc, hb⟩
    replace hS1 := (hS1.below hb).more hb.size
    replace hSu := (hSu.below hb).more hb.size
    replace hSi := (hSi.below hb).more hb.size
    replace hbw := hbw.trans (hb.mono hbw.size)
    clear hb
    have hSc := hOc.spans
    have HIc := Lib.hid hIsc
    clear hOc hIsc
    go_wp2_with fail
    refine (Uni.shift_x a0 A1 n1 c1 L1 1 _ 4 E3.out (by omega) (by omega) (by omega) (by omega) hS1 hn1 hc1).mono ?_
    rintro e w1 ⟨Ah, nh, ch, Lh, rfl, hOh, hnh, hch, hIsh, hb⟩
    replace hS1 := (hS1.below hb).more hb.size
    replace hSu := (hSu.below hb).more hb.size
    replace hSi := (hSi.below hb).more hb.size
    replace hSc := (hSc.below hb).more hb.size
    replace hbw := hbw.trans (hb.mono hbw.size)
    clear hb
    have hSh := hOh.spans
    have HIh := Lib.hid hIsh
    clear hOh hIsh
    go_wp2_with fail
    refine (Uni.sum_x a0 A1 n1 c1 L1 none 0 0 [] _ 4 E1.out (by omega) (by omega) hS1 hn1 hc1 (Spans.nil _ _ _) (Nat.le_refl _) (by omega)).mono ?_
    rintro e w1 ⟨Am, nm, cm, Lm, rfl, hOm, hnm, hcm, hIsm, hb⟩
    replace hS1 := (hS1.below hb).more hb.size
    replace hSu := (hSu.below hb).more hb.size
    replace hSi := (hSi.below hb).more hb.size
    replace hSc := (hSc.below hb).more hb.size
    replace hSh := (hSh.below hb).more hb.size
    replace hbw := hbw.trans (hb.mono hbw.size)
    clear hb
    have hSm := hOm.spans
    have HIm := Lib.hid hIsm
    clear hOm hIsm
    go_wp2_with fail
    refine (Uni.awake_any _).mono ?_
    rintro e w1 ⟨rfl, hb⟩
    replace hS1 := (hS1.below hb).more hb.size
    replace hSu := (hSu.below hb).more hb.size
    replace hSi := (hSi.below hb).more hb.size
    replace hSc := (hSc.below hb).more hb.size
    replace hSh := (hSh.below hb).more hb.size
    replace hSm := (hSm.below hb).more hb.size
    replace hbw := hbw.trans (hb.mono hbw.size)
    clear hb
    go_wp2_with fail
    go_ret
    exact ⟨rfl, hbw⟩
  · by_cases t2 : 7200 < a0
    · skip
      have E1 : Hid (Errs.er a0 [L1, []] = 4) := by simp [Hid, Errs.er, Nums.vp]; omega
      have E2 : Hid (Errs.er a0 [[], L1] = 4) := by simp [Hid, Errs.er, Nums.vp]; omega
      have E3 : Hid (Errs.er a0 [L1] = 4) := by simp [Hid, Errs.er, Nums.vp]; omega
      go_enter Try.func9, Try.ntmps9
      have hbw : Below w.heap.size w w := Below.refl _ _
      go_wp2_with fail
      refine (Uni.union_x a0 A1 n1 c1 L1 none 0 0 [] _ 4 E1.out (by omega) (by omega) hS1 hn1 hc1 (Spans.nil _ _ _) (Nat.le_refl _) (by omega)).mono ?_
      rintro e w1 ⟨Au, nu, cu, Lu, rfl, hOu, hnu, hcu, hIsu, hb⟩
      replace hS1 := (hS1.below hb).more hb.size
      replace hbw := hbw.trans (hb.mono hbw.size)
      clear hb
      have hSu := hOu.spans
      have HIu := Lib.hid hIsu
      clear hOu hIsu
      go_wp2_with fail
      refine (Uni.inter_x a0 none 0 0 [] A1 n1 c1 L1 _ 4 E2.out (by omega) (by omega) (Spans.nil _ _ _) (Nat.le_refl _) (by omega) hS1 hn1 hc1).mono ?_
      rintro e w1 ⟨Ai, ni, ci, Li, rfl, hOi, hni, hci, hIsi, hb⟩
      replace hS1 := (hS1.below hb).more hb.size
      replace hSu := (hSu.below hb).more hb.size
      replace hbw := hbw.trans (hb.mono hbw.size)
      clear hb
      have hSi := hOi.spans
      have HIi := Lib.hid hIsi
      clear hOi hIsi
      go_wp2_with fail
      refine (Uni.compl_x a0 A1 n1 c1 L1 _ 4 E3.out (by omega) (by omega) hS1 hn1 hc1).mono ?_
      rintro e w1 ⟨Ac, nc, cc, Lc, rfl, hOc, hnc, hcc, hIsc, hb⟩
      replace hS1 := (hS1.below hb).more hb.size
      replace hSu := (hSu.below hb).more hb.size
      replace hSi := (hSi.below hb).more hb.size
      replace hbw := hbw.trans (hb.mono hbw.size)
      clear hb
      have hSc := hOc.spans
      have HIc := Lib.hid hIsc
      clear hOc hIsc
      go_wp2_with fail
      refine (Uni.shift_x a0 A1 n1 c1 L1 1 _ 4 E3.out (by omega) (by omega) (by omega) (by omega) hS1 hn1 hc1).mono ?_
      rintro e w1 ⟨Ah, nh, ch, Lh, rfl, hOh, hnh, hch, hIsh, hb⟩
      replace hS1 := (hS1.below hb).more hb.size
      replace hSu := (hSu.below hb).more hb.size
      replace hSi := (hSi.below hb).more hb.size
      replace hSc := (hSc.below hb).more hb.size
      replace hbw := hbw.trans (hb.mono hbw.size)
      clear hb
      have hSh := hOh.spans
      have HIh := Lib.hid hIsh
      clear hOh hIsh
      go_wp2_with fail
      refine (Uni.sum_x a0 A1 n1 c1 L1 none 0 0 [] _ 4 E1.out (by omega) (by omega) hS1 hn1 hc1 (Spans.nil _ _ _) (Nat.le_refl _) (by omega)).mono ?_
      rintro e w1 ⟨Am, nm, cm, Lm, rfl, hOm, hnm, hcm, hIsm, hb⟩
      replace hS1 := (hS1.below hb).more hb.size
      replace hSu := (hSu.below hb).more hb.size
      replace hSi := (hSi.below hb).more hb.size
      replace hSc := (hSc.below hb).more hb.size
      replace hSh := (hSh.below hb).more hb.size
      replace hbw := hbw.trans (hb.mono hbw.size)
      clear hb
      have hSm := hOm.spans
      have HIm := Lib.hid hIsm
      clear hOm hIsm
      go_wp2_with fail
      refine (Uni.awake_any _).mono ?_
      rintro e w1 ⟨rfl, hb⟩
      replace hS1 := (hS1.below hb).more hb.size
      replace hSu := (hSu.below hb).more hb.size
      replace hSi := (hSi.below hb).more hb.size
      replace hSc := (hSc.below hb).more hb.size
      replace hSh := (hSh.below hb).more hb.size
      replace hSm := (hSm.below hb).more hb.size
      replace hbw := hbw.trans (hb.mono hbw.size)
      clear hb
      go_wp2_with fail
      go_ret
      exact ⟨rfl, hbw⟩
    · have hvp : Nums.vp a0 = true := (Nums.vp_iff a0).2 ⟨by omega, by omega⟩
      cases hvf : vf 0 a0 L1 with
      | false =>
        have HVL : Hid (Valid.vl a0 L1 = false) := by simp [Hid, Valid.vl, hvf]
        have E1 : Hid (Errs.er a0 [L1, []] = 1) := by simp [Hid, Errs.er, hvp, hvf, vf]
        have E2 : Hid (Errs.er a0 [[], L1] = 1) := by simp [Hid, Errs.er, hvp, hvf, vf]
        have E3 : Hid (Errs.er a0 [L1] = 1) := by simp [Hid, Errs.er, hvp, hvf]
        clear hvp hvf
        go_enter Try.func9, Try.ntmps9
        have hbw : Below w.heap.size w w := Below.refl _ _
        go_wp2_with fail
        refine (Uni.union_x a0 A1 n1 c1 L1 none 0 0 [] _ 1 E1.out (by omega) (by omega) hS1 hn1 hc1 (Spans.nil _ _ _) (Nat.le_refl _) (by omega)).mono ?_
        rintro e w1 ⟨Au, nu, cu, Lu, rfl, hOu, hnu, hcu, hIsu, hb⟩
        replace hS1 := (hS1.below hb).more hb.size
        replace hbw := hbw.trans (hb.mono hbw.size)
        clear hb
        have hSu := hOu.spans
        have HIu := Lib.hid hIsu
        clear hOu hIsu
        go_wp2_with fail
        refine (Uni.inter_x a0 none 0 0 [] A1 n1 c1 L1 _ 1 E2.out (by omega) (by omega) (Spans.nil _ _ _) (Nat.le_refl _) (by omega) hS1 hn1 hc1).mono ?_
        rintro e w1 ⟨Ai, ni, ci, Li, rfl, hOi, hni, hci, hIsi, hb⟩
        replace hS1 := (hS1.below hb).more hb.size
        replace hSu := (hSu.below hb).more hb.size
        replace hbw := hbw.trans (hb.mono hbw.size)
        clear hb
        have hSi := hOi.spans
        have HIi := Lib.hid hIsi
        clear hOi hIsi
        go_wp2_with fail
        refine (Uni.compl_x a0 A1 n1 c1 L1 _ 1 E3.out (by omega) (by omega) hS1 hn1 hc1).mono ?_
        rintro e w1 ⟨Ac, nc, cc, Lc, rfl, hOc, hnc, hcc, hIsc, hb⟩
        replace hS1 := (hS1.below hb).more hb.size
        replace hSu := (hSu.below hb).more hb.size
        replace hSi := (hSi.below hb).more hb.size
        replace hbw := hbw.trans (hb.mono hbw.size)
        clear hb
        have hSc := hOc.spans
        have HIc := Lib.hid hIsc
        clear hOc hIsc
        go_wp2_with fail
        refine (Uni.shift_x a0 A1 n1 c1 L1 1 _ 1 E3.out (by omega) (by omega) (by omega) (by omega) hS1 hn1 hc1).mono ?_
        rintro e w1 ⟨Ah, nh, ch, Lh, rfl, hOh, hnh, hch, hIsh, hb⟩
        replace hS1 := (hS1.below hb).more hb.size
        replace hSu := (hSu.below hb).more hb.size
        replace hSi := (hSi.below hb).more hb.size
        replace hSc := (hSc.below hb).more hb.size
        replace hbw := hbw.trans (hb.mono hbw.size)
        clear hb
        have hSh := hOh.spans
        have HIh := Lib.hid hIsh
        clear hOh hIsh
        go_wp2_with fail
        refine (Uni.sum_x a0 A1 n1 c1 L1 none 0 0 [] _ 1 E1.out (by omega) (by omega) hS1 hn1 hc1 (Spans.nil _ _ _) (Nat.le_refl _) (by omega)).mono ?_
        rintro e w1 ⟨Am, nm, cm, Lm, rfl, hOm, hnm, hcm, hIsm, hb⟩
        replace hS1 := (hS1.below hb).more hb.size
        replace hSu := (hSu.below hb).more hb.size
        replace hSi := (hSi.below hb).more hb.size
        replace hSc := (hSc.below hb).more hb.size
        replace hSh := (hSh.below hb).more hb.size
        replace hbw := hbw.trans (hb.mono hbw.size)
        clear hb
        have hSm := hOm.spans
        have HIm := Lib.hid hIsm
        clear hOm hIsm
        go_wp2_with fail
        refine (Errs.validref_no a0 A1 n1 c1 L1 _ (by omega) (by omega) hS1 (by omega) HVL.out).mono ?_
        rintro e w1 ⟨rfl, hb⟩
        replace hS1 := (hS1.below hb).more hb.size
        replace hSu := (hSu.below hb).more hb.size
        replace hSi := (hSi.below hb).more hb.size
        replace hSc := (hSc.below hb).more hb.size
        replace hSh := (hSh.below hb).more hb.size
        replace hSm := (hSm.below hb).more hb.size
        replace hbw := hbw.trans (hb.mono hbw.size)
        clear hb
        go_wp2_with fail
        refine (Uni.awake_any _).mono ?_
        rintro e w1 ⟨rfl, hb⟩
        replace hS1 := (hS1.below hb).more hb.size
        replace hSu := (hSu.below hb).more hb.size
        replace hSi := (hSi.below hb).more hb.size
        replace hSc := (hSc.below hb).more hb.size
        replace hSh := (hSh.below hb).more hb.size
        replace hSm := (hSm.below hb).more hb.size
        replace hbw := hbw.trans (hb.mono hbw.size)
        clear hb
        go_wp2_with fail
        go_ret
        exact ⟨rfl, hbw⟩
      | true =>
        have HVL : Hid (Valid.vl a0 L1 = true) := by simp [Hid, Valid.vl, hvp, hvf]
        have E1 : Hid (Errs.er a0 [L1, []] = 0) := by simp [Hid, Errs.er, hvp, hvf, vf]
        have E2 : Hid (Errs.er a0 [[], L1] = 0) := by simp [Hid, Errs.er, hvp, hvf, vf]
        have E3 : Hid (Errs.er a0 [L1] = 0) := by simp [Hid, Errs.er, hvp, hvf]
        clear hvp hvf
        go_enter Try.func9, Try.ntmps9
        have hbw : Below w.heap.size w w := Below.refl _ _
        go_wp2_with fail
        refine (Uni.union_x a0 A1 n1 c1 L1 none 0 0 [] _ 0 E1.out (by omega) (by omega) hS1 hn1 hc1 (Spans.nil _ _ _) (Nat.le_refl _) (by omega)).mono ?_
        rintro e w1 ⟨Au, nu, cu, Lu, rfl, hOu, hnu, hcu, hIsu, hb⟩
        replace hS1 := (hS1.below hb).more hb.size
        replace hbw := hbw.trans (hb.mono hbw.size)
        clear hb
        have hSu := hOu.spans
        have HIu := Lib.hid hIsu
        clear hOu hIsu
        go_wp2_with fail
        refine (Uni.inter_x a0 none 0 0 [] A1 n1 c1 L1 _ 0 E2.out (by omega) (by omega) (Spans.nil _ _ _) (Nat.le_refl _) (by omega) hS1 hn1 hc1).mono ?_
        rintro e w1 ⟨Ai, ni, ci, Li, rfl, hOi, hni, hci, hIsi, hb⟩
        replace hS1 := (hS1.below hb).more hb.size
        replace hSu := (hSu.below hb).more hb.size
        replace hbw := hbw.trans (hb.mono hbw.size)
        clear hb
        have hSi := hOi.spans
        have HIi := Lib.hid hIsi
        clear hOi hIsi
        go_wp2_with fail
        refine (Uni.compl_x a0 A1 n1 c1 L1 _ 0 E3.out (by omega) (by omega) hS1 hn1 hc1).mono ?_
        rintro e w1 ⟨Ac, nc, cc, Lc, rfl, hOc, hnc, hcc, hIsc, hb⟩
        replace hS1 := (hS1.below hb).more hb.size
        replace hSu := (hSu.below hb).more hb.size
        replace hSi := (hSi.below hb).more hb.size
        replace hbw := hbw.trans (hb.mono hbw.size)
        clear hb
        have hSc := hOc.spans
        have HIc := Lib.hid hIsc
        clear hOc hIsc
        go_wp2_with fail
        refine (Uni.shift_x a0 A1 n1 c1 L1 1 _ 0 E3.out (by omega) (by omega) (by omega) (by omega) hS1 hn1 hc1).mono ?_
        rintro e w1 ⟨Ah, nh, ch, Lh, rfl, hOh, hnh, hch, hIsh, hb⟩
        replace hS1 := (hS1.below hb).more hb.size
        replace hSu := (hSu.below hb).more hb.size
        replace hSi := (hSi.below hb).more hb.size
        replace hSc := (hSc.below hb).more hb.size
        replace hbw := hbw.trans (hb.mono hbw.size)
        clear hb
        have hSh := hOh.spans
        have HIh := Lib.hid hIsh
        clear hOh hIsh
        go_wp2_with fail
        refine (Uni.sum_x a0 A1 n1 c1 L1 none 0 0 [] _ 0 E1.out (by omega) (by omega) hS1 hn1 hc1 (Spans.nil _ _ _) (Nat.le_refl _) (by omega)).mono ?_
        rintro e w1 ⟨Am, nm, cm, Lm, rfl, hOm, hnm, hcm, hIsm, hb⟩
        replace hS1 := (hS1.below hb).more hb.size
        replace hSu := (hSu.below hb).more hb.size
        replace hSi := (hSi.below hb).more hb.size
        replace hSc := (hSc.below hb).more hb.size
        replace hSh := (hSh.below hb).more hb.size
        replace hbw := hbw.trans (hb.mono hbw.size)
        clear hb
        have hSm := hOm.spans
        have HIm := Lib.hid hIsm
        clear hOm hIsm
        go_wp2_with fail
        refine (Errs.validref_yes a0 A1 n1 c1 L1 _ (by omega) (by omega) hS1 (by omega) HVL.out).mono ?_
        rintro e w1 ⟨rfl, hb⟩
        replace hS1 := (hS1.below hb).more hb.size
        replace hSu := (hSu.below hb).more hb.size
        replace hSi := (hSi.below hb).more hb.size
        replace hSc := (hSc.below hb).more hb.size
        replace hSh := (hSh.below hb).more hb.size
        replace hSm := (hSm.below hb).more hb.size
        replace hbw := hbw.trans (hb.mono hbw.size)
        clear hb
        go_wp2_with fail
        refine (Uni.awake_any _).mono ?_
        rintro e w1 ⟨rfl, hb⟩
        replace hS1 := (hS1.below hb).more hb.size
        replace hSu := (hSu.below hb).more hb.size
        replace hSi := (hSi.below hb).more hb.size
        replace hSc := (hSc.below hb).more hb.size
        replace hSh := (hSh.below hb).more hb.size
        replace hSm := (hSm.below hb).more hb.size
        replace hbw := hbw.trans (hb.mono hbw.size)
        clear hb
        go_wp2_with fail
        go_ret
        exact ⟨rfl, hbw⟩

theorem readable : ∀ t ∈ Try.f9.params.toList, Try.prog.readableRec t = true ∧ t < Try.prog.types.size := by
  rw [Try.params9]
  exact Frame.rrs _ rfl

set_option maxRecDepth 100000 in
theorem lifted (os : Os) (started : os.Started) (H : Type) (enc : TypeId × Value → H) :
    ReturnsInHanded {} Try.checked os 9 .any (Rows.residueRejectsSpec.pre6 enc Try.prog Try.f9 Rows.residueRejectsRow.domain false) (Rows.residueRejectsSpec.post enc Try.prog Try.f9 false true false false) := by
  refine returnsInHanded_of_change (C := Try.checked) own started (by kernel_rfl) Try.func9
    (ChangeSpec.witness6 (enc := enc) (C := Try.checked) false ⟨#[], #[.int .i64 0, .slice none 0 0], []⟩ 8 (by kernel_rfl) (by kernel_rfl) (by kernel_rfl) (by kernel_rfl)) ?_
  intro W base args ds gs before hval0 hW hcnd _
  have hval : ∀ (j : Nat) t v, Try.f9.params[j]? = some t → args[j]? = some v → Value.okWide Try.prog W .any base t v := hval0
  have hW' := hW
  obtain ⟨p, q, hA0, hV, rfl, hfz, hnd⟩ := hW
  have hA : DataW.TrodAll enc Try.prog W 0 (fun _ => true) true Try.f9.params.toList args.toList ds p := hA0
  rw [Try.params9] at hA hval
  obtain ⟨v0, vs0, d0, ds0, p0, q0, hargs, rfl, rfl, h0, r0⟩ := trodAll_cons hA
  obtain ⟨v1, vs1, d1, ds1, p1, q1, rfl, rfl, rfl, h1, r1⟩ := trodAll_cons r0
  obtain ⟨rfl, rfl, rfl⟩ := trodAll_nil r1
  obtain rfl : args = #[v0, v1] := by cases args; simp_all
  obtain ⟨rfl, rfl⟩ := trodVars_none hV
  obtain ⟨a0, rfl, _, _, w0⟩ := open_int Try.underlying3 (hval 0 3 v0 rfl rfl) h0
  obtain ⟨A1, n1, c1, L1, rfl, hS1, hn1, hc1⟩ := Frame.arg_spans (hval 1 22 v1 rfl rfl) h1
  clear hA0 hval0
  refine (walk a0 w0 A1 n1 c1 L1 hn1 hc1 W hS1).mono fun e W' ⟨he, hg⟩ => ?_
  subst he
  exact ⟨_, rfl, Frame.post_law (t4 := 4) Frame.laid readable Try.underlying4 rfl rfl rfl rfl rfl rfl hW' hg⟩

theorem over : Rows.residueRejectsRow.holds Try.pinned (OpenSpec.ofChange Rows.residueRejectsSpec) :=
  OpenClaim.holds_of_wide 9 Try.f9 rfl rfl rfl rfl rfl rfl rfl ⟨rfl, rfl, rfl, rfl, rfl⟩ rfl rfl rfl rfl rfl (by kernel_rfl) Try.func9 (by kernel_rfl)
    (of_decide_eq_true (by kernel_rfl)) (by unfold Func.isWrapper; first | (rw [if_pos (by decide +kernel)]; kernel_rfl) | (rw [if_neg (by decide +kernel)]; exact ⟨rfl, rfl⟩))
    (fun os started H enc _ => lifted os started H enc)

theorem proved : Rows.ResidueRejectsSaid :=
  over
#print axioms proved
end Go.Proofs.Ytapflikdoiedeaa.residueRejects
