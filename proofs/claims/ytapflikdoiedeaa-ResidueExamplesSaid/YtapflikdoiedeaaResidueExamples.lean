/-
  It is proved that railplanlaw2.ResidueExamples returns true and changes nothing. Conditions: none.
-/
import Derived.Test.YtapflikdoiedeaaFrame
import Derived.Test.YtapflikdoiedeaaUni
import Derived.Test.YtapflikdoiedeaaAids
import Derived.ProofKit
import Derived.OpenShut
namespace Go.Proofs.Ytapflikdoiedeaa.residueExamples
open Go.ChangeShapes Go.WideShapes Go.ChangeAt Go.RowKit Plain Mem
set_option linter.unusedVariables false

theorem own : ownKnob Try.prog.godebug = none := by kernel_rfl

set_option maxHeartbeats 1600000 in
theorem walk  (w : World)  :
    Calls Try.prog 3 #[] w fun e w' => e = .returned (.bool true) ∧ Below w.heap.size w w' := by
  have EM : Hid (Uni.mk 10 = 0) := by simp [Hid, Uni.mk, Nums.vp]
  go_enter Try.func3, Try.ntmps3
  go_wp2_with fail
  refine (Uni.make_x 10 8 4 _ 0 EM.out (by omega) (by omega) (by omega) (by omega) (by omega) (by omega)).mono ?_
  rintro e wm ⟨Am, nm, cm, Lm, rfl, hOm, hnm, hcm, hIm, hbm⟩
  have HLm := Lib.hid (Aids.ten Lm [(0, 2), (8, 10)] _ hIm (by decide) (by decide))
  have hSm := hOm.spans
  clear hOm hIm
  have Em : Hid (Errs.er 10 [Lm] = 0) := by rw [Hid, HLm.out]; decide
  go_wp2_with fail
  refine (Uni.compl_x 10 Am nm cm Lm _ 0 Em.out (by omega) (by omega) hSm hnm hcm).mono ?_
  rintro e wc ⟨Ac, nc, cc, Lc, rfl, hOc, hnc, hcc, hIc, hb⟩
  have HLc := Lib.hid (Aids.ten Lc [(2, 8)] _ hIc (by decide) (by rw [HLm.out]; decide))
  replace hSm := (hSm.below hb).more hb.size
  have hbc := hbm.trans (hb.mono hbm.size)
  have hSc := hOc.spans
  clear hOc hIc hb hbm
  have E8 : Hid (Errs.er 10 [[(8, 10)]] = 0) := by show Errs.er 10 _ = 0; decide
  have hb : Below wc.heap.size wc (wc.alloc (.cells #[.int .i64 8, .int .i64 10] 29)) := (Below.refl _ _).alloc (Nat.le_refl _) _
  have hS8 : Spans (wc.alloc (.cells #[.int .i64 8, .int .i64 10] 29)) (wc.alloc (.cells #[.int .i64 8, .int .i64 10] 29)).heap.size (some ⟨wc.heap.size, 0, none⟩) 1 [(8, 10)] := (Ops.one_span wc 8 10 29).more (by simp)
  replace hSm := (hSm.below hb).more hb.size
  replace hSc := (hSc.below hb).more hb.size
  replace hbc := hbc.trans (hb.mono hbc.size)
  clear hb
  go_wp2_with fail
  refine (Uni.shift_x 10 (some ⟨wc.heap.size, 0, none⟩) 1 1 [(8, 10)] 3 _ 0 E8.out (by omega) (by omega) (by omega) (by omega) hS8 (by omega) (by omega)).mono ?_
  rintro e ws ⟨As, ns, cs', Ls, rfl, hOs, hns, hcs, hIs, hb⟩
  have HLs := Lib.hid (Aids.ten Ls [(1, 3)] _ hIs (by decide) (by decide))
  replace hSm := (hSm.below hb).more hb.size
  replace hSc := (hSc.below hb).more hb.size
  replace hbc := hbc.trans (hb.mono hbc.size)
  have hSs := hOs.spans
  clear hOs hIs hb hS8
  have E25 : Hid (Errs.er 10 [[(0, 2)], [(5, 7)]] = 0) := by show Errs.er 10 _ = 0; decide
  have hb : Below ws.heap.size ws (ws.alloc (.cells #[.int .i64 0, .int .i64 2] 29)) := (Below.refl _ _).alloc (Nat.le_refl _) _
  have hb2 : Below (ws.alloc (.cells #[.int .i64 0, .int .i64 2] 29)).heap.size (ws.alloc (.cells #[.int .i64 0, .int .i64 2] 29)) ((ws.alloc (.cells #[.int .i64 0, .int .i64 2] 29)).alloc (.cells #[.int .i64 5, .int .i64 7] 29)) := (Below.refl _ _).alloc (Nat.le_refl _) _
  have hS0 := (((Ops.one_span ws 0 2 29).more (show ws.heap.size + 1 ≤ (ws.alloc (.cells #[.int .i64 0, .int .i64 2] 29)).heap.size by simp)).below hb2).more hb2.size
  have hS5 : Spans ((ws.alloc (.cells #[.int .i64 0, .int .i64 2] 29)).alloc (.cells #[.int .i64 5, .int .i64 7] 29)) ((ws.alloc (.cells #[.int .i64 0, .int .i64 2] 29)).alloc (.cells #[.int .i64 5, .int .i64 7] 29)).heap.size (some ⟨ws.heap.size + 1, 0, none⟩) 1 [(5, 7)] := by
    have := (Ops.one_span (ws.alloc (.cells #[.int .i64 0, .int .i64 2] 29)) 5 7 29).more (B' := ((ws.alloc (.cells #[.int .i64 0, .int .i64 2] 29)).alloc (.cells #[.int .i64 5, .int .i64 7] 29)).heap.size) (by simp)
    rwa [show (ws.alloc (.cells #[.int .i64 0, .int .i64 2] 29)).heap.size = ws.heap.size + 1 from by simp] at this
  replace hSm := (((hSm.below hb).more hb.size).below hb2).more hb2.size
  replace hSc := (((hSc.below hb).more hb.size).below hb2).more hb2.size
  replace hSs := (((hSs.below hb).more hb.size).below hb2).more hb2.size
  replace hbc := (hbc.trans (hb.mono hbc.size)).trans (hb2.mono (by have := hbc.size; have := hb.size; omega))
  clear hb hb2
  go_wp2_with fail
  refine (Uni.sum_x 10 (some ⟨ws.heap.size, 0, none⟩) 1 1 [(0, 2)] (some ⟨ws.heap.size + 1, 0, none⟩) 1 1 [(5, 7)] _ 0 E25.out (by omega) (by omega) hS0 (by omega) (by omega) hS5 (by omega) (by omega)).mono ?_
  rintro e wx ⟨Ax, nx, cx, Lx, rfl, hOx, hnx, hcx, hIx, hb⟩
  have HLx := Lib.hid (Aids.ten Lx [(5, 8)] _ hIx (by decide) (by decide))
  replace hSm := (hSm.below hb).more hb.size
  replace hSc := (hSc.below hb).more hb.size
  replace hSs := (hSs.below hb).more hb.size
  replace hbc := hbc.trans (hb.mono hbc.size)
  have hSx := hOx.spans
  clear hOx hIx hb hS0 hS5
  go_wp2_with fail
  refine (Ask.next_any 10 Am nm cm Lm 3 _ (by omega) (by omega) (by omega) (by omega) hSm (by omega)).mono ?_
  rintro e wn ⟨d, ok, rfl, hN, hb⟩
  have hd : d = 5 ∧ ok = true := by
    rw [HLm.out] at hN
    refine hN.same (.inl ⟨rfl, by decide, by omega, by omega, by decide, fun k k0 k1 => ?_⟩)
    have hk : k = 0 ∨ k = 1 ∨ k = 2 ∨ k = 3 ∨ k = 4 := by omega
    rcases hk with rfl | rfl | rfl | rfl | rfl <;> decide
  obtain ⟨rfl, rfl⟩ := hd
  replace hSm := (hSm.below hb).more hb.size
  replace hSc := (hSc.below hb).more hb.size
  replace hSs := (hSs.below hb).more hb.size
  replace hSx := (hSx.below hb).more hb.size
  replace hbc := hbc.trans (hb.mono hbc.size)
  clear hb hN
  have hb : Below wn.heap.size wn (wn.alloc (.cells #[.int .i64 0, .int .i64 2, .int .i64 8, .int .i64 10] 29)) := (Below.refl _ _).alloc (Nat.le_refl _) _
  have hSl := (Aids.two_spans wn 0 2 8 10 29).more (show wn.heap.size + 1 ≤ (wn.alloc (.cells #[.int .i64 0, .int .i64 2, .int .i64 8, .int .i64 10] 29)).heap.size by simp)
  replace hSm := (hSm.below hb).more hb.size
  replace hSc := (hSc.below hb).more hb.size
  replace hSs := (hSs.below hb).more hb.size
  replace hSx := (hSx.below hb).more hb.size
  replace hbc := hbc.trans (hb.mono hbc.size)
  clear hb
  go_wp2_with fail
  refine (Uni.same_yes Am nm cm Lm (some ⟨wn.heap.size, 0, none⟩) 2 2 [(0, 2), (8, 10)] _ HLm.out hSm (by omega) hSl (by omega)).mono ?_
  rintro e w1 ⟨rfl, hb⟩
  replace hSc := (hSc.below hb).more hb.size
  replace hSs := (hSs.below hb).more hb.size
  replace hSx := (hSx.below hb).more hb.size
  replace hbc := hbc.trans (hb.mono hbc.size)
  clear hb hSl hSm
  have hb : Below w1.heap.size w1 (w1.alloc (.cells #[.int .i64 2, .int .i64 8] 29)) := (Below.refl _ _).alloc (Nat.le_refl _) _
  have hSl := (Ops.one_span w1 2 8 29).more (show w1.heap.size + 1 ≤ (w1.alloc (.cells #[.int .i64 2, .int .i64 8] 29)).heap.size by simp)
  replace hSc := (hSc.below hb).more hb.size
  replace hSs := (hSs.below hb).more hb.size
  replace hSx := (hSx.below hb).more hb.size
  replace hbc := hbc.trans (hb.mono hbc.size)
  clear hb
  go_wp2_with fail
  refine (Uni.same_yes Ac nc cc Lc (some ⟨w1.heap.size, 0, none⟩) 1 1 [(2, 8)] _ HLc.out hSc (by omega) hSl (by omega)).mono ?_
  rintro e w2 ⟨rfl, hb⟩
  replace hSs := (hSs.below hb).more hb.size
  replace hSx := (hSx.below hb).more hb.size
  replace hbc := hbc.trans (hb.mono hbc.size)
  clear hb hSl hSc
  have hb : Below w2.heap.size w2 (w2.alloc (.cells #[.int .i64 1, .int .i64 3] 29)) := (Below.refl _ _).alloc (Nat.le_refl _) _
  have hSl := (Ops.one_span w2 1 3 29).more (show w2.heap.size + 1 ≤ (w2.alloc (.cells #[.int .i64 1, .int .i64 3] 29)).heap.size by simp)
  replace hSs := (hSs.below hb).more hb.size
  replace hSx := (hSx.below hb).more hb.size
  replace hbc := hbc.trans (hb.mono hbc.size)
  clear hb
  go_wp2_with fail
  refine (Uni.same_yes As ns cs' Ls (some ⟨w2.heap.size, 0, none⟩) 1 1 [(1, 3)] _ HLs.out hSs (by omega) hSl (by omega)).mono ?_
  rintro e w3 ⟨rfl, hb⟩
  replace hSx := (hSx.below hb).more hb.size
  replace hbc := hbc.trans (hb.mono hbc.size)
  clear hb hSl hSs
  have hb : Below w3.heap.size w3 (w3.alloc (.cells #[.int .i64 5, .int .i64 8] 29)) := (Below.refl _ _).alloc (Nat.le_refl _) _
  have hSl := (Ops.one_span w3 5 8 29).more (show w3.heap.size + 1 ≤ (w3.alloc (.cells #[.int .i64 5, .int .i64 8] 29)).heap.size by simp)
  replace hSx := (hSx.below hb).more hb.size
  replace hbc := hbc.trans (hb.mono hbc.size)
  clear hb
  go_wp2_with fail
  refine (Uni.same_yes Ax nx cx Lx (some ⟨w3.heap.size, 0, none⟩) 1 1 [(5, 8)] _ HLx.out hSx (by omega) hSl (by omega)).mono ?_
  rintro e w4 ⟨rfl, hb⟩
  replace hbc := hbc.trans (hb.mono hbc.size)
  clear hb hSl hSx
  go_wp2_with fail
  go_ret
  exact ⟨rfl, hbc⟩

theorem readable : ∀ t ∈ Try.f3.params.toList, Try.prog.readableRec t = true ∧ t < Try.prog.types.size := by
  rw [Try.params3]
  exact Frame.rrs _ rfl

set_option maxRecDepth 100000 in
theorem lifted (os : Os) (started : os.Started) (H : Type) (enc : TypeId × Value → H) :
    ReturnsInHanded {} Try.checked os 3 .any (Rows.residueExamplesSpec.pre6 enc Try.prog Try.f3 Rows.residueExamplesRow.domain false) (Rows.residueExamplesSpec.post enc Try.prog Try.f3 false true false false) := by
  refine returnsInHanded_of_change (C := Try.checked) own started (by kernel_rfl) Try.func3
    (ChangeSpec.witness6 (enc := enc) (C := Try.checked) false ⟨#[], #[], []⟩ 8 (by kernel_rfl) (by kernel_rfl) (by kernel_rfl) (by kernel_rfl)) ?_
  intro W base args ds gs before hval0 hW hcnd _
  have hval : ∀ (j : Nat) t v, Try.f3.params[j]? = some t → args[j]? = some v → Value.okWide Try.prog W .any base t v := hval0
  have hW' := hW
  obtain ⟨p, q, hA0, hV, rfl, hfz, hnd⟩ := hW
  have hA : DataW.TrodAll enc Try.prog W 0 (fun _ => true) true Try.f3.params.toList args.toList ds p := hA0
  rw [Try.params3] at hA hval
  obtain ⟨hargs, rfl, rfl⟩ := trodAll_nil hA
  obtain rfl : args = #[] := by cases args; simp_all
  obtain ⟨rfl, rfl⟩ := trodVars_none hV

  clear hA0 hval0
  refine (walk  W ).mono fun e W' ⟨he, hg⟩ => ?_
  subst he
  exact ⟨_, rfl, Frame.post_law (t4 := 4) Frame.laid readable Try.underlying4 rfl rfl rfl rfl rfl rfl hW' hg⟩

theorem over : Rows.residueExamplesRow.holds Try.pinned (OpenSpec.ofChange Rows.residueExamplesSpec) :=
  OpenClaim.holds_of_wide 3 Try.f3 rfl rfl rfl rfl rfl rfl rfl ⟨rfl, rfl, rfl, rfl, rfl⟩ rfl rfl rfl rfl rfl (by kernel_rfl) Try.func3 (by kernel_rfl)
    (of_decide_eq_true (by kernel_rfl)) (by unfold Func.isWrapper; first | (rw [if_pos (by decide +kernel)]; kernel_rfl) | (rw [if_neg (by decide +kernel)]; exact ⟨rfl, rfl⟩))
    (fun os started H enc _ => lifted os started H enc)

theorem proved : Rows.ResidueExamplesSaid :=
  over
#print axioms proved
end Go.Proofs.Ytapflikdoiedeaa.residueExamples
