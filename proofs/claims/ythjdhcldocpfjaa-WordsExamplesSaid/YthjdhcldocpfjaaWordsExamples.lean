/-
  It is proved that railplanlaw3.WordsExamples returns true and changes nothing. Conditions: none.
-/
import Derived.Test.YthjdhcldocpfjaaFrame
import Derived.Test.YthjdhcldocpfjaaRng
import Derived.ProofKit
import Derived.OpenShut
namespace Go.Proofs.Ythjdhcldocpfjaa.wordsExamples
open Go.ChangeShapes Go.WideShapes Go.ChangeAt Go.ChangeMaps Go.RowKit Wd Mem Aids
set_option linter.unusedVariables false

theorem own : ownKnob Try.prog.godebug = none := by kernel_rfl

theorem ex_lines : Lin.linesOf [97, 32, 32, 98, 32, 35, 32, 99, 10, 10, 32, 100] = ([[([97], 1, 1), ([98], 1, 4)], [([100], 3, 2)]], 0, 0) := by decide
theorem ex_neg : numOK [45, 48] = false := by decide
theorem ex_zero : numOK [48, 48, 55] = false := by decide
theorem ex_range : Rng.rangeLo [51, 46, 46, 57] = 3 ∧ Rng.rangeHi [51, 46, 46, 57] = 9 ∧ Rng.rangeOK [51, 46, 46, 57] = true := by decide
theorem lit_words (w0 : World) (L : List Lin.W) : Words (w0.alloc (.cells (cs L).toArray 32)) (w0.alloc (.cells (cs L).toArray 32)).heap.size (some ⟨w0.heap.size, 0, none⟩) L.length L := by
  refine ⟨rfl, fun j u hu => ⟨_, rfl, by simp, ?_⟩⟩
  have h1 : (⟨w0.heap.size, 0, none⟩ : Addr).add j = ⟨w0.heap.size, j, none⟩ := by unfold Addr.add; by_cases hj : j = 0 <;> simp [hj]
  rw [h1]
  exact (cell_of_row _ w0.heap.size j _ 32 (0, 0) (heap_alloc_new w0 _)).trans (by simpa using hu)
set_option maxHeartbeats 1600000 in
theorem walk  (w : World)  (m : Int) (hm : w.cell? ⟨0, 0, none⟩ = some (.int .i64 m)) :
    Calls Try.prog 3 #[] w (Yes w) := by
  go_enter Try.func3, Try.ntmps3
  go_wp2_with fail
  refine (PLines.p_lines _ m _ (by decide) hm).mono ?_
  rintro e w1 ⟨A, n, c, rfl, hO, hb1⟩
  rw [show Lin.linesOf (bs ⟨#[97, 32, 32, 98, 32, 35, 32, 99, 10, 10, 32, 100]⟩) = _ from ex_lines] at hO ⊢
  simp only at hO
  have hn : n = 2 := by obtain ⟨us, h, _⟩ := hO; exact h.symm
  subst hn
  obtain ⟨ad, L, A1, c1, rfl, hab, hL, c0, r1, z1, z1'⟩ := hO.load (k := 0) (by omega)
  obtain ⟨ad', L2, A2, c2, hA', hab2, hL2, c02, r2, z2, z2'⟩ := hO.load (k := 1) (by omega)
  cases hA'
  simp at hL hL2
  subst hL hL2
  have hm1 := keep_cell hb1 hm
  go_wp2_with fail
  refine (Num.p_num _ _ (by decide)).mono ?_
  rintro e w' ⟨rfl, rfl⟩
  rw [show numOK (bs ⟨#[45, 48]⟩) = _ from ex_neg]
  go_wp2_with fail
  refine (Num.p_num _ _ (by decide)).mono ?_
  rintro e w' ⟨rfl, rfl⟩
  rw [show numOK (bs ⟨#[48, 48, 55]⟩) = _ from ex_zero]
  go_wp2_with fail
  refine (Rng.p_range _ m _ (by decide) hm1).mono ?_
  rintro e w' ⟨rfl, nd, rfl⟩
  rw [show Rng.rangeLo (bs ⟨#[51, 46, 46, 57]⟩) = _ from ex_range.1, show Rng.rangeHi (bs ⟨#[51, 46, 46, 57]⟩) = _ from ex_range.2.1, show Rng.rangeOK (bs ⟨#[51, 46, 46, 57]⟩) = _ from ex_range.2.2]
  clear hO hm hm1
  have c0' : w1.cell? ad = some (.slice A1 2 c1) := by simpa [Addr.add] using c0
  have c2' : w1.cell? ⟨ad.block, ad.off + 1, none⟩ = some (.slice A2 1 c2) := by simpa [Addr.add] using c02
  go_wp2_with fail
  have hb2 : Below w1.heap.size w1 ((w1.drewN nd).alloc (.cells (cs [([97], 1, 1), ([98], 1, 4)]).toArray 32)) := (Mem.below_draws (Below.refl _ _) nd).alloc (Nat.le_refl _) _
  refine (Same.same_any A1 2 c1 [([97], 1, 1), ([98], 1, 4)] _ 2 2 [([97], 1, 1), ([98], 1, 4)] _ ((r1.below hb2).more hb2.size) (by omega) (lit_words (w1.drewN nd) _) (by omega)).mono ?_
  rintro e w2 ⟨rfl, hb⟩
  have hb3 := hb2.trans (hb.mono hb2.size)
  clear hb hb2
  rw [show Same.same [([97], 1, 1), ([98], 1, 4)] [([97], 1, 1), ([98], 1, 4)] = true by simp [Same.same]]
  have c2'' := (hb3.cell (p := ⟨ad.block, ad.off + 1, none⟩) hab2).trans c2'
  clear c0 c02 c0' c2' r1
  go_wp2_with fail
  have hb4 : Below w1.heap.size w1 (w2.alloc (.cells (cs [([100], 3, 2)]).toArray 32)) := hb3.alloc hb3.size _
  refine (Same.same_any A2 1 c2 [([100], 3, 2)] _ 1 1 [([100], 3, 2)] _ ((r2.below hb4).more hb4.size) (by omega) (lit_words w2 _) (by omega)).mono ?_
  rintro e w3 ⟨rfl, hb⟩
  have hb5 := hb4.trans (hb.mono hb4.size)
  clear hb hb4 hb3
  rw [show Same.same [([100], 3, 2)] [([100], 3, 2)] = true by simp [Same.same]]
  clear c2'' r2
  go_wp2_with fail
  go_ret
  exact ⟨rfl, hb1.trans (hb5.mono hb1.size)⟩

theorem readable : ∀ t ∈ Try.f3.params.toList, Try.prog.readableRec t = true ∧ t < Try.prog.types.size := by
  rw [Try.params3]
  exact Frame.rrs _ rfl

set_option maxRecDepth 100000 in
theorem lifted (os : Os) (started : os.Started) (H : Type) (enc : TypeId × Value → H) :
    ReturnsInHanded {} Try.checked os 3 .any (Rows.wordsExamplesSpec.pre6 enc Try.prog Try.f3 Rows.wordsExamplesRow.domain false) (Rows.wordsExamplesSpec.post enc Try.prog Try.f3 false true false false) := by
  refine returnsInHanded_of_change_shaped (C := Try.checked) own started (by kernel_rfl) Try.func3
    (ChangeSpec.witness6 (enc := enc) (C := Try.checked) false ⟨#[], #[], []⟩ 8 (by kernel_rfl) (by kernel_rfl) (by kernel_rfl) (by kernel_rfl)) ?_
  intro W base args ds gs before hval0 hW hcnd _ hsh _
  obtain ⟨m, hm⟩ := Frame.cell W hsh
  have hval : ∀ (j : Nat) t v, Try.f3.params[j]? = some t → args[j]? = some v → Value.okWide Try.prog W .any base t v := hval0
  have hW' := hW
  obtain ⟨p, q, hA0, hV, rfl, hfz, hnd⟩ := hW
  have hA : DataW.TrodAll enc Try.prog W 0 (fun _ => true) true Try.f3.params.toList args.toList ds p := hA0
  rw [Try.params3] at hA hval
  obtain ⟨hargs, rfl, rfl⟩ := trodAll_nil hA
  obtain rfl : args = #[] := by cases args; simp_all
  obtain ⟨rfl, rfl⟩ := trodVars_none hV

  clear hA0 hval0
  refine (walk  W  m hm).mono fun e W' ⟨he, hg⟩ => ?_
  subst he
  exact ⟨_, rfl, Frame.post_law (t4 := 4) Frame.laid readable Try.underlying4 rfl rfl rfl rfl rfl rfl hW' hg⟩

theorem over : Rows.wordsExamplesRow.holds Try.pinned (OpenSpec.ofChange Rows.wordsExamplesSpec) :=
  OpenClaim.holds_of_wide 3 Try.f3 rfl rfl rfl rfl rfl rfl rfl ⟨rfl, rfl, rfl, rfl, rfl⟩ rfl rfl rfl rfl rfl (by kernel_rfl) Try.func3 (by kernel_rfl)
    (of_decide_eq_true (by kernel_rfl)) (by unfold Func.isWrapper; first | (rw [if_pos (by decide +kernel)]; kernel_rfl) | (rw [if_neg (by decide +kernel)]; exact ⟨rfl, rfl⟩))
    (fun os started H enc _ => lifted os started H enc)

theorem proved : Rows.WordsExamplesSaid :=
  over
#print axioms proved
end Go.Proofs.Ythjdhcldocpfjaa.wordsExamples
