/-
  Decode returns the specified results for arbitrary bytes, also behind the first item: the law returns true for every string; condition: the string is of at most 1048576 bytes (its bulk, as the row says).
-/
import Derived.Test.YtepbdcnjhbaehaaLawF
import Derived.Test.YtepbdcnjhbaehaaDcs
import Derived.Test.YtepbdcnjhbaehaaCrcA
import Derived.ProofKit
import Derived.OpenShut
import Derived.JoinedCond
namespace Go.Proofs.Ytepbdcnjhbaehaa.layoutbinDecodes
open Go.ChangeShapes Go.WideShapes Go.ChangeAt Go.ChangeMaps Go.RowKit Wd Mem Awake
set_option linter.unusedVariables false

theorem own : ownKnob Try.prog.godebug = none := by kernel_rfl

set_option maxRecDepth 100000 in
set_option maxHeartbeats 1600000 in
theorem walk (s0 : ByteArray) (z0 : s0.size ≤ 9223372036854775807) (w : World) (y0 : s0.size ≤ 1048576) :
    Calls Try.prog 7 #[.string s0] w (Yes w) := by
  obtain ⟨u1, hu1, z1⟩ : ∃ u : ByteArray, (⟨#[82, 80, 76, 49]⟩ : ByteArray) ++ s0 = u ∧ u.size ≤ 9223372036854775807 := ⟨_, rfl, by rw [ByteArray.size_append]; have : (⟨#[82, 80, 76, 49]⟩ : ByteArray).size = 4 := rfl; omega⟩
  obtain ⟨u2, hu2, z2⟩ : ∃ u : ByteArray, (⟨#[82, 80, 76, 49, 0, 0, 1, 0]⟩ : ByteArray) ++ s0 = u ∧ u.size ≤ 9223372036854775807 := ⟨_, rfl, by rw [ByteArray.size_append]; have : (⟨#[82, 80, 76, 49, 0, 0, 1, 0]⟩ : ByteArray).size = 8 := rfl; omega⟩
  have l1 : (⟨#[82, 80, 76, 49]⟩ : ByteArray).size + s0.size ≤ 9223372036854775807 := by have : (⟨#[82, 80, 76, 49]⟩ : ByteArray).size = 4 := rfl; omega
  have l2 : (⟨#[82, 80, 76, 49, 0, 0, 1, 0]⟩ : ByteArray).size + s0.size ≤ 9223372036854775807 := by have : (⟨#[82, 80, 76, 49, 0, 0, 1, 0]⟩ : ByteArray).size = 8 := rfl; omega
  have l3 : ¬ 9223372036854775807 < 4 + s0.size := by omega
  have l4 : ¬ 9223372036854775807 < 8 + s0.size := by omega
  go_enter Try.func7, Try.ntmps7
  go_wp2_with (first | (go_at_call 15; refine (Awk.awake_any _).mono ?_; rintro e w' ⟨rfl, rfl⟩) | fail)
  refine (Dcs.decodes_any s0 _ z0).mono ?_
  rintro e w1 ⟨rfl, hb1⟩
  have HB1 := Lib.hid hb1
  clear hb1
  go_wp2_with fail
  refine (Dcs.decodes_any u1 _ z1).mono ?_
  rintro e w2 ⟨rfl, hb2⟩
  have HB2 := Lib.hid (HB1.out.trans (hb2.mono HB1.out.size))
  clear hb2
  go_wp2_with fail
  refine (Dcs.decodes_any u2 _ z2).mono ?_
  rintro e w3 ⟨rfl, hb3⟩
  have HB3 := Lib.hid (HB2.out.trans (hb3.mono HB2.out.size))
  clear hb3
  go_wp2_with fail
  go_ret
  exact ⟨by simp, HB3.out⟩

theorem readable : ∀ t ∈ Try.f7.params.toList, Try.prog.readableRec t = true ∧ t < Try.prog.types.size := by
  rw [Try.params7]
  exact LawF.rrs _ rfl

set_option maxRecDepth 100000 in
theorem lifted (os : Os) (started : os.Started) (H : Type) (enc : TypeId × Value → H) (F : Stop.Interp) :
    ReturnsInHanded {} Try.checked os 7 .any ((Rows.OpenSpec.upto Rows.layoutbinDecodesSpec).pre6 enc Try.prog Try.f7 Rows.layoutbinDecodesUptoRow.domain false) (((Rows.OpenSpec.upto Rows.layoutbinDecodesSpec).at F).post enc Try.prog Try.f7 false true false false) := by
  refine returnsInHanded_of_calls (C := Try.checked) (f := 7) own started (by kernel_rfl)
    (OpenSpec.witness (enc := enc) (C := Try.checked) (f := 7) (fn := Try.f7) (conds := Rows.layoutbinDecodesUptoRow.domain) (apart := false) (s := Rows.OpenSpec.upto Rows.layoutbinDecodesSpec) (k := Rows.uptoSmall) rfl false ⟨#[], #[.string ByteArray.empty], []⟩ 8 (by kernel_rfl) (by kernel_rfl) (by kernel_rfl)
      (x := ([.lit (.string [])], [], [])) (by kernel_rfl) rfl (by kernel_rfl)) ?_
  intro w0 tape i _ hsh _ hok hpre hholds
  obtain ⟨_, _, _, fn', hfn', _, _, _, _, hval0⟩ := hok
  have efn : fn' = Try.f7 := Option.some.inj (hfn'.symm.trans Try.func7)
  subst efn
  obtain ⟨ds, gs, before, hw0, hcnd, hk⟩ := (OpenSpec.pre_some (s := Rows.OpenSpec.upto Rows.layoutbinDecodesSpec) (k := Rows.uptoSmall) rfl _ _ _ _).1 hpre.1
  have hW0 := DataW.Whole.of_heap (w' := w0.forCall tape i) (by rfl) hw0
  generalize w0.forCall tape i = W at *
  generalize i.args = args at *
  have hval : ∀ (j : Nat) t v, Try.f7.params[j]? = some t → args[j]? = some v → Value.okWide Try.prog W .any _ t v := hval0
  have hW : DataW.Whole enc Try.prog Try.f7.params.toList Rows.layoutbinDecodesSpec.vars false W args.toList ds gs before := hW0
  have hW' := hW
  obtain ⟨p, q, hA0, hV, rfl, hfz, hnd⟩ := hW
  have hA : DataW.TrodAll enc Try.prog W 0 (fun _ => true) true Try.f7.params.toList args.toList ds p := hA0
  rw [Try.params7] at hA hval
  obtain ⟨v0, vs0, d0, ds0, p0, q0, hargs, rfl, rfl, h0, r0⟩ := trodAll_cons hA
  obtain ⟨rfl, rfl, rfl⟩ := trodAll_nil r0
  obtain rfl : args = #[v0] := by cases args; simp_all
  obtain ⟨rfl, rfl⟩ := trodVars_none hV
  obtain ⟨s0, rfl, rfl, _, z0⟩ := open_string (P := Try.prog) Try.underlying9 (hval 0 9 v0 rfl rfl) h0
  have hbulk : Rows.uptoBulkAll _ ≤ 1048576 := of_decide_eq_true hk
  simp only [List.append_nil, Rows.uptoBulkAll, Rows.uptoBulk, Array.length_toList] at hbulk
  clear hA0 hval0 hW0 hw0 hpre hk
  have hcall : Calls Try.prog 7 #[.string s0] W fun e W' => ∃ v, e = .returned v ∧ Rows.layoutbinDecodesSpec.post enc Try.prog Try.f7 false true false false W #[.string s0] v W' := by
    refine (walk s0 (by unfold maxLen at z0; omega) W (by have : s0.data.size = s0.size := rfl; omega)).mono fun e W' ⟨he, hg⟩ => ?_
    subst he
    exact ⟨_, rfl, LawF.post_law (t4 := 4) LawF.laid readable Try.underlying4 rfl rfl rfl rfl rfl rfl hW' hg⟩
  refine hcall.mono fun e W' ⟨v, he, hp⟩ => ?_
  subst he
  exact ChangeSpec.post_blind hp

theorem over : Rows.layoutbinDecodesUptoRow.holds Try.pinned (Rows.OpenSpec.upto Rows.layoutbinDecodesSpec) :=
  OpenClaim.holds_of_cond 7 Try.f7 rfl rfl rfl rfl rfl rfl rfl ⟨rfl, rfl, rfl, rfl, rfl⟩ rfl rfl rfl rfl rfl (by kernel_rfl) Try.func7 (by kernel_rfl)
    (of_decide_eq_true (by kernel_rfl)) (by unfold Func.isWrapper; first | (rw [if_pos (by decide +kernel)]; kernel_rfl) | (rw [if_neg (by decide +kernel)]; exact ⟨rfl, rfl⟩))
    (fun os started H enc _ F => lifted os started H enc F)

theorem proved : Rows.LayoutbinDecodesUptoSaid :=
  over
#print axioms proved
end Go.Proofs.Ytepbdcnjhbaehaa.layoutbinDecodes
