/-
  Parse returns the specified layout, or the specified error and line, for arbitrary texts and for texts of typical words: the law returns true for every text and every list of bytes; no condition beside the row's own.
-/
import Derived.Test.YtdcbaedhgoipjaaLawF
import Derived.Test.YtdcbaedhgoipjaaPars
import Derived.ProofKit
import Derived.OpenShut
import Derived.Lib.OthersKept
namespace Go.Proofs.Ytdcbaedhgoipjaa.layoutParses
open Go.ChangeShapes Go.WideShapes Go.ChangeAt Go.ChangeMaps Go.RowKit Wd Mem Awake
set_option linter.unusedVariables false

theorem own : ownKnob Try.prog.godebug = none := by kernel_rfl

set_option maxRecDepth 100000 in
set_option maxHeartbeats 1600000 in
theorem walk (s0 : ByteArray) (z0 : s0.size ≤ 9223372036854775807) (A1 : Option Addr) (n1 c1 : Nat) (hn1 : n1 ≤ c1) (hc1 : c1 ≤ 9223372036854775807) (w : World) (hB1 : LawF.Byts w A1 n1) (m : Int) (hm : w.cell? ⟨0, 0, none⟩ = some (.int .i64 m)) :
    Calls Try.prog 7 #[.string s0, .slice A1 n1 c1] w (Yes w) := by
  exact Pars.both s0 z0 A1 n1 c1 hn1 hc1 w hB1 m hm

theorem readable : ∀ t ∈ Try.f7.params.toList, Try.prog.readableRec t = true ∧ t < Try.prog.types.size := by
  rw [Try.params7]
  exact LawF.rrs _ rfl

set_option maxRecDepth 100000 in
theorem lifted (os : Os) (started : os.Started) (H : Type) (enc : TypeId × Value → H) :
    ReturnsInHanded {} Try.checked os 7 .any (Rows.layoutParsesSpec.pre6 enc Try.prog Try.f7 Rows.layoutParsesRow.domain false) (Rows.layoutParsesSpec.post enc Try.prog Try.f7 false true false false) := by
  refine returnsInHanded_of_change_shaped (C := Try.checked) own started (by kernel_rfl) Try.func7
    (ChangeSpec.witness6 (enc := enc) (C := Try.checked) false ⟨#[], #[.string ByteArray.empty, .slice none 0 0], []⟩ 8 (by kernel_rfl) (by kernel_rfl) (by kernel_rfl) (by kernel_rfl)) ?_
  intro W base args ds gs before hval0 hW hcnd _ hsh _
  obtain ⟨m, hm⟩ := LawF.cell W hsh
  have hval : ∀ (j : Nat) t v, Try.f7.params[j]? = some t → args[j]? = some v → Value.okWide Try.prog W .any base t v := hval0
  have hW' := hW
  obtain ⟨p, q, hA0, hV, rfl, hfz, hnd⟩ := hW
  have hA : DataW.TrodAll enc Try.prog W 0 (fun _ => true) true Try.f7.params.toList args.toList ds p := hA0
  rw [Try.params7] at hA hval
  obtain ⟨v0, vs0, d0, ds0, p0, q0, hargs, rfl, rfl, h0, r0⟩ := trodAll_cons hA
  obtain ⟨v1, vs1, d1, ds1, p1, q1, rfl, rfl, rfl, h1, r1⟩ := trodAll_cons r0
  obtain ⟨rfl, rfl, rfl⟩ := trodAll_nil r1
  obtain rfl : args = #[v0, v1] := by cases args; simp_all
  obtain ⟨rfl, rfl⟩ := trodVars_none hV
  obtain ⟨s0, rfl, _, _, z0⟩ := open_string Try.underlying9 (hval 0 9 v0 rfl rfl) h0
  obtain ⟨A1, n1, c1, rfl, hB1, hn1, hc1⟩ := LawF.arg_bytes (hval 1 51 v1 rfl rfl) h1
  clear hA0 hval0
  refine (walk s0 (by unfold maxLen at z0; omega) A1 n1 c1 hn1 hc1 W hB1 m hm).mono fun e W' ⟨he, hg⟩ => ?_
  subst he
  exact ⟨_, rfl, LawF.post_law (t4 := 4) LawF.laid readable Try.underlying4 rfl rfl rfl rfl rfl rfl hW' hg⟩

theorem over : Rows.layoutParsesRow.holds Try.pinned (OpenSpec.ofChange Rows.layoutParsesSpec) :=
  OpenClaim.holds_of_wide 7 Try.f7 rfl rfl rfl rfl rfl rfl rfl ⟨rfl, rfl, rfl, rfl, rfl⟩ rfl rfl rfl rfl rfl (by kernel_rfl) Try.func7 (by kernel_rfl)
    (of_decide_eq_true (by kernel_rfl)) (by unfold Func.isWrapper; first | (rw [if_pos (by decide +kernel)]; kernel_rfl) | (rw [if_neg (by decide +kernel)]; exact ⟨rfl, rfl⟩))
    (fun os started H enc _ => lifted os started H enc)

theorem proved : Rows.LayoutParsesSaid :=
  over
#print axioms proved
end Go.Proofs.Ytdcbaedhgoipjaa.layoutParses
