/-
  All functions answer as the document's own do, for whatever cells, start and stock.
-/
import Derived.Test.YtglcimahdgnnnaaLawF
import Derived.Test.YtglcimahdgnnnaaWAg
import Derived.ProofKit
import Derived.OpenShut
import Derived.Lib.OthersKept
namespace Go.Proofs.Ytglcimahdgnnnaa.dynamicsReference
open Go.ChangeShapes Go.WideShapes Go.ChangeAt Go.ChangeMaps Go.RowKit Dyn Mem Src PSm PChk PLim PPer PSpd PTim LawF
set_option linter.unusedVariables false

theorem own : ownKnob Try.prog.godebug = none := by kernel_rfl

set_option maxRecDepth 100000 in
set_option maxHeartbeats 1600000 in
theorem walk (A0 : Option Addr) (n0 c0 : Nat) (L0 : List Dyn.Cel) (hn0 : n0 ≤ c0) (hc0 : c0 ≤ 9223372036854775807) (a1 : Int) (w1 : (Lit.int .i64 a1).wf = true) (x2 : ByteArray) (s2 : Dyn.Stk) (k2 : LawF.stkOk s2) (w : World) (hB0 : Mem.Rd Mem.celR w w.heap.size A0 n0 L0) :
    Calls Try.prog 4 #[.slice A0 n0 c0, .int .i64 a1, Mem.stk x2 s2] w (Yes w) := by
  exact WAg.reference A0 n0 c0 L0 hn0 hc0 a1 w1 x2 s2 w hB0

theorem readable : ∀ t ∈ Try.f4.params.toList, Try.prog.readableRec t = true ∧ t < Try.prog.types.size := by
  rw [Try.params4]
  exact LawF.rrs _ rfl

set_option maxRecDepth 100000 in
theorem lifted (os : Os) (started : os.Started) (H : Type) (enc : TypeId × Value → H) :
    ReturnsInHanded {} Try.checked os 4 .any (Rows.dynamicsReferenceSpec.pre6 enc Try.prog Try.f4 Rows.dynamicsReferenceRow.domain false) (Rows.dynamicsReferenceSpec.post enc Try.prog Try.f4 false true false false) := by
  refine returnsInHanded_of_change_shaped (C := Try.checked) own started (by kernel_rfl) Try.func4
    (ChangeSpec.witness6 (enc := enc) (C := Try.checked) false ⟨#[], #[.slice none 0 0, .int .i64 0, .agg #[.string ByteArray.empty, .int .i64 0, .int .i64 0, .int .i64 0, .int .i64 0]], []⟩ 8 (by kernel_rfl) (by kernel_rfl) (by kernel_rfl) (by kernel_rfl)) ?_
  intro W base args ds gs before hval0 hW hcnd _ hsh _
  have hval : ∀ (j : Nat) t v, Try.f4.params[j]? = some t → args[j]? = some v → Value.okWide Try.prog W .any base t v := hval0
  have hW' := hW
  obtain ⟨p, q, hA0, hV, rfl, hfz, hnd⟩ := hW
  have hA : DataW.TrodAll enc Try.prog W 0 (fun _ => true) true Try.f4.params.toList args.toList ds p := hA0
  rw [Try.params4] at hA hval
  obtain ⟨v0, vs0, d0, ds0, p0, q0, hargs, rfl, rfl, h0, r0⟩ := trodAll_cons hA
  obtain ⟨v1, vs1, d1, ds1, p1, q1, rfl, rfl, rfl, h1, r1⟩ := trodAll_cons r0
  obtain ⟨v2, vs2, d2, ds2, p2, q2, rfl, rfl, rfl, h2, r2⟩ := trodAll_cons r1
  obtain ⟨rfl, rfl, rfl⟩ := trodAll_nil r2
  obtain rfl : args = #[v0, v1, v2] := by cases args; simp_all
  obtain ⟨rfl, rfl⟩ := trodVars_none hV
  obtain ⟨A0, n0, c0, L0, rfl, hB0, hn0, hc0, _⟩ := LawF.arg_cells (hval 0 28 v0 rfl rfl) h0
  obtain ⟨a1, rfl, _, _, w1⟩ := open_int Try.underlying3 (hval 1 3 v1 rfl rfl) h1
  obtain ⟨x2, s2, rfl, k2⟩ := LawF.arg_stock (hval 2 23 v2 rfl rfl) h2
  clear hA0 hval0
  refine (walk A0 n0 c0 L0 hn0 hc0 a1 w1 x2 s2 k2 W hB0).mono fun e W' ⟨he, hg⟩ => ?_
  subst he
  exact ⟨_, rfl, LawF.post_law (t4 := 4) LawF.laid readable Try.underlying4 rfl rfl rfl rfl rfl rfl hW' hg⟩

theorem over : Rows.dynamicsReferenceRow.holds Try.pinned (OpenSpec.ofChange Rows.dynamicsReferenceSpec) :=
  OpenClaim.holds_of_wide 4 Try.f4 rfl rfl rfl rfl rfl rfl rfl ⟨rfl, rfl, rfl, rfl, rfl⟩ rfl rfl rfl rfl rfl (by kernel_rfl) Try.func4 (by kernel_rfl)
    (of_decide_eq_true (by kernel_rfl)) (by unfold Func.isWrapper; first | (rw [if_pos (by decide +kernel)]; kernel_rfl) | (rw [if_neg (by decide +kernel)]; exact ⟨rfl, rfl⟩))
    (fun os started H enc _ => lifted os started H enc)

theorem proved : Rows.DynamicsReferenceSaid :=
  over
#print axioms proved
end Go.Proofs.Ytglcimahdgnnnaa.dynamicsReference
