/-
  It is proved that railplanlaw3.WordsNumbers returns true and changes nothing. Condition: the arguments hold together at most 1048576 values and letters.
-/
import Derived.Test.YthjdhcldocpfjaaFrame
import Derived.Test.YthjdhcldocpfjaaRng
import Derived.ProofKit
import Derived.OpenShut
import Derived.JoinedCond
namespace Go.Proofs.Ythjdhcldocpfjaa.wordsNumbers
open Go.ChangeShapes Go.WideShapes Go.ChangeAt Go.ChangeMaps Go.RowKit Wd Mem Aids
set_option linter.unusedVariables false

theorem own : ownKnob Try.prog.godebug = none := by kernel_rfl

set_option maxRecDepth 100000 in
set_option maxHeartbeats 1600000 in
theorem walk (s0 : ByteArray) (z0 : s0.size ≤ 9223372036854775807) (A1 : Option Addr) (n1 c1 : Nat) (hn1 : n1 ≤ c1) (hc1 : c1 ≤ 9223372036854775807) (w : World) (hB1 : Aids.Byts w A1 n1) (m : Int) (hm : w.cell? ⟨0, 0, none⟩ = some (.int .i64 m)) (y0 : s0.size ≤ 1048576) :
    Calls Try.prog 5 #[.string s0, .slice A1 n1 c1] w (Yes w) := by
  go_enter Try.func5, Try.ntmps5
  go_wp2_with fail
  refine (pieces_any A1 n1 c1 _ (by omega) hB1).mono ?_
  rintro e w1 ⟨t, rfl, ht, hb1⟩
  have hm1 := keep_cell hb1 hm
  obtain ⟨u, hu, zu⟩ : ∃ u : ByteArray, t.extract 0 (min (t.size : Int) 12).toNat = u ∧ u.size ≤ 1040 := ⟨_, rfl, by rw [ByteArray.size_extract]; omega⟩
  obtain ⟨v, hv, zv⟩ : ∃ u : ByteArray, t.extract 0 (min (t.size : Int) 3).toNat = u ∧ u.size ≤ 1040 := ⟨_, rfl, by rw [ByteArray.size_extract]; omega⟩
  go_wp2_with fail
  go_region
  go_wp2_with fail
  have hbW : Below w1.heap.size w1 (w1.alloc (.cells #[.string s0, .string u, .string v] 9)).drew := ((Below.refl _ _).alloc (Nat.le_refl _) _).drew
  have hT : ∀ i, i < 3 → ∃ x : ByteArray, (w1.alloc (.cells #[.string s0, .string u, .string v] 9)).drew.cell? ⟨w1.heap.size, i, none⟩ = some (.string x) ∧ x.size ≤ 1048576 := by
    intro i hi
    have hc := fun j => cell_of_row (w1.alloc (.cells #[.string s0, .string u, .string v] 9)) w1.heap.size j _ 9 (0, 0) (heap_alloc_new w1 _)
    match i, hi with
    | 0, _ => exact ⟨s0, hc 0, y0⟩
    | 1, _ => exact ⟨u, hc 1, by omega⟩
    | 2, _ => exact ⟨v, hc 2, by omega⟩
    | k + 3, h => exact absurd h (by omega)
  have hmW := keep_cell hbW hm1
  have hbw := hb1.trans (hbW.mono hb1.size)
  generalize (w1.alloc (.cells #[.string s0, .string u, .string v] 9)).drew = W0 at *
  clear hm hm1 hB1 hu hv
  go_loopw [34] (fun i wr => ∃ k : Nat, k ≤ 3 ∧ i = .int .i64 k ∧ ∃ nd, wr = W0.drewN nd) (fun i _ => 3 - (intOf i).toNat)
  case atStart => exact ⟨0, by omega, rfl, 0, rfl⟩
  case round =>
    obtain ⟨k, hk, rfl, nd, rfl⟩ := hrel
    by_cases hlt : k < 3
    · obtain ⟨x, hx, zx⟩ := hT k hlt
      have r1 := Num.num_range (bs x)
      have hmr : (W0.drewN nd).cell? ⟨0, 0, none⟩ = some (.int .i64 m) := hmW
      clear hT
      go_wp2_with fail
      refine (Num.p_num x _ (by omega)).mono ?_
      rintro e w' ⟨rfl, rfl⟩
      go_wp2_with fail
      refine (Num.r_num x _ (by omega)).mono ?_
      rintro e w' ⟨rfl, rfl⟩
      go_wp2_with fail
      refine (Rng.p_range x m _ (by omega) hmr).mono ?_
      rintro e w' ⟨rfl, nd2, rfl⟩
      go_wp2_with fail
      refine (Rng.r_range x _ (by omega)).mono ?_
      rintro e w' ⟨rfl, rfl⟩
      generalize number (bs x) = g1 at *
      generalize numOK (bs x) = g2 at *
      generalize Rng.rangeLo (bs x) = g3 at *
      generalize Rng.rangeHi (bs x) = g4 at *
      generalize Rng.rangeOK (bs x) = g5 at *
      go_wp2_with fail
      go_roundw
      case rel => exact ⟨k + 1, by omega, by go_num, nd + nd2, rfl⟩
      case measure => simp [intOf]; omega
    · clear hT
      have hmr : (W0.drewN nd).cell? ⟨0, 0, none⟩ = some (.int .i64 m) := hmW
      have hbr : Below w.heap.size w (W0.drewN nd) := Mem.below_draws hbw nd
      generalize W0.drewN nd = W1 at *
      go_wp2_with fail
      refine (awake_any m _ hmr).mono ?_
      rintro e w2 ⟨rfl, hb2⟩
      go_wp2_with fail
      go_ret
      exact ⟨rfl, hbr.trans (hb2.mono hbr.size)⟩

theorem readable : ∀ t ∈ Try.f5.params.toList, Try.prog.readableRec t = true ∧ t < Try.prog.types.size := by
  rw [Try.params5]
  exact Frame.rrs _ rfl

set_option maxRecDepth 100000 in
theorem lifted (os : Os) (started : os.Started) (H : Type) (enc : TypeId × Value → H) (F : Stop.Interp) :
    ReturnsInHanded {} Try.checked os 5 .any ((Rows.OpenSpec.upto Rows.wordsNumbersSpec).pre6 enc Try.prog Try.f5 Rows.wordsNumbersUptoRow.domain false) (((Rows.OpenSpec.upto Rows.wordsNumbersSpec).at F).post enc Try.prog Try.f5 false true false false) := by
  refine returnsInHanded_of_calls (C := Try.checked) (f := 5) own started (by kernel_rfl)
    (OpenSpec.witness (enc := enc) (C := Try.checked) (f := 5) (fn := Try.f5) (conds := Rows.wordsNumbersUptoRow.domain) (apart := false) (s := Rows.OpenSpec.upto Rows.wordsNumbersSpec) (k := Rows.uptoSmall) rfl false ⟨#[], #[.string ByteArray.empty, .slice none 0 0], []⟩ 8 (by kernel_rfl) (by kernel_rfl) (by kernel_rfl)
      (x := ([.lit (.string []), .nil], [], [])) (by kernel_rfl) rfl (by kernel_rfl)) ?_
  intro w0 tape i _ hsh _ hok hpre hholds
  obtain ⟨_, _, _, fn', hfn', _, _, _, _, hval0⟩ := hok
  have efn : fn' = Try.f5 := Option.some.inj (hfn'.symm.trans Try.func5)
  subst efn
  obtain ⟨ds, gs, before, hw0, hcnd, hk⟩ := (OpenSpec.pre_some (s := Rows.OpenSpec.upto Rows.wordsNumbersSpec) (k := Rows.uptoSmall) rfl _ _ _ _).1 hpre.1
  have hW0 := DataW.Whole.of_heap (w' := w0.forCall tape i) (by rfl) hw0
  obtain ⟨m, hm⟩ := Frame.cell _ hsh
  generalize w0.forCall tape i = W at *
  generalize i.args = args at *
  have hval : ∀ (j : Nat) t v, Try.f5.params[j]? = some t → args[j]? = some v → Value.okWide Try.prog W .any _ t v := hval0
  have hW : DataW.Whole enc Try.prog Try.f5.params.toList Rows.wordsNumbersSpec.vars false W args.toList ds gs before := hW0
  have hW' := hW
  obtain ⟨p, q, hA0, hV, rfl, hfz, hnd⟩ := hW
  have hA : DataW.TrodAll enc Try.prog W 0 (fun _ => true) true Try.f5.params.toList args.toList ds p := hA0
  rw [Try.params5] at hA hval
  obtain ⟨v0, vs0, d0, ds0, p0, q0, hargs, rfl, rfl, h0, r0⟩ := trodAll_cons hA
  obtain ⟨v1, vs1, d1, ds1, p1, q1, rfl, rfl, rfl, h1, r1⟩ := trodAll_cons r0
  obtain ⟨rfl, rfl, rfl⟩ := trodAll_nil r1
  obtain rfl : args = #[v0, v1] := by cases args; simp_all
  obtain ⟨rfl, rfl⟩ := trodVars_none hV
  obtain ⟨s0, rfl, rfl, _, z0⟩ := open_string (P := Try.prog) Try.underlying9 (hval 0 9 v0 rfl rfl) h0
  obtain ⟨A1, n1, c1, rfl, hB1, hn1, hc1⟩ := Frame.arg_bytes (hval 1 35 v1 rfl rfl) h1
  have hbulk : Rows.uptoBulkAll _ ≤ 1048576 := of_decide_eq_true hk
  simp only [List.append_nil, Rows.uptoBulkAll, Rows.uptoBulk, Array.length_toList] at hbulk
  clear hA0 hval0 hW0 hw0 hpre hk
  have hcall : Calls Try.prog 5 #[.string s0, .slice A1 n1 c1] W fun e W' => ∃ v, e = .returned v ∧ Rows.wordsNumbersSpec.post enc Try.prog Try.f5 false true false false W #[.string s0, .slice A1 n1 c1] v W' := by
    refine (walk s0 (by unfold maxLen at z0; omega) A1 n1 c1 hn1 hc1 W hB1 m hm  (by have : s0.data.size = s0.size := rfl; omega)).mono fun e W' ⟨he, hg⟩ => ?_
    subst he
    exact ⟨_, rfl, Frame.post_law (t4 := 4) Frame.laid readable Try.underlying4 rfl rfl rfl rfl rfl rfl hW' hg⟩
  refine hcall.mono fun e W' ⟨v, he, hp⟩ => ?_
  subst he
  exact ChangeSpec.post_blind hp

theorem over : Rows.wordsNumbersUptoRow.holds Try.pinned (Rows.OpenSpec.upto Rows.wordsNumbersSpec) :=
  OpenClaim.holds_of_cond 5 Try.f5 rfl rfl rfl rfl rfl rfl rfl ⟨rfl, rfl, rfl, rfl, rfl⟩ rfl rfl rfl rfl rfl (by kernel_rfl) Try.func5 (by kernel_rfl)
    (of_decide_eq_true (by kernel_rfl)) (by unfold Func.isWrapper; first | (rw [if_pos (by decide +kernel)]; kernel_rfl) | (rw [if_neg (by decide +kernel)]; exact ⟨rfl, rfl⟩))
    (fun os started H enc _ F => lifted os started H enc F)

theorem proved : Rows.WordsNumbersUptoSaid :=
  over
#print axioms proved
end Go.Proofs.Ythjdhcldocpfjaa.wordsNumbers
