/-
  It is proved that railplanlaw2.ResidueNextIsFirst returns true and changes nothing. Conditions: none.
-/
import Derived.Test.YtapflikdoiedeaaFrame
import Derived.Test.YtapflikdoiedeaaUni
import Derived.Test.YtapflikdoiedeaaAids
import Derived.ProofKit
import Derived.OpenShut
namespace Go.Proofs.Ytapflikdoiedeaa.residueNextIsFirst
open Go.ChangeShapes Go.WideShapes Go.ChangeAt Go.RowKit Plain Mem
set_option linter.unusedVariables false

theorem own : ownKnob Try.prog.godebug = none := by kernel_rfl

set_option maxHeartbeats 1600000 in
theorem walk (a0 : Int) (w0 : (Lit.int .i64 a0).wf = true) (A1 : Option Addr) (n1 c1 : Nat) (hn1 : n1 ≤ c1) (hc1 : c1 ≤ 9223372036854775807) (a2 : Int) (w2 : (Lit.int .i64 a2).wf = true) (w : World) (hI1 : Source.Ints w w.heap.size A1 n1) :
    Calls Try.prog 13 #[.int .i64 a0, .slice A1 n1 c1, .int .i64 a2] w fun e w' => e = .returned (.bool true) ∧ Below w.heap.size w w' := by
  have b0 := bounds_i64 w0
  have b2 := bounds_i64 w2
  go_enter Try.func13, Try.ntmps13
  have hbw : Below w.heap.size w w := Below.refl _ _
  go_wp2_with fail
  refine (Nums.period_any a0 _ (by omega) (by omega)).mono ?_
  rintro e w1 ⟨p, hp0, hp1, rfl, rfl⟩
  obtain ⟨k, rfl⟩ : ∃ k : Nat, p = k := ⟨p.toNat, by omega⟩
  go_wp2_with fail
  refine (Source.set_any k A1 n1 c1 _ (by omega) (by omega) hI1 (by omega)).mono ?_
  rintro e w1 ⟨Aa, na, ca, La, rfl, hOa, hva, hb⟩
  replace hI1 := Uni.ints_more (hI1.below hb) hb.size
  replace hbw := hbw.trans (hb.mono hbw.size)
  clear hb
  have hSa := hOa.spans
  have HVa := Lib.hid hva
  obtain ⟨hna, hca⟩ := Uni.own_form hOa
  clear hOa hva
  have hr := Nums.pick_range a2 (3 * (k : Int)) (by omega)
  go_wp2_with fail
  refine (Nums.pick_any a2 _ _ (by omega) (by omega) (by omega) (by omega)).mono ?_
  rintro e w1 ⟨rfl, rfl⟩
  generalize Nums.pick a2 (3 * (k : Int)) = F0 at *
  clear hI1
  go_wp2_with fail
  refine (Ask.next_any k Aa na ca La (F0 - k) _ (by omega) (by omega) (by omega) (by omega) hSa (by omega)).mono ?_
  rintro e w1 ⟨d, ok, rfl, hN, hb⟩
  replace hSa := (hSa.below hb).more hb.size
  replace hbw := hbw.trans (hb.mono hbw.size)
  clear hb
  rw [HVa.out] at hN
  cases ok with
  | false =>
    obtain ⟨hl, hd⟩ := Aids.none_empty k _ d La (by omega) (by have := HVa.out; simp only [Valid.vl, Bool.and_eq_true] at this; exact this.2) hN
    have hna : na = 0 := by have := hSa.1; rw [hl] at this; simpa using this.symm
    clear hN hl
    subst hd
    subst hna
    go_wp2_with fail
    refine (Uni.awake_any _).mono ?_
    rintro e w1 ⟨rfl, hb⟩
    replace hbw := hbw.trans (hb.mono hbw.size)
    clear hb
    go_wp2_with fail
    go_ret
    exact ⟨rfl, hbw⟩
  | true =>
    obtain ⟨d0, d1, d2, d3⟩ := Aids.found_at hN
    obtain ⟨D, rfl⟩ : ∃ D : Nat, d = D := ⟨d.toNat, by omega⟩
    have H2 := Lib.hid d2
    have H3 := Lib.hid d3
    clear hN d2 d3
    go_wp2_with fail
    go_loopw [11] (fun i wr => ∃ m : Nat, m ≤ D ∧ i = .int .i64 m ∧ Spans wr wr.heap.size Aa na La ∧ Below w.heap.size w wr) (fun i _ => D - (intOf i).toNat)
    case atStart => exact ⟨0, Nat.zero_le _, rfl, hSa, hbw⟩
    case round =>
      clear hSa hbw
      obtain ⟨m, hm, rfl, hSa, hbw⟩ := hrel
      by_cases hlt : m < D
      · have E1 : Hid (RefAsk.hasB (k : Int) La (F0 - k + m) = false) := by rw [Hid, Aids.has_at k La _ HVa.out]; exact H3.out m (by omega) (by omega)
        go_wp2_with fail
        refine (Aids.has_is k Aa na ca La (F0 - k + m) false _ E1.out (by omega) (by omega) (by omega) (by omega) hSa (by omega)).mono ?_
        rintro e w1 ⟨rfl, hb⟩
        replace hSa := (hSa.below hb).more hb.size
        replace hbw := hbw.trans (hb.mono hbw.size)
        clear hb
        go_wp2_with fail
        go_roundw
        case rel => exact ⟨m + 1, by omega, by go_num, hSa, hbw⟩
        case measure => simp [intOf]; omega
      · obtain rfl : m = D := by omega
        have E1 : Hid (RefAsk.hasB (k : Int) La (F0 - k + m) = true) := by rw [Hid, Aids.has_at k La _ HVa.out]; exact H2.out
        go_wp2_with fail
        refine (Uni.awake_any _).mono ?_
        rintro e w1 ⟨rfl, hb⟩
        replace hSa := (hSa.below hb).more hb.size
        replace hbw := hbw.trans (hb.mono hbw.size)
        clear hb
        go_wp2_with fail
        refine (Aids.has_is k Aa na ca La (F0 - k + m) true _ E1.out (by omega) (by omega) (by omega) (by omega) hSa (by omega)).mono ?_
        rintro e w1 ⟨rfl, hb⟩
        replace hbw := hbw.trans (hb.mono hbw.size)
        clear hb
        go_wp2_with fail
        go_ret
        exact ⟨rfl, hbw⟩

theorem readable : ∀ t ∈ Try.f13.params.toList, Try.prog.readableRec t = true ∧ t < Try.prog.types.size := by
  rw [Try.params13]
  exact Frame.rrs _ rfl

set_option maxRecDepth 100000 in
theorem lifted (os : Os) (started : os.Started) (H : Type) (enc : TypeId × Value → H) :
    ReturnsInHanded {} Try.checked os 13 .any (Rows.residueNextIsFirstSpec.pre6 enc Try.prog Try.f13 Rows.residueNextIsFirstRow.domain false) (Rows.residueNextIsFirstSpec.post enc Try.prog Try.f13 false true false false) := by
  refine returnsInHanded_of_change (C := Try.checked) own started (by kernel_rfl) Try.func13
    (ChangeSpec.witness6 (enc := enc) (C := Try.checked) false ⟨#[], #[.int .i64 0, .slice none 0 0, .int .i64 0], []⟩ 8 (by kernel_rfl) (by kernel_rfl) (by kernel_rfl) (by kernel_rfl)) ?_
  intro W base args ds gs before hval0 hW hcnd _
  have hval : ∀ (j : Nat) t v, Try.f13.params[j]? = some t → args[j]? = some v → Value.okWide Try.prog W .any base t v := hval0
  have hW' := hW
  obtain ⟨p, q, hA0, hV, rfl, hfz, hnd⟩ := hW
  have hA : DataW.TrodAll enc Try.prog W 0 (fun _ => true) true Try.f13.params.toList args.toList ds p := hA0
  rw [Try.params13] at hA hval
  obtain ⟨v0, vs0, d0, ds0, p0, q0, hargs, rfl, rfl, h0, r0⟩ := trodAll_cons hA
  obtain ⟨v1, vs1, d1, ds1, p1, q1, rfl, rfl, rfl, h1, r1⟩ := trodAll_cons r0
  obtain ⟨v2, vs2, d2, ds2, p2, q2, rfl, rfl, rfl, h2, r2⟩ := trodAll_cons r1
  obtain ⟨rfl, rfl, rfl⟩ := trodAll_nil r2
  obtain rfl : args = #[v0, v1, v2] := by cases args; simp_all
  obtain ⟨rfl, rfl⟩ := trodVars_none hV
  obtain ⟨a0, rfl, _, _, w0⟩ := open_int Try.underlying3 (hval 0 3 v0 rfl rfl) h0
  obtain ⟨A1, n1, c1, rfl, hI1, hn1, hc1⟩ := Frame.arg_ints (hval 1 35 v1 rfl rfl) h1
  obtain ⟨a2, rfl, _, _, w2⟩ := open_int Try.underlying3 (hval 2 3 v2 rfl rfl) h2
  clear hA0 hval0
  refine (walk a0 w0 A1 n1 c1 hn1 hc1 a2 w2 W hI1).mono fun e W' ⟨he, hg⟩ => ?_
  subst he
  exact ⟨_, rfl, Frame.post_law (t4 := 4) Frame.laid readable Try.underlying4 rfl rfl rfl rfl rfl rfl hW' hg⟩

theorem over : Rows.residueNextIsFirstRow.holds Try.pinned (OpenSpec.ofChange Rows.residueNextIsFirstSpec) :=
  OpenClaim.holds_of_wide 13 Try.f13 rfl rfl rfl rfl rfl rfl rfl ⟨rfl, rfl, rfl, rfl, rfl⟩ rfl rfl rfl rfl rfl (by kernel_rfl) Try.func13 (by kernel_rfl)
    (of_decide_eq_true (by kernel_rfl)) (by unfold Func.isWrapper; first | (rw [if_pos (by decide +kernel)]; kernel_rfl) | (rw [if_neg (by decide +kernel)]; exact ⟨rfl, rfl⟩))
    (fun os started H enc _ => lifted os started H enc)

theorem proved : Rows.ResidueNextIsFirstSaid :=
  over
#print axioms proved
end Go.Proofs.Ytapflikdoiedeaa.residueNextIsFirst
