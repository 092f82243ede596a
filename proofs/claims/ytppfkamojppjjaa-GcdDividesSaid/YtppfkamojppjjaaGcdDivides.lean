/-
  It is proved that railplanlaw1.GcdDivides returns true and changes nothing. Conditions: none.
-/
import Derived.Test.YtppfkamojppjjaaGcd
import Derived.Test.YtppfkamojppjjaaRows
import Derived.WalkKit
import Derived.ProofKit
import Derived.OpenShut
namespace Go.Proofs.Ytppfkamojppjjaa.gcdDivides
open Go.ChangeShapes Go.WideShapes Go.ChangeAt Go.RowKit
set_option linter.unusedVariables false

theorem own : ownKnob Try.prog.godebug = none := by kernel_rfl

theorem walk (a0 : Int) (a1 : Int) (a2 : Int) (w0 : (Lit.int .i64 a0).wf = true) (w1 : (Lit.int .i64 a1).wf = true) (w2 : (Lit.int .u8 a2).wf = true) (w : World) :
    Calls Try.prog 11 #[.int .i64 a0, .int .i64 a1, .int .u8 a2] w fun e w' => e = .returned (.bool true) ∧ Grown w w' := by
  have b0 := bounds_i64 w0
  have b1 := bounds_i64 w1
  have b2 := bounds_u8 w2
  by_cases hn : a0 < 0 ∨ a1 < 0
  · have N := Lib.hid hn
    by_cases h0 : a0 < 0
    · clear hn
      go_enter Try.func11, Try.ntmps11
      go_wp2_with fail
      refine (Gcd1.gcd_neg a0 a1 _ N.out).mono ?_
      rintro e w' ⟨rfl, rfl⟩
      go_wp2_with fail
      all_goals go_ret
      all_goals exact ⟨by simp, by repeat (first | exact Grown.refl _ | apply Grown.drew | apply Grown.alloc)⟩
    · have h1 : a1 < 0 := by omega
      clear hn
      go_enter Try.func11, Try.ntmps11
      go_wp2_with fail
      refine (Gcd1.gcd_neg a0 a1 _ N.out).mono ?_
      rintro e w' ⟨rfl, rfl⟩
      go_wp2_with fail
      all_goals go_ret
      all_goals exact ⟨by simp, by repeat (first | exact Grown.refl _ | apply Grown.drew | apply Grown.alloc)⟩
  · obtain ⟨a, rfl⟩ : ∃ a : Nat, a0 = a := ⟨a0.toNat, by omega⟩
    obtain ⟨b, rfl⟩ : ∃ b : Nat, a1 = b := ⟨a1.toNat, by omega⟩
    obtain ⟨k, rfl⟩ : ∃ k : Nat, a2 = k := ⟨a2.toNat, by omega⟩
    clear hn
    by_cases hz : 1 ≤ a ∨ 1 ≤ b
    · obtain ⟨g, hg⟩ : ∃ g, Nat.gcd a b = g := ⟨_, rfl⟩
      obtain ⟨g1, g2, g3, g4, g5⟩ := Gcd1.gcd_facts a b g k hg hz (by omega) (by omega)
      have G := Lib.hid hg
      have G5 := Lib.hid g5
      have q1 : ((g : Int) == 0) = false := by rw [beq_eq_false_iff_ne]; omega
      have q3 : ((a : Int) % g != 0) = false := by rw [g3]; rfl
      have q4 : ((b : Int) % g != 0) = false := by rw [g4]; rfl
      clear hg g5 g3 g4 hz
      by_cases ha : (a : Int) > 1099511627776
      · go_enter Try.func11, Try.ntmps11
        go_wp2_with fail
        refine (Gcd1.gcd_at a b a b g _ rfl rfl G.out (by omega) (by omega)).mono ?_
        rintro e w' ⟨rfl, m, rfl⟩
        go_wp2_with fail
        refine (Gcd1.gcd_rat a b a b g _ rfl rfl G.out (by omega) (by omega)).mono ?_
        rintro e w' ⟨rfl, m', rfl⟩
        go_wp2_with fail
        all_goals go_ret
        all_goals exact ⟨by simp, by repeat (first | exact Grown.refl _ | apply Grown.drew | apply Grown.alloc | apply Gcd1.grown_drewN)⟩
      · by_cases hb : (b : Int) > 1099511627776
        · go_enter Try.func11, Try.ntmps11
          go_wp2_with fail
          refine (Gcd1.gcd_at a b a b g _ rfl rfl G.out (by omega) (by omega)).mono ?_
          rintro e w' ⟨rfl, m, rfl⟩
          go_wp2_with fail
          refine (Gcd1.gcd_rat a b a b g _ rfl rfl G.out (by omega) (by omega)).mono ?_
          rintro e w' ⟨rfl, m', rfl⟩
          go_wp2_with fail
          all_goals go_ret
          all_goals exact ⟨by simp, by repeat (first | exact Grown.refl _ | apply Grown.drew | apply Grown.alloc | apply Gcd1.grown_drewN)⟩
        · obtain ⟨p1, p2⟩ := Gcd1.prod_u8 k b (by omega) (by omega)
          go_enter Try.func11, Try.ntmps11
          go_wp2_with fail
          refine (Gcd1.gcd_at a b a b g _ rfl rfl G.out (by omega) (by omega)).mono ?_
          rintro e w' ⟨rfl, m, rfl⟩
          go_wp2_with fail
          refine (Gcd1.gcd_rat a b a b g _ rfl rfl G.out (by omega) (by omega)).mono ?_
          rintro e w' ⟨rfl, m', rfl⟩
          go_wp2_with fail
          refine (Gcd1.gcd_at _ b (a + k * b) b g _ (by simp) rfl G5.out (by omega) (by omega)).mono ?_
          rintro e w' ⟨rfl, m'', rfl⟩
          go_wp2_with fail
          all_goals go_ret
          all_goals exact ⟨by simp, by repeat (first | exact Grown.refl _ | apply Grown.drew | apply Grown.alloc | apply Gcd1.grown_drewN)⟩
    · obtain rfl : a = 0 := by omega
      obtain rfl : b = 0 := by omega
      clear hz
      go_enter Try.func11, Try.ntmps11
      go_wp2_with fail
      refine (Gcd1.gcd_at _ _ 0 0 0 _ (by simp) (by simp) rfl (by simp) (by simp)).mono ?_
      rintro e w' ⟨rfl, m, rfl⟩
      go_wp2_with fail
      refine (Gcd1.gcd_rat _ _ 0 0 0 _ (by simp) (by simp) rfl (by simp) (by simp)).mono ?_
      rintro e w' ⟨rfl, m', rfl⟩
      go_wp2_with fail
      refine (Gcd1.gcd_at _ _ 0 0 0 _ (by simp) (by simp) rfl (by simp) (by simp)).mono ?_
      rintro e w' ⟨rfl, m'', rfl⟩
      go_wp2_with fail
      all_goals go_ret
      all_goals exact ⟨by simp, by repeat (first | exact Grown.refl _ | apply Grown.drew | apply Grown.alloc | apply Gcd1.grown_drewN)⟩

set_option maxRecDepth 100000 in
theorem lifted (os : Os) (started : os.Started) (H : Type) (enc : TypeId × Value → H) :
    ReturnsInHanded {} Try.checked os 11 .any (Rows.gcdDividesSpec.pre6 enc Try.prog Try.f11 Rows.gcdDividesRow.domain false) (Rows.gcdDividesSpec.post enc Try.prog Try.f11 false true false false) := by
  refine returnsInHanded_of_change (C := Try.checked) own started (by kernel_rfl) Try.func11
    (ChangeSpec.witness6 (enc := enc) (C := Try.checked) false ⟨#[], #[.int .i64 0, .int .i64 0, .int .u8 0], []⟩ 8 (by kernel_rfl) (by kernel_rfl) (by kernel_rfl) (by kernel_rfl)) ?_
  intro W base args ds gs before hval0 hW hcnd _
  have hval : ∀ (j : Nat) t v, Try.f11.params[j]? = some t → args[j]? = some v → Value.okWide Try.prog W .any base t v := hval0
  have hW' := hW
  obtain ⟨p, q, hA0, hV, rfl, hfz, hnd⟩ := hW
  have hA : DataW.TrodAll enc Try.prog W 0 (fun _ => true) true Try.f11.params.toList args.toList ds p := hA0
  rw [Try.params11] at hA hval
  obtain ⟨v0, vs0, d0, ds0, p0, q0, hargs, rfl, rfl, h0, r0⟩ := trodAll_cons hA
  obtain ⟨v1, vs1, d1, ds1, p1, q1, rfl, rfl, rfl, h1, r1⟩ := trodAll_cons r0
  obtain ⟨v2, vs2, d2, ds2, p2, q2, rfl, rfl, rfl, h2, r2⟩ := trodAll_cons r1
  obtain ⟨rfl, rfl, rfl⟩ := trodAll_nil r2
  obtain rfl : args = #[v0, v1, v2] := by cases args; simp_all
  obtain ⟨rfl, rfl⟩ := trodVars_none hV
  obtain ⟨a0, rfl, rfl, rfl, w0⟩ := open_int Try.underlying3 (hval 0 3 v0 rfl rfl) h0
  obtain ⟨a1, rfl, rfl, rfl, w1⟩ := open_int Try.underlying3 (hval 1 3 v1 rfl rfl) h1
  obtain ⟨a2, rfl, rfl, rfl, w2⟩ := open_int Try.underlying5 (hval 2 5 v2 rfl rfl) h2
  clear hA0 hval0
  simp only [List.append_nil] at hW'
  refine (walk a0 a1 a2 w0 w1 w2 W).mono fun e W' ⟨he, hg⟩ => ?_
  subst he
  exact ⟨_, rfl, post_of_same (pa := []) (pv := []) hW' (fun _ _ _ => (trodAll_cons_mk (shut_bool Try.underlying4 _) trodAll_mk0)) (fun sp _ => (trodAll_cons_mk (shut_int Try.underlying3 w0) (trodAll_cons_mk (shut_int Try.underlying3 w1) (trodAll_cons_mk (shut_int Try.underlying5 w2) trodAll_mk0)))) (fun _ _ => rfl) rfl
    (hg.frame _) hg.2.1 (ok_one (by kernel_rfl) rfl (okWide_bool_mk Try.underlying4 _))⟩

theorem over : Rows.gcdDividesRow.holds Try.pinned (OpenSpec.ofChange Rows.gcdDividesSpec) :=
  OpenClaim.holds_of_wide 11 Try.f11 rfl rfl rfl rfl rfl rfl rfl ⟨rfl, rfl, rfl, rfl, rfl⟩ rfl rfl rfl rfl rfl (by kernel_rfl) Try.func11 (by kernel_rfl)
    (of_decide_eq_true (by kernel_rfl)) (by unfold Func.isWrapper; first | (rw [if_pos (by decide +kernel)]; kernel_rfl) | (rw [if_neg (by decide +kernel)]; exact ⟨rfl, rfl⟩))
    (fun os started H enc _ => lifted os started H enc)

theorem proved : Rows.GcdDividesSaid :=
  over
#print axioms proved
end Go.Proofs.Ytppfkamojppjjaa.gcdDivides
