/-
  It is proved that railplanlaw2.ResidueKeepsArguments returns true and changes nothing. Conditions: none.
-/
import Derived.Test.YtapflikdoiedeaaFrame
import Derived.Test.YtapflikdoiedeaaHold
import Derived.Deep.RegionWith
import Derived.Deep.DeepCutAuto
import Derived.Deep.DeepMust
import Derived.ProofKit
import Derived.OpenShut
namespace Go.Proofs.Ytapflikdoiedeaa.residueKeepsArguments
open Go.ChangeShapes Go.WideShapes Go.ChangeAt Go.RowKit Plain Mem
set_option linter.unusedVariables false

/-- the two lists with their spare, behind the calls that laid them -/
def Two (wF : World) (na nb : Nat) (La Lb : List Sp) (a b : Value) (wx : World) : Prop :=
  ∃ ga gb : Nat, a = .slice (some ⟨ga, 0, none⟩) na (na + 3) ∧ b = .slice (some ⟨gb, 0, none⟩) nb (nb + 3) ∧ Spans wx wx.heap.size (some ⟨ga, 0, none⟩) (na + 3) (La ++ [(-1, -1), (-1, -1), (-1, -1)]) ∧
    Spans wx wx.heap.size (some ⟨gb, 0, none⟩) (nb + 3) (Lb ++ [(-1, -1), (-1, -1), (-1, -1)]) ∧ Below wF.heap.size wF wx

theorem own : ownKnob Try.prog.godebug = none := by kernel_rfl

set_option maxHeartbeats 6400000 in
set_option maxRecDepth 100000 in
theorem walk (a0 : Int) (w0 : (Lit.int .i64 a0).wf = true) (A1 : Option Addr) (n1 c1 : Nat) (hn1 : n1 ≤ c1) (hc1 : c1 ≤ 9223372036854775807) (A2 : Option Addr) (n2 c2 : Nat) (hn2 : n2 ≤ c2) (hc2 : c2 ≤ 9223372036854775807) (w : World) (hI1 : Source.Ints w w.heap.size A1 n1) (hI2 : Source.Ints w w.heap.size A2 n2) :
    Calls Try.prog 14 #[.int .i64 a0, .slice A1 n1 c1, .slice A2 n2 c2] w fun e w' => e = .returned (.bool true) ∧ Below w.heap.size w w' := by
  have b0 := bounds_i64 w0
  obtain ⟨i22, hi, hz0, hz1, hz2⟩ := info_parts Hold.info22
  go_enter Try.func14, Try.ntmps14
  have hbw : Below w.heap.size w w := Below.refl _ _
  go_wp2_with fail
  refine (Nums.period_any a0 _ (by omega) (by omega)).mono ?_
  rintro e w1 ⟨p, hp0, hp1, rfl, rfl⟩
  obtain ⟨k, rfl⟩ : ∃ k : Nat, p = k := ⟨p.toNat, by omega⟩
  go_wp2_with fail
  refine (Source.set_any k A1 n1 c1 _ (by omega) (by omega) hI1 (by omega)).mono ?_
  rintro e wa ⟨Aa, na, ca, La, rfl, hOa, hva, hb⟩
  replace hI2 := Uni.ints_more (hI2.below hb) hb.size
  replace hbw := hbw.trans (hb.mono hbw.size)
  clear hb hI1
  have HVa := Lib.hid hva
  clear hva
  go_wp2_with fail
  refine (Source.set_any k A2 n2 c2 _ (by omega) (by omega) hI2 (by omega)).mono ?_
  rintro e wb ⟨Ab, nb, cb, Lb, rfl, hOb, hvb, hb⟩
  have hOa2 := hOa.below hb (Nat.le_refl _)
  replace hbw := hbw.trans (hb.mono hbw.size)
  clear hb hI2 hOa
  have HVb := Lib.hid hvb
  clear hvb
  have hna : na ≤ 100000 := by
    have h1 := HVa.out
    simp only [Valid.vl, Bool.and_eq_true] at h1
    have h2 := vf_len La 0 k h1.2 (by omega)
    rw [hOa2.1] at h2
    omega
  have hnb : nb ≤ 100000 := by
    have h1 := HVb.out
    simp only [Valid.vl, Bool.and_eq_true] at h1
    have h2 := vf_len Lb 0 k h1.2 (by omega)
    rw [hOb.1] at h2
    omega
  -- the filler
  have hbF : Below wb.heap.size wb (wb.alloc (.cells #[.int .i64 (-1), .int .i64 (-1)] 29)) := (Below.refl _ _).alloc (Nat.le_refl _) _
  have hzF : wb.heap.size + 1 ≤ (wb.alloc (.cells #[.int .i64 (-1), .int .i64 (-1)] 29)).heap.size := by simp
  have q0 : (wb.alloc (.cells #[.int .i64 (-1), .int .i64 (-1)] 29)).cell? ⟨wb.heap.size, 0, none⟩ = some (.int .i64 (-1)) := by simp
  have q1 : (wb.alloc (.cells #[.int .i64 (-1), .int .i64 (-1)] 29)).cell? ⟨wb.heap.size, 1, none⟩ = some (.int .i64 (-1)) := by simp
  have hOaF := hOa2.below hbF (Nat.le_refl _)
  have hObF := hOb.below hbF (Nat.le_refl _)
  replace hbw := hbw.trans (hbF.mono hbw.size)
  clear hOa2 hOb hbF
  have HX : Hid (∀ wx : World, Below (wb.alloc (.cells #[.int .i64 (-1), .int .i64 (-1)] 29)).heap.size (wb.alloc (.cells #[.int .i64 (-1), .int .i64 (-1)] 29)) wx → Calls Try.prog 40 #[.slice Aa na ca, .agg #[.int .i64 (-1), .int .i64 (-1)]] wx (Spare.SparePost na La (-1, -1) wx)) :=
    fun wx hb => Spare.spare_any Aa na ca _ La (-1) (-1) wx (hOaF.below hb (Nat.le_refl _)) hna
  have HY : Hid (∀ wx : World, Below (wb.alloc (.cells #[.int .i64 (-1), .int .i64 (-1)] 29)).heap.size (wb.alloc (.cells #[.int .i64 (-1), .int .i64 (-1)] 29)) wx → Calls Try.prog 40 #[.slice Ab nb cb, .agg #[.int .i64 (-1), .int .i64 (-1)]] wx (Spare.SparePost nb Lb (-1, -1) wx)) :=
    fun wx hb => Spare.spare_any Ab nb cb _ Lb (-1) (-1) wx (hObF.below hb (Nat.le_refl _)) hnb
  have bF : Below wb.heap.size wb (wb.alloc (.cells #[.int .i64 (-1), .int .i64 (-1)] 29)) := (Below.refl _ _).alloc (Nat.le_refl _) _
  have hSx := hOaF.spans
  have hSy := hObF.spans
  clear hOaF hObF bF
  have hlF : wb.heap.size < (wb.alloc (.cells #[.int .i64 (-1), .int .i64 (-1)] 29)).heap.size := by omega
  go_upto_region 4 with fail
  go_cut [11, 12] (fun a b wx => Two (wb.alloc (.cells #[.int .i64 (-1), .int .i64 (-1)] 29)) na nb La Lb a b wx)
  case first =>
    have HQ : Hid (∀ wx : World, Below (wb.alloc (.cells #[.int .i64 (-1), .int .i64 (-1)] 29)).heap.size (wb.alloc (.cells #[.int .i64 (-1), .int .i64 (-1)] 29)) wx → wx.cell? ⟨wb.heap.size, 0, none⟩ = some (.int .i64 (-1)) ∧ wx.cell? ⟨wb.heap.size, 1, none⟩ = some (.int .i64 (-1))) := fun wx hb => ⟨(hb.cell (by simp)).trans q0, (hb.cell (by simp)).trans q1⟩
    go_region_with (first
      | (go_at_call_of 40 (Value.slice Aa na ca); refine (HX.out _ ?_).mono ?_; (first | exact Below.refl _ _ | exact (Below.refl _ _).drew | exact below_draws (Below.refl _ _) _); rintro e w5 ⟨g5, cap5, rfl, hO5, hb5⟩; obtain ⟨z0, z1⟩ := HQ.out w5 ((Below.refl _ _).drew.trans hb5))
      | (go_at_call_of 40 (Value.slice Ab nb cb); refine (HY.out _ ?_).mono ?_; (exact (Below.refl _ _).drew.trans hb5); rintro e w6 ⟨g6, cap6, rfl, hO6, hb6⟩))
    all_goals go_wp2_with fail
    · go_meet
      have hq := ((Below.refl (wb.alloc (.cells #[.int .i64 (-1), .int .i64 (-1)] 29)).heap.size (wb.alloc (.cells #[.int .i64 (-1), .int .i64 (-1)] 29))).drew.trans hb5)
      exact ⟨g5, g6, rfl, rfl, (hO5.spans.below hb6).more hb6.size, hO6.spans, hq.trans (hb6.mono hq.size)⟩
    · go_meet
      have hq := ((Below.refl (wb.alloc (.cells #[.int .i64 (-1), .int .i64 (-1)] 29)).heap.size (wb.alloc (.cells #[.int .i64 (-1), .int .i64 (-1)] 29))).drew.trans hb5)
      exact ⟨g5, g6, rfl, rfl, (hO5.spans.below hb6).more hb6.size, hO6.spans, hq.trans (hb6.mono hq.size)⟩
    · go_meet
      have hq := ((Below.refl (wb.alloc (.cells #[.int .i64 (-1), .int .i64 (-1)] 29)).heap.size (wb.alloc (.cells #[.int .i64 (-1), .int .i64 (-1)] 29))).drew.trans hb5)
      exact ⟨g5, g6, rfl, rfl, (hO5.spans.below hb6).more hb6.size, hO6.spans, hq.trans (hb6.mono hq.size)⟩
  case rest =>
    obtain ⟨ga, gb, rfl, rfl, hSA, hSB, hbT⟩ := hcut
    replace hSx := (hSx.below hbT).more hbT.size
    replace hSy := (hSy.below hbT).more hbT.size
    replace q0 := (hbT.cell (p := ⟨wb.heap.size, 0, none⟩) hlF).trans q0
    replace q1 := (hbT.cell (p := ⟨wb.heap.size, 1, none⟩) hlF).trans q1
    have hlT : wb.heap.size < wc.heap.size := Nat.lt_of_lt_of_le hlF hbT.size
    replace hbw := hbw.trans (hbT.mono hbw.size)
    have hlz : w.heap.size ≤ wc.heap.size := hbw.size
    clear hbT hlF HX HY hzF
    have HSA := Lib.hid hSA
    have HSB := Lib.hid hSB
    have HSx := Lib.hid hSx
    have HSy := Lib.hid hSy
    have HQ0 := Lib.hid q0
    have HQ1 := Lib.hid q1
    clear hSA hSB hSx hSy q0 q1
    have HFA : Hid (∀ wx : World, Below wc.heap.size wc wx → Spans wx wx.heap.size (some ⟨ga, 0, none⟩) na La) := fun wx hb => Spare.spans_front ((HSA.out.below hb).more hb.size) HSx.out.1
    have HFB : Hid (∀ wx : World, Below wc.heap.size wc wx → Spans wx wx.heap.size (some ⟨gb, 0, none⟩) nb Lb) := fun wx hb => Spare.spans_front ((HSB.out.below hb).more hb.size) HSy.out.1
    have E2 : Hid (Errs.er (k : Int) [La, Lb] = 0) := (Errs.er_two _ _ _).2 ⟨HVa.out, HVb.out⟩
    have E1 : Hid (Errs.er (k : Int) [La] = 0) := (Errs.er_one _ _).2 HVa.out
    go_wp2_with fail
    go_loopw [13, 14] (fun u i wr => ∃ (j : Int) (m : Nat) (Al : Option Addr) (cl : Nat) (Vs : List Value), 0 ≤ j ∧ j ≤ 5 ∧ i = .int .i64 j ∧ Hid ((m : Int) = j) ∧ u = .slice Al m cl ∧ Hold.Holds wc.heap.size wc wr Al m cl Vs) (fun _ i _ => (5 - intOf i).toNat)
    case atStart => exact ⟨0, 0, none, 0, [], by omega, by omega, rfl, rfl, rfl, Hold.Holds.nil (Below.refl _ _) (Nat.le_refl _)⟩
    case round =>
      obtain ⟨j, m, Al, cl, Vs, hj0, hj5, rfl, hm, rfl, hH⟩ := hrel
      have HH := Lib.hid hH
      clear hH
      have hcase : j = 0 ∨ j = 1 ∨ j = 2 ∨ j = 3 ∨ j = 4 ∨ j = 5 := by omega
      rcases hcase with rfl | rfl | rfl | rfl | rfl | rfl
      · skip
        have hSa := HFA.out _ HH.out.below
        have hSb := HFB.out _ HH.out.below
        have hm6 : m ≤ 5 := by have := hm.out; omega
        go_wp2_with fail
        refine (Uni.union_x k (some ⟨ga, 0, none⟩) na (na + 3) La (some ⟨gb, 0, none⟩) nb (nb + 3) Lb _ 0 E2.out (by omega) (by omega) hSa (by omega) (by omega) hSb (by omega) (by omega)).mono ?_
        rintro e wu ⟨Ar, nr, cr, Lr, rfl, hOr, hnr, hcr, _, hb⟩
        have HH2 := Lib.hid (HH.out.later hb)
        have hsh := Hold.shape_own (hOr.base_ HH.out.size)
        have HSh := Lib.hid hsh
        have hzu := HH2.out.size
        have hrow := HH2.out.row
        clear hb hOr hsh hSa hSb
        go_wp2_with (at_builtin; go_must (refine wpList_append_own _ rfl (.tmp 79) (.tmp 81) 52 rfl wc.heap.size 22 i22 _ 1 24 Try.underlying52 hi hz0 hz1 hz2 rfl (by omega) (.slice Al m cl) m Vs rfl (hrow.alloc _) ⟨wu.heap.size, 0, none⟩ 1 1 [.slice Ar nr cr] rfl rfl ?c10 ?c20 (by unfold maxLen; omega) (by omega) (by simp; omega) ?_))
        case c10 =>
          intro j u hu
          match j, hu with
          | 0, hu => simp at hu; subst hu; simp [Addr.add]
        case c20 => intro u hu; rw [List.mem_singleton.1 hu]; rfl
        intro v w5 hown' hgrow _
        obtain ⟨A', c', rfl, hH'⟩ := HH2.out.push HSh.out hown' hgrow
        clear hown' hgrow hrow
        go_wp2
        go_roundw
        case rel => exact ⟨1, m + 1, A', c', _, by omega, by omega, by go_num, by have := hm.out; rw [Hid]; omega, rfl, hH'⟩
        case measure => simp [intOf]
      · skip
        have hSa := HFA.out _ HH.out.below
        have hSb := HFB.out _ HH.out.below
        have hm6 : m ≤ 5 := by have := hm.out; omega
        go_wp2_with fail
        refine (Uni.inter_x k (some ⟨ga, 0, none⟩) na (na + 3) La (some ⟨gb, 0, none⟩) nb (nb + 3) Lb _ 0 E2.out (by omega) (by omega) hSa (by omega) (by omega) hSb (by omega) (by omega)).mono ?_
        rintro e wu ⟨Ar, nr, cr, Lr, rfl, hOr, hnr, hcr, _, hb⟩
        have HH2 := Lib.hid (HH.out.later hb)
        have hsh := Hold.shape_own (hOr.base_ HH.out.size)
        have HSh := Lib.hid hsh
        have hzu := HH2.out.size
        have hrow := HH2.out.row
        clear hb hOr hsh hSa hSb
        go_wp2_with (at_builtin; go_must (refine wpList_append_own _ rfl (.tmp 79) (.tmp 81) 52 rfl wc.heap.size 22 i22 _ 1 24 Try.underlying52 hi hz0 hz1 hz2 rfl (by omega) (.slice Al m cl) m Vs rfl (hrow.alloc _) ⟨wu.heap.size, 0, none⟩ 1 1 [.slice Ar nr cr] rfl rfl ?c11 ?c21 (by unfold maxLen; omega) (by omega) (by simp; omega) ?_))
        case c11 =>
          intro j u hu
          match j, hu with
          | 0, hu => simp at hu; subst hu; simp [Addr.add]
        case c21 => intro u hu; rw [List.mem_singleton.1 hu]; rfl
        intro v w5 hown' hgrow _
        obtain ⟨A', c', rfl, hH'⟩ := HH2.out.push HSh.out hown' hgrow
        clear hown' hgrow hrow
        go_wp2
        go_roundw
        case rel => exact ⟨2, m + 1, A', c', _, by omega, by omega, by go_num, by have := hm.out; rw [Hid]; omega, rfl, hH'⟩
        case measure => simp [intOf]
      · skip
        have hSa := HFA.out _ HH.out.below
        have hSb := HFB.out _ HH.out.below
        have hm6 : m ≤ 5 := by have := hm.out; omega
        go_wp2_with fail
        refine (Uni.compl_x k (some ⟨ga, 0, none⟩) na (na + 3) La _ 0 E1.out (by omega) (by omega) hSa (by omega) (by omega)).mono ?_
        rintro e wu ⟨Ar, nr, cr, Lr, rfl, hOr, hnr, hcr, _, hb⟩
        have HH2 := Lib.hid (HH.out.later hb)
        have hsh := Hold.shape_own (hOr.base_ HH.out.size)
        have HSh := Lib.hid hsh
        have hzu := HH2.out.size
        have hrow := HH2.out.row
        clear hb hOr hsh hSa hSb
        go_wp2_with (at_builtin; go_must (refine wpList_append_own _ rfl (.tmp 79) (.tmp 81) 52 rfl wc.heap.size 22 i22 _ 1 24 Try.underlying52 hi hz0 hz1 hz2 rfl (by omega) (.slice Al m cl) m Vs rfl (hrow.alloc _) ⟨wu.heap.size, 0, none⟩ 1 1 [.slice Ar nr cr] rfl rfl ?c12 ?c22 (by unfold maxLen; omega) (by omega) (by simp; omega) ?_))
        case c12 =>
          intro j u hu
          match j, hu with
          | 0, hu => simp at hu; subst hu; simp [Addr.add]
        case c22 => intro u hu; rw [List.mem_singleton.1 hu]; rfl
        intro v w5 hown' hgrow _
        obtain ⟨A', c', rfl, hH'⟩ := HH2.out.push HSh.out hown' hgrow
        clear hown' hgrow hrow
        go_wp2
        go_roundw
        case rel => exact ⟨3, m + 1, A', c', _, by omega, by omega, by go_num, by have := hm.out; rw [Hid]; omega, rfl, hH'⟩
        case measure => simp [intOf]
      · skip
        have hSa := HFA.out _ HH.out.below
        have hSb := HFB.out _ HH.out.below
        have hm6 : m ≤ 5 := by have := hm.out; omega
        go_wp2_with fail
        refine (Uni.shift_x k (some ⟨ga, 0, none⟩) na (na + 3) La 0 _ 0 E1.out (by omega) (by omega) (by omega) (by omega) hSa (by omega) (by omega)).mono ?_
        rintro e wu ⟨Ar, nr, cr, Lr, rfl, hOr, hnr, hcr, _, hb⟩
        have HH2 := Lib.hid (HH.out.later hb)
        have hsh := Hold.shape_own (hOr.base_ HH.out.size)
        have HSh := Lib.hid hsh
        have hzu := HH2.out.size
        have hrow := HH2.out.row
        clear hb hOr hsh hSa hSb
        go_wp2_with (at_builtin; go_must (refine wpList_append_own _ rfl (.tmp 79) (.tmp 81) 52 rfl wc.heap.size 22 i22 _ 1 24 Try.underlying52 hi hz0 hz1 hz2 rfl (by omega) (.slice Al m cl) m Vs rfl (hrow.alloc _) ⟨wu.heap.size, 0, none⟩ 1 1 [.slice Ar nr cr] rfl rfl ?c13 ?c23 (by unfold maxLen; omega) (by omega) (by simp; omega) ?_))
        case c13 =>
          intro j u hu
          match j, hu with
          | 0, hu => simp at hu; subst hu; simp [Addr.add]
        case c23 => intro u hu; rw [List.mem_singleton.1 hu]; rfl
        intro v w5 hown' hgrow _
        obtain ⟨A', c', rfl, hH'⟩ := HH2.out.push HSh.out hown' hgrow
        clear hown' hgrow hrow
        go_wp2
        go_roundw
        case rel => exact ⟨4, m + 1, A', c', _, by omega, by omega, by go_num, by have := hm.out; rw [Hid]; omega, rfl, hH'⟩
        case measure => simp [intOf]
      · skip
        have hSa := HFA.out _ HH.out.below
        have hSb := HFB.out _ HH.out.below
        have hm6 : m ≤ 5 := by have := hm.out; omega
        go_wp2_with fail
        refine (Uni.sum_x k (some ⟨ga, 0, none⟩) na (na + 3) La (some ⟨gb, 0, none⟩) nb (nb + 3) Lb _ 0 E2.out (by omega) (by omega) hSa (by omega) (by omega) hSb (by omega) (by omega)).mono ?_
        rintro e wu ⟨Ar, nr, cr, Lr, rfl, hOr, hnr, hcr, _, hb⟩
        have HH2 := Lib.hid (HH.out.later hb)
        have hsh := Hold.shape_own (hOr.base_ HH.out.size)
        have HSh := Lib.hid hsh
        have hzu := HH2.out.size
        have hrow := HH2.out.row
        clear hb hOr hsh hSa hSb
        go_wp2_with (at_builtin; go_must (refine wpList_append_own _ rfl (.tmp 79) (.tmp 81) 52 rfl wc.heap.size 22 i22 _ 1 24 Try.underlying52 hi hz0 hz1 hz2 rfl (by omega) (.slice Al m cl) m Vs rfl (hrow.alloc _) ⟨wu.heap.size, 0, none⟩ 1 1 [.slice Ar nr cr] rfl rfl ?c14 ?c24 (by unfold maxLen; omega) (by omega) (by simp; omega) ?_))
        case c14 =>
          intro j u hu
          match j, hu with
          | 0, hu => simp at hu; subst hu; simp [Addr.add]
        case c24 => intro u hu; rw [List.mem_singleton.1 hu]; rfl
        intro v w5 hown' hgrow _
        obtain ⟨A', c', rfl, hH'⟩ := HH2.out.push HSh.out hown' hgrow
        clear hown' hgrow hrow
        go_wp2
        go_roundw
        case rel => exact ⟨5, m + 1, A', c', _, by omega, by omega, by go_num, by have := hm.out; rw [Hid]; omega, rfl, hH'⟩
        case measure => simp [intOf]
      · have hm6 : m ≤ 5 := by have := hm.out; omega
        go_wp2_with fail
        go_loopw [85] (fun i wr => ∃ q : Nat, q ≤ m ∧ i = .int .i64 q ∧ Hold.Holds wc.heap.size wc wr Al m cl Vs) (fun i _ => m - (intOf i).toNat)
        case atStart => exact ⟨0, Nat.zero_le _, rfl, HH.out⟩
        case round =>
          clear HH
          obtain ⟨q, hq, rfl, hH⟩ := hrel
          obtain ⟨wo, rfl⟩ : ∃ wo : World, wo = wr := ⟨_, rfl⟩
          have HH := Lib.hid hH
          clear hH
          by_cases hlt : q < m
          · obtain ⟨h, v, rfl, hv, hc, hsh⟩ := HH.out.part hlt
            have HVq := Lib.hid hv
            clear hv
            rcases hsh with rfl | ⟨g, n, cap, cur, rfl, hgB, hgc, hnc, hcap, hcur⟩
            · go_wp2
              go_loopw [93] (fun x wr => x = .int .i64 0 ∧ wr = wo) (fun _ _ => 0)
              case atStart => exact ⟨rfl, rfl⟩
              case round =>
                obtain ⟨rfl, rfl⟩ := hrel
                go_wp2
                go_roundw
                case rel => exact ⟨q + 1, by omega, by go_num, HH.out⟩
                case measure => simp [intOf]; omega
            · clear hgc hcur
              go_wp2
              go_loopw [93] (fun x wr => ∃ r : Nat, r ≤ n ∧ x = .int .i64 r ∧ Hold.Holds wc.heap.size wc wr (some ⟨h, 0, none⟩) m cl Vs) (fun x _ => n - (intOf x).toNat)
              case atStart => exact ⟨0, Nat.zero_le _, rfl, HH.out⟩
              case round =>
                clear HH hc
                obtain ⟨r, hr, rfl, hH⟩ := hrel
                obtain ⟨h', v', eh, hv', hc, hsh⟩ := hH.part hlt
                have e1 : v' = .slice (some ⟨g, 0, none⟩) n cap := by rw [HVq.out] at hv'; injection hv' with hv'; exact hv'.symm
                have e2 : h = h' := by injection eh with eh; injection eh
                subst e1
                subst e2
                have HH := Lib.hid hH
                clear hH eh hv'
                by_cases hrn : r < n
                · rcases hsh with hsh | ⟨g2, n2, cap2, cur, e, hgB2, hgc, hnc2, hcap2, hcur⟩
                  · cases hsh
                  · have e1 : g2 = g := by injection e with e _ _; injection e with e; injection e with e; exact e.symm
                    have e3 : cap2 = cap := by injection e with _ _ e; exact e.symm
                    subst e1
                    subst e3
                    clear e
                    have k0 : wr.cell? ⟨g2, r * 2, none⟩ = some (cur[r * 2]'(by omega)) := by rw [cell_of_row wr g2 (r * 2) cur 29 (0, 0) hgc]; exact Array.getElem?_eq_getElem (by omega)
                    have k1 : wr.cell? ⟨g2, r * 2 + 1, none⟩ = some (cur[r * 2 + 1]'(by omega)) := by rw [cell_of_row wr g2 (r * 2 + 1) cur 29 (0, 0) hgc]; exact Array.getElem?_eq_getElem (by omega)
                    have f0 := frozen_of_row wr g2 (r * 2) cur 29 hgc
                    have f1 := frozen_of_row wr g2 (r * 2 + 1) cur 29 hgc
                    generalize cur[r * 2]'(by omega) = u0 at *
                    generalize cur[r * 2 + 1]'(by omega) = u1 at *
                    have HG := Lib.hid hgc
                    clear hgc hcur
                    go_wp2
                    go_roundw
                    case rel => exact ⟨r + 1, by omega, by go_num, (HH.out.set HG.out hgB2 _).set (heap_setCell_same wr g2 (r * 2) cur 29 _ HG.out) hgB2 _⟩
                    case measure => simp [intOf]; omega
                · clear hsh
                  go_wp2
                  go_roundw
                  case rel => exact ⟨q + 1, by omega, by go_num, HH.out⟩
                  case measure => simp [intOf]; omega
          · have hcl : Below wc.heap.size wc wo := HH.out.below
            have hSA := (HSA.out.below hcl).more hcl.size
            have hSB := (HSB.out.below hcl).more hcl.size
            have hSx := (HSx.out.below hcl).more hcl.size
            have hSy := (HSy.out.below hcl).more hcl.size
            have q0 := (hcl.cell (p := ⟨wb.heap.size, 0, none⟩) hlT).trans HQ0.out
            have q1 := (hcl.cell (p := ⟨wb.heap.size, 1, none⟩) hlT).trans HQ1.out
            have hbo := hbw.trans (hcl.mono hlz)
            have hlo : wb.heap.size < wo.heap.size := Nat.lt_of_lt_of_le hlT hcl.size
            clear hcl HH
            go_wp2_with fail
            refine (Uni.awake_any _).mono ?_
            rintro e w1 ⟨rfl, hb⟩
            replace hSA := (hSA.below hb).more hb.size
            replace hSB := (hSB.below hb).more hb.size
            replace hSx := (hSx.below hb).more hb.size
            replace hSy := (hSy.below hb).more hb.size
            replace q0 := (hb.cell (p := ⟨wb.heap.size, 0, none⟩) hlo).trans q0
            replace q1 := (hb.cell (p := ⟨wb.heap.size, 1, none⟩) hlo).trans q1
            replace hbo := hbo.trans (hb.mono hbo.size)
            replace hlo := Nat.lt_of_lt_of_le hlo hb.size
            clear hb
            go_wp2_with fail
            refine (Spare.kept_any ga na ca Aa La (-1) (-1) _ hna hSA hSx).mono ?_
            rintro e w1 ⟨rfl, hb⟩
            replace hSB := (hSB.below hb).more hb.size
            replace hSy := (hSy.below hb).more hb.size
            replace q0 := (hb.cell (p := ⟨wb.heap.size, 0, none⟩) hlo).trans q0
            replace q1 := (hb.cell (p := ⟨wb.heap.size, 1, none⟩) hlo).trans q1
            replace hbo := hbo.trans (hb.mono hbo.size)
            clear hb hSA hSx
            go_wp2_with fail
            refine (Spare.kept_any gb nb cb Ab Lb (-1) (-1) _ hnb hSB hSy).mono ?_
            rintro e w1 ⟨rfl, hb⟩
            replace hbo := hbo.trans (hb.mono hbo.size)
            clear hb hSB hSy
            go_wp2_with fail
            go_ret
            exact ⟨rfl, hbo⟩

theorem readable : ∀ t ∈ Try.f14.params.toList, Try.prog.readableRec t = true ∧ t < Try.prog.types.size := by
  rw [Try.params14]
  exact Frame.rrs _ rfl

set_option maxRecDepth 100000 in
theorem lifted (os : Os) (started : os.Started) (H : Type) (enc : TypeId × Value → H) :
    ReturnsInHanded {} Try.checked os 14 .any (Rows.residueKeepsArgumentsSpec.pre6 enc Try.prog Try.f14 Rows.residueKeepsArgumentsRow.domain false) (Rows.residueKeepsArgumentsSpec.post enc Try.prog Try.f14 false true false false) := by
  refine returnsInHanded_of_change (C := Try.checked) own started (by kernel_rfl) Try.func14
    (ChangeSpec.witness6 (enc := enc) (C := Try.checked) false ⟨#[], #[.int .i64 0, .slice none 0 0, .slice none 0 0], []⟩ 8 (by kernel_rfl) (by kernel_rfl) (by kernel_rfl) (by kernel_rfl)) ?_
  intro W base args ds gs before hval0 hW hcnd _
  have hval : ∀ (j : Nat) t v, Try.f14.params[j]? = some t → args[j]? = some v → Value.okWide Try.prog W .any base t v := hval0
  have hW' := hW
  obtain ⟨p, q, hA0, hV, rfl, hfz, hnd⟩ := hW
  have hA : DataW.TrodAll enc Try.prog W 0 (fun _ => true) true Try.f14.params.toList args.toList ds p := hA0
  rw [Try.params14] at hA hval
  obtain ⟨v0, vs0, d0, ds0, p0, q0, hargs, rfl, rfl, h0, r0⟩ := trodAll_cons hA
  obtain ⟨v1, vs1, d1, ds1, p1, q1, rfl, rfl, rfl, h1, r1⟩ := trodAll_cons r0
  obtain ⟨v2, vs2, d2, ds2, p2, q2, rfl, rfl, rfl, h2, r2⟩ := trodAll_cons r1
  obtain ⟨rfl, rfl, rfl⟩ := trodAll_nil r2
  obtain rfl : args = #[v0, v1, v2] := by cases args; simp_all
  obtain ⟨rfl, rfl⟩ := trodVars_none hV
  obtain ⟨a0, rfl, _, _, w0⟩ := open_int Try.underlying3 (hval 0 3 v0 rfl rfl) h0
  obtain ⟨A1, n1, c1, rfl, hI1, hn1, hc1⟩ := Frame.arg_ints (hval 1 35 v1 rfl rfl) h1
  obtain ⟨A2, n2, c2, rfl, hI2, hn2, hc2⟩ := Frame.arg_ints (hval 2 35 v2 rfl rfl) h2
  clear hA0 hval0
  refine (walk a0 w0 A1 n1 c1 hn1 hc1 A2 n2 c2 hn2 hc2 W hI1 hI2).mono fun e W' ⟨he, hg⟩ => ?_
  subst he
  exact ⟨_, rfl, Frame.post_law (t4 := 4) Frame.laid readable Try.underlying4 rfl rfl rfl rfl rfl rfl hW' hg⟩

theorem over : Rows.residueKeepsArgumentsRow.holds Try.pinned (OpenSpec.ofChange Rows.residueKeepsArgumentsSpec) :=
  OpenClaim.holds_of_wide 14 Try.f14 rfl rfl rfl rfl rfl rfl rfl ⟨rfl, rfl, rfl, rfl, rfl⟩ rfl rfl rfl rfl rfl (by kernel_rfl) Try.func14 (by kernel_rfl)
    (of_decide_eq_true (by kernel_rfl)) (by unfold Func.isWrapper; first | (rw [if_pos (by decide +kernel)]; kernel_rfl) | (rw [if_neg (by decide +kernel)]; exact ⟨rfl, rfl⟩))
    (fun os started H enc _ => lifted os started H enc)

theorem proved : Rows.ResidueKeepsArgumentsSaid :=
  over
#print axioms proved
end Go.Proofs.Ytapflikdoiedeaa.residueKeepsArguments
