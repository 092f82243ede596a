/-
  The walk of the statement that a step's hops differ.
-/
import Derived.Test.YtdcbaedhgoipjaaMaker
import Derived.Test.YtdcbaedhgoipjaaStepK
import Derived.Deep.RegionHeld3
namespace Go.Proofs.Ytdcbaedhgoipjaa.HDiff
open Go.ChangeShapes Go.WideShapes Go.ChangeAt Go.RowKit Wd Small Mem Lay LayT LayG Recs Dec PNames PSecs PEnds PCheck PStep RNames Src PHops Awake Maker StepK
set_option linter.unusedVariables false

/-- a step of a valid layout has at most two hops -/
theorem hops_few {L : Lay} (h : check L = 0) (s : Lay.Step) : (hopsOf L s).length ≤ 2 := by
  unfold hopsOf
  split
  · exact hops_two (good_links L h) s
  · simp

/-- the two hops of a step of a valid layout -/
theorem differ_of {L : Lay} (h : check L = 0) {s : Lay.Step} {h0 h1 : Hop} (hl : hopsOf L s = [h0, h1]) : h0.to ≠ h1.to ∧ h0.pt = h1.pt ∧ 0 ≤ h0.pt ∧ h0.ps ≠ h1.ps := by
  unfold hopsOf at hl
  split at hl
  · exact hops_differ (good_links L h) s h0 h1 [] hl
  · cases hl
/-- the cells of two hops, wherever nothing old has changed -/
theorem hop_cells {w : World} {base g c : Nat} {a b : Hop} (h : Own hopR w base (.slice (some ⟨g, 0, none⟩) 2 c) 2 [a, b]) : ∀ w', Below w.heap.size w w' →
    w'.cell? ⟨g, 0, none⟩ = some (.int .i64 a.to.1) ∧ w'.cell? ⟨g, 1, none⟩ = some (.int .i64 a.to.2) ∧ w'.cell? ⟨g, 2, none⟩ = some (.int .i64 a.pt) ∧ w'.cell? ⟨g, 3, none⟩ = some (.int .i64 a.ps) ∧
    w'.cell? ⟨g, 4, none⟩ = some (.int .i64 b.to.1) ∧ w'.cell? ⟨g, 5, none⟩ = some (.int .i64 b.to.2) ∧ w'.cell? ⟨g, 6, none⟩ = some (.int .i64 b.pt) ∧ w'.cell? ⟨g, 7, none⟩ = some (.int .i64 b.ps) := by
  intro w' hb
  have hg : ∀ j u, (hopR.cs [a, b])[j]? = some u → w'.cell? ⟨g, j, none⟩ = some u := fun j u hu => by
    obtain ⟨ad, e, hlt, hc⟩ := h.rd.2 j u hu
    cases e
    have := (hb.cell (p := (⟨g, 0, none⟩ : Addr).add j) (by rw [Mem.block_add]; exact hlt)).trans hc
    rw [show (⟨g, 0, none⟩ : Addr).add j = ⟨g, j, none⟩ by unfold Addr.add; split <;> simp_all] at this
    exact this
  have e : hopR.cs [a, b] = [.int .i64 a.to.1, .int .i64 a.to.2, .int .i64 a.pt, .int .i64 a.ps, .int .i64 b.to.1, .int .i64 b.to.2, .int .i64 b.pt, .int .i64 b.ps] := rfl
  rw [e] at hg
  exact ⟨hg 0 _ rfl, hg 1 _ rfl, hg 2 _ rfl, hg 3 _ rfl, hg 4 _ rfl, hg 5 _ rfl, hg 6 _ rfl, hg 7 _ rfl⟩
theorem run_neq_step {a b c d : Int} (w : World) (h : ¬ (a = c ∧ b = d)) : (binOp .neq 34 (.agg #[.int .i64 a, .int .i64 b]) (.agg #[.int .i64 c, .int .i64 d])).run Try.prog w = .ok (.bool true) w := by
  cases h1 : (a == c) <;> cases h2 : (b == d)
  all_goals simp at h1 h2
  all_goals first | (exfalso; exact h ⟨by assumption, by assumption⟩) | simp [go_sem, run_equalIn_struct, Program.fieldsOf, Try.underlying34, h1, h2]

set_option maxRecDepth 100000 in
set_option maxHeartbeats 4000000 in
set_option pp.deepTerms true in
set_option pp.maxSteps 1000000 in
theorem differ (A0 : Option Addr) (n0 c0 : Nat) (hn0 : n0 ≤ c0) (hc0 : c0 ≤ 9223372036854775807) (a1 : Int) (w1 : (Lit.int .i64 a1).wf = true) (w : World) (hI : Ints w w.heap.size A0 n0) : Calls Try.prog 6 #[.slice A0 n0 c0, .int .i64 a1] w (Yes w) := by
  obtain ⟨b11, b12⟩ := bounds_i64 w1
  go_enter Try.func6, Try.ntmps6
  go_wp2_with fail
  refine (layout_any A0 n0 c0 w hI (by omega)).mono ?_
  rintro e wl ⟨v, L, rfl, hR, hv, hbl⟩
  have hst3 : v.n3 ≤ 100000 := by
    have := hR.sec.1
    unfold check at hv
    split at hv
    · cases hv
    · omega
  obtain ⟨W, hW, HZ, HB0, HBX⟩ := boxed v wl
  have HC := Lib.hid HBX
  have HBl := Lib.hid (hbl.trans (HB0.mono hbl.size))
  have hgW : wl.heap.size < W.heap.size := by rw [HZ.out]; omega
  have hwl := hbl.size
  have hRW := hR.grow HB0 HB0.size
  have HRW : Hid (∀ wx, Below W.heap.size W wx → RdL wx wx.heap.size v L) := fun wx hb => hRW.grow hb hb.size
  have HK : Hid (∀ wr, Below W.heap.size W wr → _) := fun wr hb => box_kept hb hgW HC.out
  have HV := Lib.hid hv
  have HW := Lib.hid hW
  clear hR hRW hbl HBX HB0 hv hW
  obtain ⟨A1, n1, c1, A2, n2, c2, A3, n3, c3, A4, n4, c4⟩ := v
  simp only [LV.val] at *
  go_upto_region 2 with fail
  rw [HW.out]
  clear HW
  have hb0 := Below.refl W.heap.size W
  clear hgW
  go_region_held3 (fun w' => w'.cell? ⟨wl.heap.size, 0, none⟩ = some (.slice A1 n1 c1) ∧ w'.cell? ⟨wl.heap.size, 1, none⟩ = some (.slice A2 n2 c2) ∧ w'.cell? ⟨wl.heap.size, 2, none⟩ = some (.slice A3 n3 c3) ∧ w'.cell? ⟨wl.heap.size, 3, none⟩ = some (.slice A4 n4 c4))
    (first | exact HK.out _ hb0.drew | exact HK.out _ (hb0.drew.trans hbq1) | exact HK.out _ ((hb0.drew.trans hbq1).trans hbh1))
    ((first | (go_at_call 19; refine (step_any ⟨A1, n1, c1, A2, n2, c2, A3, n3, c3, A4, n4, c4⟩ a1 _ b11 b12 hst3).mono ?_; rintro e wq ⟨x, y, rfl, hbq⟩; have hbq1 : Below W.heap.size W.drew wq := hbq) | (go_at_call 11; refine (p_hops ⟨A1, n1, c1, A2, n2, c2, A3, n3, c3, A4, n4, c4⟩ L (x, y) _ (HRW.out _ (hb0.drew.trans hbq1))).mono ?_; rintro e wh ⟨Ah, nh, ch, rfl, hOh, hbh⟩; have hbh1 : Below W.heap.size wq wh := hbh.mono (hb0.drew.trans hbq1).size)))
  have hbh2 := (hb0.drew.trans hbq1).trans hbh1
  have HF := Lib.hid (hops_few HV.out (x, y))
  have hnh : nh = (hopsOf L (x, y)).length := hOh.1.symm
  have hn2 : nh ≤ 2 := by rw [hnh]; exact HF.out
  have HBh := Lib.hid (HBl.out.trans (hbh2.mono (by have := HZ.out; omega)))
  have hwh : w.heap.size ≤ wh.heap.size := HBh.out.size
  clear hbh2 hbh1 hbh hbq1 hbq hb0
  by_cases hlt : nh < 2
  · have hd : decide ((nh : Int) < 2) = true := by simp; omega
    have hd2 : (nh : Int) < 2 := by omega
    clear hOh hnh hn2 HF
    go_upto_region 3 with fail
    have hT : (fun _ : World => True) wh.drew := trivial
    refine wp_region_held_drew (S := fun _ => True) (by kernel_rfl) trivial (fun hHeld => ?_)
    refine wpAnyH_ready (rs := [0]) (by kernel_rfl) (by simp) ?_
    refine AllReadyH.cons rfl (fun K hK => ?_) AllReadyH.nil
    go_simp
    go_at_call 16
    refine (awake_any _).mono ?_
    rintro e wa ⟨rfl, hba⟩
    go_wp2_with fail
    refine hK.out _ _ trivial (fun hHeld2 => ?_)
    clear hK K hHeld
    (try dsimp only [Act.put, List.setIfInBounds_toArray, List.set_cons_zero, List.set_cons_succ])
    refine wpAnyH_take (i := 1) (v := ?v1) rfl (by kernel_rfl) (by kernel_rfl) (by kernel_rfl) (fun _ _ _ h => h) (Or.inl ⟨by kernel_rfl, ?h1⟩) (by assumption) ?_
    case h1 =>
      intro w hSw
      (try dsimp only at hSw)
      go_simp
      try with_reducible rfl
    (try dsimp only [Act.put, List.setIfInBounds_toArray, List.set_cons_zero, List.set_cons_succ])
    refine wpAnyH_take (i := 2) (v := ?v2) rfl (by kernel_rfl) (by kernel_rfl) (by kernel_rfl) (fun _ _ _ h => h) (Or.inl ⟨by kernel_rfl, ?h2⟩) (by assumption) ?_
    case h2 =>
      intro w hSw
      (try dsimp only at hSw)
      go_simp
      try with_reducible rfl
    (try dsimp only [Act.put, List.setIfInBounds_toArray, List.set_cons_zero, List.set_cons_succ])
    refine wpAnyH_take (i := 3) (v := ?v3) rfl (by kernel_rfl) (by kernel_rfl) (by kernel_rfl) (fun _ _ _ h => h) (Or.inl ⟨by kernel_rfl, ?h3⟩) (by assumption) ?_
    case h3 =>
      intro w hSw
      (try dsimp only at hSw)
      go_simp
      try with_reducible rfl
    (try dsimp only [Act.put, List.setIfInBounds_toArray, List.set_cons_zero, List.set_cons_succ])
    refine wpAnyH_take (i := 4) (v := ?v4) rfl (by kernel_rfl) (by kernel_rfl) (by kernel_rfl) (fun _ _ _ h => h) (Or.inl ⟨by kernel_rfl, ?h4⟩) (by assumption) ?_
    case h4 =>
      intro w hSw
      (try dsimp only at hSw)
      go_simp
      try with_reducible rfl
    (try dsimp only [Act.put, List.setIfInBounds_toArray, List.set_cons_zero, List.set_cons_succ])
    refine wpAnyH_take (i := 5) (v := ?v5) rfl (by kernel_rfl) (by kernel_rfl) (by kernel_rfl) (fun _ _ _ h => h) (Or.inl ⟨by kernel_rfl, ?h5⟩) (by assumption) ?_
    case h5 =>
      intro w hSw
      (try dsimp only at hSw)
      go_simp
      try with_reducible rfl
    (try dsimp only [Act.put, List.setIfInBounds_toArray, List.set_cons_zero, List.set_cons_succ])
    refine wpAnyH_take (i := 6) (v := undef) rfl (by kernel_rfl) (by kernel_rfl) (by kernel_rfl) (fun _ _ _ h => h) (Or.inr ⟨by kernel_rfl, rfl⟩) (by assumption) ?_
    (try dsimp only [Act.put, List.setIfInBounds_toArray, List.set_cons_zero, List.set_cons_succ])
    refine wpAnyH_take (i := 7) (v := undef) rfl (by kernel_rfl) (by kernel_rfl) (by kernel_rfl) (fun _ _ _ h => h) (Or.inr ⟨by kernel_rfl, rfl⟩) (by assumption) ?_
    (try dsimp only [Act.put, List.setIfInBounds_toArray, List.set_cons_zero, List.set_cons_succ])
    refine wpAnyH_take (i := 8) (v := undef) rfl (by kernel_rfl) (by kernel_rfl) (by kernel_rfl) (fun _ _ _ h => h) (Or.inr ⟨by kernel_rfl, rfl⟩) (by assumption) ?_
    (try dsimp only [Act.put, List.setIfInBounds_toArray, List.set_cons_zero, List.set_cons_succ])
    refine wpAnyH_take (i := 9) (v := undef) rfl (by kernel_rfl) (by kernel_rfl) (by kernel_rfl) (fun _ _ _ h => h) (Or.inr ⟨by kernel_rfl, rfl⟩) (by assumption) ?_
    (try dsimp only [Act.put, List.setIfInBounds_toArray, List.set_cons_zero, List.set_cons_succ])
    refine wpAnyH_take (i := 10) (v := undef) rfl (by kernel_rfl) (by kernel_rfl) (by kernel_rfl) (fun _ _ _ h => h) (Or.inr ⟨by kernel_rfl, rfl⟩) (by assumption) ?_
    (try dsimp only [Act.put, List.setIfInBounds_toArray, List.set_cons_zero, List.set_cons_succ])
    refine wpAnyH_take (i := 11) (v := undef) rfl (by kernel_rfl) (by kernel_rfl) (by kernel_rfl) (fun _ _ _ h => h) (Or.inr ⟨by kernel_rfl, rfl⟩) (by assumption) ?_
    (try dsimp only [Act.put, List.setIfInBounds_toArray, List.set_cons_zero, List.set_cons_succ])
    refine wpAnyH_take (i := 12) (v := undef) rfl (by kernel_rfl) (by kernel_rfl) (by kernel_rfl) (fun _ _ _ h => h) (Or.inr ⟨by kernel_rfl, rfl⟩) (by assumption) ?_
    (try dsimp only [Act.put, List.setIfInBounds_toArray, List.set_cons_zero, List.set_cons_succ])
    refine wpAnyH_take (i := 13) (v := undef) rfl (by kernel_rfl) (by kernel_rfl) (by kernel_rfl) (fun _ _ _ h => h) (Or.inr ⟨by kernel_rfl, rfl⟩) (by assumption) ?_
    (try dsimp only [Act.put, List.setIfInBounds_toArray, List.set_cons_zero, List.set_cons_succ])
    refine wpAnyH_take (i := 14) (v := undef) rfl (by kernel_rfl) (by kernel_rfl) (by kernel_rfl) (fun _ _ _ h => h) (Or.inr ⟨by kernel_rfl, rfl⟩) (by assumption) ?_
    (try dsimp only [Act.put, List.setIfInBounds_toArray, List.set_cons_zero, List.set_cons_succ])
    refine wpAnyH_take (i := 15) (v := undef) rfl (by kernel_rfl) (by kernel_rfl) (by kernel_rfl) (fun _ _ _ h => h) (Or.inr ⟨by kernel_rfl, rfl⟩) (by assumption) ?_
    (try dsimp only [Act.put, List.setIfInBounds_toArray, List.set_cons_zero, List.set_cons_succ])
    refine wpAnyH_take (i := 16) (v := undef) rfl (by kernel_rfl) (by kernel_rfl) (by kernel_rfl) (fun _ _ _ h => h) (Or.inr ⟨by kernel_rfl, rfl⟩) (by assumption) ?_
    (try dsimp only [Act.put, List.setIfInBounds_toArray, List.set_cons_zero, List.set_cons_succ])
    refine wpAnyH_take (i := 17) (v := undef) rfl (by kernel_rfl) (by kernel_rfl) (by kernel_rfl) (fun _ _ _ h => h) (Or.inr ⟨by kernel_rfl, rfl⟩) (by assumption) ?_
    (try dsimp only [Act.put, List.setIfInBounds_toArray, List.set_cons_zero, List.set_cons_succ])
    refine wpAnyH_take (i := 18) (v := undef) rfl (by kernel_rfl) (by kernel_rfl) (by kernel_rfl) (fun _ _ _ h => h) (Or.inr ⟨by kernel_rfl, rfl⟩) (by assumption) ?_
    (try dsimp only [Act.put, List.setIfInBounds_toArray, List.set_cons_zero, List.set_cons_succ])
    refine wpAnyH_take (i := 19) (v := undef) rfl (by kernel_rfl) (by kernel_rfl) (by kernel_rfl) (fun _ _ _ h => h) (Or.inr ⟨by kernel_rfl, rfl⟩) (by assumption) ?_
    (try dsimp only [Act.put, List.setIfInBounds_toArray, List.set_cons_zero, List.set_cons_succ])
    refine wpAnyH_take (i := 20) (v := undef) rfl (by kernel_rfl) (by kernel_rfl) (by kernel_rfl) (fun _ _ _ h => h) (Or.inr ⟨by kernel_rfl, rfl⟩) (by assumption) ?_
    (try dsimp only [Act.put, List.setIfInBounds_toArray, List.set_cons_zero, List.set_cons_succ])
    refine wpAnyH_take (i := 21) (v := undef) rfl (by kernel_rfl) (by kernel_rfl) (by kernel_rfl) (fun _ _ _ h => h) (Or.inr ⟨by kernel_rfl, rfl⟩) (by assumption) ?_
    (try dsimp only [Act.put, List.setIfInBounds_toArray, List.set_cons_zero, List.set_cons_succ])
    refine wpAnyH_take (i := 22) (v := undef) rfl (by kernel_rfl) (by kernel_rfl) (by kernel_rfl) (fun _ _ _ h => h) (Or.inr ⟨by kernel_rfl, rfl⟩) (by assumption) ?_
    (try dsimp only [Act.put, List.setIfInBounds_toArray, List.set_cons_zero, List.set_cons_succ])
    refine wpAnyH_take (i := 23) (v := undef) rfl (by kernel_rfl) (by kernel_rfl) (by kernel_rfl) (fun _ _ _ h => h) (Or.inr ⟨by kernel_rfl, rfl⟩) (by assumption) ?_
    (try dsimp only [Act.put, List.setIfInBounds_toArray, List.set_cons_zero, List.set_cons_succ])
    refine wpAnyH_take (i := 24) (v := undef) rfl (by kernel_rfl) (by kernel_rfl) (by kernel_rfl) (fun _ _ _ h => h) (Or.inr ⟨by kernel_rfl, rfl⟩) (by assumption) ?_
    (try dsimp only [Act.put, List.setIfInBounds_toArray, List.set_cons_zero, List.set_cons_succ])
    refine wpAnyH_take (i := 25) (v := undef) rfl (by kernel_rfl) (by kernel_rfl) (by kernel_rfl) (fun _ _ _ h => h) (Or.inr ⟨by kernel_rfl, rfl⟩) (by assumption) ?_
    (try dsimp only [Act.put, List.setIfInBounds_toArray, List.set_cons_zero, List.set_cons_succ])
    refine wpAnyH_take (i := 26) (v := undef) rfl (by kernel_rfl) (by kernel_rfl) (by kernel_rfl) (fun _ _ _ h => h) (Or.inr ⟨by kernel_rfl, rfl⟩) (by assumption) ?_
    (try dsimp only [Act.put, List.setIfInBounds_toArray, List.set_cons_zero, List.set_cons_succ])
    refine wpAnyH_take (i := 27) (v := undef) rfl (by kernel_rfl) (by kernel_rfl) (by kernel_rfl) (fun _ _ _ h => h) (Or.inr ⟨by kernel_rfl, rfl⟩) (by assumption) ?_
    (try dsimp only [Act.put, List.setIfInBounds_toArray, List.set_cons_zero, List.set_cons_succ])
    refine wpAnyH_take (i := 28) (v := undef) rfl (by kernel_rfl) (by kernel_rfl) (by kernel_rfl) (fun _ _ _ h => h) (Or.inr ⟨by kernel_rfl, rfl⟩) (by assumption) ?_
    (try dsimp only [Act.put, List.setIfInBounds_toArray, List.set_cons_zero, List.set_cons_succ])
    refine wpAnyH_take (i := 29) (v := undef) rfl (by kernel_rfl) (by kernel_rfl) (by kernel_rfl) (fun _ _ _ h => h) (Or.inr ⟨by kernel_rfl, rfl⟩) (by assumption) ?_
    (try dsimp only [Act.put, List.setIfInBounds_toArray, List.set_cons_zero, List.set_cons_succ])
    refine wpAnyH_take (i := 30) (v := undef) rfl (by kernel_rfl) (by kernel_rfl) (by kernel_rfl) (fun _ _ _ h => h) (Or.inr ⟨by kernel_rfl, rfl⟩) (by assumption) ?_
    (try dsimp only [Act.put, List.setIfInBounds_toArray, List.set_cons_zero, List.set_cons_succ])
    refine wpAnyH_take (i := 31) (v := undef) rfl (by kernel_rfl) (by kernel_rfl) (by kernel_rfl) (fun _ _ _ h => h) (Or.inr ⟨by kernel_rfl, rfl⟩) (by assumption) ?_
    (try dsimp only [Act.put, List.setIfInBounds_toArray, List.set_cons_zero, List.set_cons_succ])
    refine wpAnyH_take (i := 32) (v := undef) rfl (by kernel_rfl) (by kernel_rfl) (by kernel_rfl) (fun _ _ _ h => h) (Or.inr ⟨by kernel_rfl, rfl⟩) (by assumption) ?_
    (try dsimp only [Act.put, List.setIfInBounds_toArray, List.set_cons_zero, List.set_cons_succ])
    refine wpAnyH_take (i := 33) (v := undef) rfl (by kernel_rfl) (by kernel_rfl) (by kernel_rfl) (fun _ _ _ h => h) (Or.inr ⟨by kernel_rfl, rfl⟩) (by assumption) ?_
    (try dsimp only [Act.put, List.setIfInBounds_toArray, List.set_cons_zero, List.set_cons_succ])
    refine wpAnyH_take (i := 34) (v := undef) rfl (by kernel_rfl) (by kernel_rfl) (by kernel_rfl) (fun _ _ _ h => h) (Or.inr ⟨by kernel_rfl, rfl⟩) (by assumption) ?_
    (try dsimp only [Act.put, List.setIfInBounds_toArray, List.set_cons_zero, List.set_cons_succ])
    refine wpAnyH_take (i := 35) (v := undef) rfl (by kernel_rfl) (by kernel_rfl) (by kernel_rfl) (fun _ _ _ h => h) (Or.inr ⟨by kernel_rfl, rfl⟩) (by assumption) ?_
    (try dsimp only [Act.put, List.setIfInBounds_toArray, List.set_cons_zero, List.set_cons_succ])
    refine wpAnyH_take (i := 36) (v := undef) rfl (by kernel_rfl) (by kernel_rfl) (by kernel_rfl) (fun _ _ _ h => h) (Or.inr ⟨by kernel_rfl, rfl⟩) (by assumption) ?_
    (try dsimp only [Act.put, List.setIfInBounds_toArray, List.set_cons_zero, List.set_cons_succ])
    refine wpAnyH_take (i := 37) (v := undef) rfl (by kernel_rfl) (by kernel_rfl) (by kernel_rfl) (fun _ _ _ h => h) (Or.inr ⟨by kernel_rfl, rfl⟩) (by assumption) ?_
    (try dsimp only [Act.put, List.setIfInBounds_toArray, List.set_cons_zero, List.set_cons_succ])
    refine wpAnyH_take (i := 38) (v := undef) rfl (by kernel_rfl) (by kernel_rfl) (by kernel_rfl) (fun _ _ _ h => h) (Or.inr ⟨by kernel_rfl, rfl⟩) (by assumption) ?_
    (try dsimp only [Act.put, List.setIfInBounds_toArray, List.set_cons_zero, List.set_cons_succ])
    refine wpAnyH_take (i := 39) (v := undef) rfl (by kernel_rfl) (by kernel_rfl) (by kernel_rfl) (fun _ _ _ h => h) (Or.inr ⟨by kernel_rfl, rfl⟩) (by assumption) ?_
    (try dsimp only [Act.put, List.setIfInBounds_toArray, List.set_cons_zero, List.set_cons_succ])
    refine wpAnyH_take (i := 40) (v := undef) rfl (by kernel_rfl) (by kernel_rfl) (by kernel_rfl) (fun _ _ _ h => h) (Or.inr ⟨by kernel_rfl, rfl⟩) (by assumption) ?_
    (try dsimp only [Act.put, List.setIfInBounds_toArray, List.set_cons_zero, List.set_cons_succ])
    refine wpAnyH_take (i := 41) (v := undef) rfl (by kernel_rfl) (by kernel_rfl) (by kernel_rfl) (fun _ _ _ h => h) (Or.inr ⟨by kernel_rfl, rfl⟩) (by assumption) ?_
    (try dsimp only [Act.put, List.setIfInBounds_toArray, List.set_cons_zero, List.set_cons_succ])
    refine wpAnyH_take (i := 42) (v := undef) rfl (by kernel_rfl) (by kernel_rfl) (by kernel_rfl) (fun _ _ _ h => h) (Or.inr ⟨by kernel_rfl, rfl⟩) (by assumption) ?_
    (try dsimp only [Act.put, List.setIfInBounds_toArray, List.set_cons_zero, List.set_cons_succ])
    refine wpAnyH_take (i := 43) (v := undef) rfl (by kernel_rfl) (by kernel_rfl) (by kernel_rfl) (fun _ _ _ h => h) (Or.inr ⟨by kernel_rfl, rfl⟩) (by assumption) ?_
    (try dsimp only [Act.put, List.setIfInBounds_toArray, List.set_cons_zero, List.set_cons_succ])
    refine wpAnyH_take (i := 44) (v := ?v44) rfl (by kernel_rfl) (by kernel_rfl) (by kernel_rfl) (fun _ _ _ h => h) (Or.inl ⟨by kernel_rfl, ?h44⟩) (by assumption) ?_
    case h44 =>
      intro w hSw
      (try dsimp only at hSw)
      go_simp
      try with_reducible rfl
    (try dsimp only [Act.put, List.setIfInBounds_toArray, List.set_cons_zero, List.set_cons_succ])
    refine wpAnyH_take (i := 45) (v := ?v45) rfl (by kernel_rfl) (by kernel_rfl) (by kernel_rfl) (fun _ _ _ h => h) (Or.inl ⟨by kernel_rfl, ?h45⟩) (by assumption) ?_
    case h45 =>
      intro w hSw
      (try dsimp only at hSw)
      go_simp
      try with_reducible rfl
    (try dsimp only [Act.put, List.setIfInBounds_toArray, List.set_cons_zero, List.set_cons_succ])
    refine wpAnyH_take (i := 46) (v := ?v46) rfl (by kernel_rfl) (by kernel_rfl) (by kernel_rfl) (fun _ _ _ h => h) (Or.inl ⟨by kernel_rfl, ?h46⟩) (by assumption) ?_
    case h46 =>
      intro w hSw
      (try dsimp only at hSw)
      go_simp
      try with_reducible rfl
    (try dsimp only [Act.put, List.setIfInBounds_toArray, List.set_cons_zero, List.set_cons_succ])
    refine wpAnyH_done (by kernel_rfl) ?_ _
    go_wp2_with fail
    go_ret
    rename_i dsta da ha dstb db hb
    have ha2 : some (4 : Tmp) = some da := ha
    have hb2 : some (59 : Tmp) = some db := hb
    cases ha2
    cases hb2
    exact ⟨rfl, HBh.out.drew.trans (hba.mono hwh)⟩
  · have h2 : nh = 2 := by omega
    subst h2
    obtain ⟨⟨⟨tx, ty⟩, hp, hs⟩, ⟨⟨ux, uy⟩, kp, ks⟩, hl⟩ : ∃ h0 h1, hopsOf L (x, y) = [h0, h1] := by
      generalize hopsOf L (x, y) = M at hnh
      match M, hnh with
      | [a, b], _ => exact ⟨a, b, rfl⟩
    have hdf := differ_of HV.out hl
    rw [hl] at hOh
    obtain ⟨g, rfl, hg1, hg2⟩ := Own.ne_nil hOh (by omega)
    have HK2 := Lib.hid (hop_cells hOh)
    clear hOh hnh hn2 HF hl
    simp only at hdf
    obtain ⟨e1, e2, e3, e4⟩ := hdf
    have e2' : hp = kp := e2
    subst e2'
    have e3' : decide (0 ≤ hp) = true := by simpa using e3
    have e4' : (hs != ks) = true := by simpa using e4
    have hneq : ∀ w, (binOp .neq 34 (.agg #[.int .i64 tx, .int .i64 ty]) (.agg #[.int .i64 ux, .int .i64 uy])).run Try.prog w = .ok (.bool true) w := fun w => run_neq_step w (by simpa using e1)
    have hd : decide (((2 : Nat) : Int) < 2) = false := by decide
    have hd2 : ¬ ((2 : Nat) : Int) < 2 := by decide
    clear e1
    go_upto_region 3 with fail
    have hb0 := Below.refl wh.heap.size wh
    go_region_held3 (fun w' => w'.cell? ⟨g, 0, none⟩ = some (.int .i64 tx) ∧ w'.cell? ⟨g, 1, none⟩ = some (.int .i64 ty) ∧ w'.cell? ⟨g, 2, none⟩ = some (.int .i64 hp) ∧ w'.cell? ⟨g, 3, none⟩ = some (.int .i64 hs) ∧ w'.cell? ⟨g, 4, none⟩ = some (.int .i64 ux) ∧ w'.cell? ⟨g, 5, none⟩ = some (.int .i64 uy) ∧ w'.cell? ⟨g, 6, none⟩ = some (.int .i64 hp) ∧ w'.cell? ⟨g, 7, none⟩ = some (.int .i64 ks))
      (first | exact HK2.out _ hb0.drew | exact HK2.out _ (hb0.drew.trans hba))
      ((go_at_call 16; refine (awake_any _).mono ?_; rintro e wa ⟨rfl, hba⟩))
    go_wp2_with fail
    go_ret
    exact ⟨rfl, HBh.out.drew.trans (hba.mono hwh)⟩
end Go.Proofs.Ytdcbaedhgoipjaa.HDiff
