/-
  Walk of the statement that a faster train is not later.
-/
import Derived.Test.YtglcimahdgnnnaaWAg
namespace Go.Proofs.Ytglcimahdgnnnaa.WFs
open Go.ChangeShapes Go.WideShapes Go.ChangeAt Go.RowKit Dyn Mem Src PSm PChk PLim PPer PSpd PTim RSm RLim RSpd RTim Mak Eq6 LawF WEx WAg
set_option linter.unusedVariables false

set_option maxRecDepth 100000 in
set_option maxHeartbeats 16000000 in
theorem walkDynamicsFasterIsNotLater (A0 : Option Addr) (n0 c0 : Nat) (hn0 : n0 ≤ c0) (hc0 : c0 ≤ 9223372036854775807) (A1 : Option Addr) (n1 c1 : Nat) (hn1 : n1 ≤ c1) (hc1 : c1 ≤ 9223372036854775807) (a2 : Int) (w2 : (Lit.int .i64 a2).wf = true) (a3 : Int) (w3 : (Lit.int .i64 a3).wf = true) (a4 : Int) (w4 : (Lit.int .i64 a4).wf = true) (w : World)
    (hB0 : Src.Ints w w.heap.size A0 n0) (hB1 : Src.Ints w w.heap.size A1 n1) : Calls Try.prog 9 #[.slice A0 n0 c0, .slice A1 n1 c1, .int .i64 a2, .int .i64 a3, .int .i64 a4] w (Yes w) := by
  have b2 := bounds_i64 w2
  have b3 := bounds_i64 w3
  have b4 := bounds_i64 w4
  have HCE := Lib.hid (cells_any A0 n0 c0 w hB0 (by omega))
  have HST := Lib.hid (fun w' (hb : Below w.heap.size w w') => stock_any A1 n1 c1 w' (fun j hj => by obtain ⟨ad, z, e, h1, h2⟩ := hB1.below hb j hj; exact ⟨ad, z, e, Nat.lt_of_lt_of_le h1 hb.size, h2⟩) (by omega))
  clear hB0 hB1
  go_enter Try.func9, Try.ntmps9
  go_upto_region 2 with (first
    | (go_at_call 20; (with_reducible refine (HCE.out).mono ?_); rintro e wc ⟨A, n, c, L, rfl, hO, hm, hnc, hcb, hbc⟩)
    | (go_at_call 21; (with_reducible refine (HST.out _ hbc).mono ?_); rintro e ws ⟨s, rfl, hs, hbs⟩; have HG := Lib.hid (gn_start hO hm hnc hcb hbc hs hbs); obtain ⟨len, spd, ac, bk⟩ := s; simp only [stk]))
  obtain ⟨W, hW⟩ : ∃ W, ws.alloc (.cells #[.string xX, .int .i64 len, .int .i64 spd, .int .i64 ac, .int .i64 bk] 23) = W := ⟨_, rfl⟩
  rw [hW] at HG ⊢
  generalize ws.heap.size = b at *
  clear hW hO hbc hbs hm HCE HST hnc hcb
  have hmd := HG.out.made
  have hn56 : n ≤ 56 := hmd.2.2
  have hn1' : 1 ≤ n := hmd.2.1
  have HOK := Lib.hid HG.out.stk.1
  have HALL := Lib.hid hmd.1
  have HLL := Lib.hid HG.out.rd.1
  have HL4 := Lib.hid HG.out.stk.2
  have HCK : Hid (∀ w' : World, Calls Try.prog 18 #[.agg #[.string xX, .int .i64 len, .int .i64 spd, .int .i64 ac, .int .i64 bk]] w' (BoolPost true w')) := fun w' => by
    have h := p_check xX ⟨len, spd, ac, bk⟩ w'
    rw [HG.out.stk.1] at h
    exact h
  have HX := Lib.hid (fun w' (hb : Below W.heap.size W w') => (HG.out.keep hb).box.cells)
  simp only at HX
  have HBW := Lib.hid HG.out.below
  have HBX := Lib.hid HG.out.box
  have HRUN := Lib.hid (fun w' (hb : Below W.heap.size W w') (st : Nat) (hk : st + 2 ≤ n) => (HG.out.keep hb).run hk HG.out.stk.1)
  have h0 := Lib.hid (Below.refl W.heap.size W)
  clear hmd HG
  by_cases hlt : n < 2
  · have hlti : (n : Int) < 2 := by omega
    obtain ⟨x0, x1, x2, x3, x4⟩ := HX.out W h0.out
    go_wp2_with (go_at_call 18; (with_reducible refine (HCK.out _).mono ?_); rintro e w9 ⟨rfl, q9⟩)
    all_goals go_ret
    all_goals exact ⟨rfl, HBW.out.trans (q9.mono HBW.out.size)⟩
  have hlti : ¬ (n : Int) < 2 := by omega
  have pr := pick_range a2 ((n : Int) - 1) (by omega)
  obtain ⟨st, hst⟩ : ∃ st : Nat, pick a2 ((n : Int) - 1) = (st : Int) := ⟨(pick a2 ((n : Int) - 1)).toNat, by omega⟩
  have HPK := Lib.hid (fun w => pick_any a2 ((n : Int) - 1) w (by omega) (by omega) (by omega) (by omega))
  rw [hst] at HPK pr
  obtain ⟨m, hm⟩ : ∃ m, n = st + m := ⟨n - st, by omega⟩
  have hk2 : st + 2 ≤ n := by omega
  have hm2 : 2 ≤ m := by omega
  have HM := Lib.hid hm
  have hst56 : st ≤ 54 := by omega
  obtain ⟨x0, x1, x2, x3, x4⟩ := HX.out W h0.out
  clear hst
  have pq := pick_range a3 3 (by omega)
  have HPQ := Lib.hid (fun w => pick_any a3 3 w (by omega) (by omega) (by omega) (by omega))
  obtain ⟨q, hq⟩ : ∃ q, pick a3 3 = q := ⟨_, rfl⟩
  rw [hq] at HPQ pq
  clear hq hm
  by_cases hq0 : q = 0
  · subst hq0
    have pm := pick_range a4 30000 (by omega)
    have HPM := Lib.hid (fun w => pick_any a4 30000 w (by omega) (by omega) (by omega) (by omega))
    generalize pick a4 30000 = p at *
    have hSS := okStk_iff.1 HOK.out
    simp only at hSS
    have s1 : IntKind.i64.wrap (spd + p) = spd + p := IntWalk.i64_in _ (by omega)
    go_upto_region 9 with (first
      | (go_at_call 22; (with_reducible refine (HPK.out _).mono ?_); rintro e w1 ⟨rfl, rfl⟩)
      | (go_at_call 22; (with_reducible refine (HPQ.out _).mono ?_); rintro e w1 ⟨rfl, rfl⟩))
    have hby := Bx.new W xX ⟨len, spd, ac, bk⟩
    have hbW : Below W.heap.size W (W.alloc (.cells #[.string xX, .int .i64 len, .int .i64 spd, .int .i64 ac, .int .i64 bk] 23)) := (Below.refl _ _).alloc (Nat.le_refl _) _
    simp only at hby
    have hwlt := HBX.out.lt
    generalize W.alloc (.cells #[.string xX, .int .i64 len, .int .i64 spd, .int .i64 ac, .int .i64 bk] 23) = V at *
    obtain ⟨b2, hb2⟩ : ∃ b2, W.heap.size = b2 := ⟨_, rfl⟩
    rw [hb2] at hby hwlt ⊢
    have HB2 := Lib.hid hb2
    have hbx := HBX.out.below hbW (by omega)
    obtain ⟨x0, x1, x2, x3, x4⟩ := hbx.cells
    obtain ⟨t0, t1, t2, t3, t4⟩ := hby.cells
    have ff := Bx.free hby 2
    simp only at x1 x2 x3 x4 t1 t2 t3 t4
    have HKB : Hid (V.drew.cell? ⟨b, 2, none⟩ = some (.int .i64 spd)) := x2
    have HKC : Hid (∀ u : Value, (V.drew.setCell ⟨b2, 2, none⟩ u).cell? ⟨b, 2, none⟩ = some (.int .i64 spd)) := fun u => (World.cell?_setCell_other _ _ _ _ (fun e => by injection e with e1; omega)).trans x2
    have td : V.drew.cell? ⟨b2, 2, none⟩ = some (.int .i64 spd) := t2
    have fd : V.drew.frozen? ⟨b2, 2, none⟩ = false := ff
    have HBY := Lib.hid hby
    have HBXV := Lib.hid hbx
    have HBV := Lib.hid hbW
    clear hby hbx hbW hb2
    go_region_held3 (fun w' => w'.cell? ⟨b, 2, none⟩ = some (.int .i64 spd))
      (first | exact HKB.out | exact HKC.out _)
      ((go_at_call 22; (with_reducible refine (HPM.out _).mono ?_); rintro e w1 ⟨rfl, rfl⟩))
    obtain ⟨v, hv⟩ : ∃ v, (if spd + p < 100000 then spd + p else 100000) = v := ⟨_, rfl⟩
    have hvb : spd ≤ v ∧ v ≤ 100000 := by rw [← hv]; split <;> omega
    rw [hv]
    have HZ1 : Hid (Bx (V.setCell ⟨b2, 2, none⟩ (.int .i64 v)).drew b xX ⟨len, spd, ac, bk⟩) := (Below.heap_setCell V ⟨b2, 2, none⟩ _ b (by simp only; omega)).trans HBXV.out
    have HZ2 : Hid (Bx (V.setCell ⟨b2, 2, none⟩ (.int .i64 v)).drew b2 xX ⟨len, v, ac, bk⟩) := by
      have h := HBY.out
      have h2 : V.heap[b2]? = some (.cells #[.string xX, .int .i64 len, .int .i64 spd, .int .i64 ac, .int .i64 bk] 23 (0, 0)) := h
      show (V.setCell ⟨b2, 2, none⟩ (.int .i64 v)).heap[b2]? = _
      simp [World.setCell, Array.getElem?_modify, h2]
    have HBZ : Hid (Below W.heap.size W (V.setCell ⟨b2, 2, none⟩ (.int .i64 v)).drew) := (HBV.out.setCell (by have := HB2.out; simp only; omega) _).drew
    clear hv td fd ff x0 x1 x2 x3 x4 t0 t1 t2 t3 t4 s1 HKB HKC HPM
    generalize (V.setCell ⟨b2, 2, none⟩ (.int .i64 v)).drew = Wz at *
    have hok2 : okStk ⟨len, v, ac, bk⟩ = true := by
      have h := okStk_iff.1 HOK.out
      exact okStk_iff.2 (by simp only at h ⊢; omega)
    have HX1 := Lib.hid (fun w' (hb : Below Wz.heap.size Wz w') => (HZ1.out.below hb HZ1.out.lt).cells)
    have HX2 := Lib.hid (fun w' (hb : Below Wz.heap.size Wz w') => (HZ2.out.below hb HZ2.out.lt).cells)
    simp only at HX1 HX2
    have HT1 : Hid (∀ w' : World, Below Wz.heap.size Wz w' → Calls Try.prog 15 #[.slice A n c, .int .i64 st, .agg #[.string xX, .int .i64 len, .int .i64 spd, .int .i64 ac, .int .i64 bk]] w' (TupRow (m + 1) (tim (vel L ⟨len, spd, ac, bk⟩ st m)) w')) := fun w' hb => p_times A n c st m L xX ⟨len, spd, ac, bk⟩ w' (HRUN.out w' (HBZ.out.trans (hb.mono HBZ.out.size)) st hk2) HM.out
    have HT2 : Hid (∀ w' : World, Below Wz.heap.size Wz w' → Calls Try.prog 15 #[.slice A n c, .int .i64 st, .agg #[.string xX, .int .i64 len, .int .i64 v, .int .i64 ac, .int .i64 bk]] w' (TupRow (m + 1) (tim (vel L ⟨len, v, ac, bk⟩ st m)) w')) := fun w' hb => by
      have h := HRUN.out w' (HBZ.out.trans (hb.mono HBZ.out.size)) st hk2
      exact p_times A n c st m L xX ⟨len, v, ac, bk⟩ w' ⟨h.rd, h.nc, h.cb, h.kn, h.n4, hok2, h.hc⟩ HM.out
    have hlen : st + m ≤ L.length := by have := HM.out; rw [HLL.out]; omega
    have HLE : Hid (∀ i, i ≤ m → tim (vel L ⟨len, v, ac, bk⟩ st m) i ≤ tim (vel L ⟨len, spd, ac, bk⟩ st m) i) := fun i hi => tim_mono (v := vel L ⟨len, v, ac, bk⟩ st m) (u := vel L ⟨len, spd, ac, bk⟩ st m) (n := m) (fun j hj => vel_pos HOK.out HALL.out hlen hm2 hj) (fun j hj => root_mono (sq_in HOK.out HALL.out hlen hj).1 (faster (cs := L) (ds := L) (s := ⟨len, spd, ac, bk⟩) (r := ⟨len, v, ac, bk⟩) HOK.out HALL.out hlen (by simp only; omega) (by simp only; omega) (by simp only; omega) (Int.le_refl _) (fun i _ => ⟨Int.le_refl _, rfl⟩) hj)) i hi
    have HP1 : Hid (0 < tim (vel L ⟨len, spd, ac, bk⟩ st m) 1) := by
      have := tim_step (v := vel L ⟨len, spd, ac, bk⟩ st m) (b := 0) (vel_pos HOK.out HALL.out hlen hm2 (by omega))
      exact this
    generalize tim (vel L ⟨len, spd, ac, bk⟩ st m) = f at *
    generalize tim (vel L ⟨len, v, ac, bk⟩ st m) = f2 at *
    obtain ⟨N, hN⟩ : ∃ N, m + 1 = N := ⟨_, rfl⟩
    rw [hN] at HT1 HT2
    have hN3 : 3 ≤ N := by omega
    have hmN : N ≤ m + 1 := by omega
    have hNm : m < N := by omega
    have hm56 : m ≤ 56 := by have := HM.out; omega
    have hz0 := Lib.hid (Below.refl Wz.heap.size Wz)
    obtain ⟨x0, x1, x2, x3, x4⟩ := HX1.out Wz hz0.out
    obtain ⟨z0, z1, z2, z3, z4⟩ := HX2.out Wz hz0.out
    clear hN hok2
    go_upto_region 14 with (first
      | (go_at_call 15; (with_reducible refine (HT1.out _ hz0.out).mono ?_); rintro e wa ⟨g, rfl, hg, hR, hba⟩; have HFa := Lib.hid hR; have HIa := Lib.hid (hz0.out.trans (hba.mono hz0.out.size)); clear hR hba x0 x1 x2 x3 x4 z0 z1 z2 z3 z4; obtain ⟨z0, z1, z2, z3, z4⟩ := HX2.out _ HIa.out)
      | (go_at_call 15; (with_reducible refine (HT2.out _ HIa.out).mono ?_); rintro e wb ⟨h, rfl, hh, hR, hba⟩; have HFb := Lib.hid hR; have HFc := Lib.hid (HFa.out.below hba HFa.out.lt); have HIb := Lib.hid (HIa.out.trans (hba.mono HIa.out.size)); clear hR hba z0 z1 z2 z3 z4))
    have hgl := HFc.out.lt
    have hhl := HFb.out.lt
    have HZ := Lib.hid (HBW.out.trans ((HBZ.out.trans (HIb.out.mono HBZ.out.size)).mono HBW.out.size))
    clear HX1 HX2 HT1 HT2 HRUN HX HCK
    have hN3i : ¬ (N : Int) < 3 := by omega
    go_wp2
    go_loopw [95] (fun i wr => ∃ k : Nat, k ≤ N ∧ i = .int .i64 k ∧ Hid (Below wb.heap.size wb wr)) (fun i _ => N - (intOf i).toNat)
    case atStart => exact ⟨0, Nat.zero_le _, rfl, Below.refl _ _⟩
    case round =>
      obtain ⟨k, hk, rfl, hbr⟩ := hrel
      have hR := HFc.out.below hbr.out hgl
      have hR2 := HFb.out.below hbr.out hhl
      by_cases hlt : k < N
      · have d0 := hR.cell hlt
        have d1 := hR2.cell hlt
        have hle := HLE.out k (by omega)
        have hnlt : ¬ f k < f2 k := by omega
        clear hR hR2 hle
        generalize f k = va at *
        generalize f2 k = vb at *
        go_wp2
        go_quiet (fail)
        go_wp2
        go_roundw
        case rel => exact ⟨k + 1, by omega, by go_num, below_draws hbr.out _⟩
        case measure => simp [intOf]; omega
      · obtain rfl : k = N := by omega
        have d1 := hR.cell (i := 1) (by omega)
        have hp1 := HP1.out
        clear hR hR2
        generalize f 1 = va at *
        go_wp2
        all_goals go_ret
        all_goals exact ⟨by first | rfl | simp, HZ.out.trans (hbr.out.mono HZ.out.size)⟩
  · by_cases hq1 : q = 1
    · subst hq1
      have pm := pick_range a4 1000 (by omega)
      have HPM := Lib.hid (fun w => pick_any a4 1000 w (by omega) (by omega) (by omega) (by omega))
      generalize pick a4 1000 = p at *
      have hSS := okStk_iff.1 HOK.out
      simp only at hSS
      have s1 : IntKind.i64.wrap (ac + p) = ac + p := IntWalk.i64_in _ (by omega)
      go_upto_region 11 with (first
        | (go_at_call 22; (with_reducible refine (HPK.out _).mono ?_); rintro e w1 ⟨rfl, rfl⟩)
        | (go_at_call 22; (with_reducible refine (HPQ.out _).mono ?_); rintro e w1 ⟨rfl, rfl⟩))
      have hby := Bx.new W xX ⟨len, spd, ac, bk⟩
      have hbW : Below W.heap.size W (W.alloc (.cells #[.string xX, .int .i64 len, .int .i64 spd, .int .i64 ac, .int .i64 bk] 23)) := (Below.refl _ _).alloc (Nat.le_refl _) _
      simp only at hby
      have hwlt := HBX.out.lt
      generalize W.alloc (.cells #[.string xX, .int .i64 len, .int .i64 spd, .int .i64 ac, .int .i64 bk] 23) = V at *
      obtain ⟨b2, hb2⟩ : ∃ b2, W.heap.size = b2 := ⟨_, rfl⟩
      rw [hb2] at hby hwlt ⊢
      have HB2 := Lib.hid hb2
      have hbx := HBX.out.below hbW (by omega)
      obtain ⟨x0, x1, x2, x3, x4⟩ := hbx.cells
      obtain ⟨t0, t1, t2, t3, t4⟩ := hby.cells
      have ff := Bx.free hby 3
      simp only at x1 x2 x3 x4 t1 t2 t3 t4
      have HKB : Hid (V.drew.cell? ⟨b, 3, none⟩ = some (.int .i64 ac)) := x3
      have HKC : Hid (∀ u : Value, (V.drew.setCell ⟨b2, 3, none⟩ u).cell? ⟨b, 3, none⟩ = some (.int .i64 ac)) := fun u => (World.cell?_setCell_other _ _ _ _ (fun e => by injection e with e1; omega)).trans x3
      have td : V.drew.cell? ⟨b2, 3, none⟩ = some (.int .i64 ac) := t3
      have fd : V.drew.frozen? ⟨b2, 3, none⟩ = false := ff
      have HBY := Lib.hid hby
      have HBXV := Lib.hid hbx
      have HBV := Lib.hid hbW
      clear hby hbx hbW hb2
      go_region_held3 (fun w' => w'.cell? ⟨b, 3, none⟩ = some (.int .i64 ac))
        (first | exact HKB.out | exact HKC.out _)
        ((go_at_call 22; (with_reducible refine (HPM.out _).mono ?_); rintro e w1 ⟨rfl, rfl⟩))
      obtain ⟨v, hv⟩ : ∃ v, (if ac + p < 2000 then ac + p else 2000) = v := ⟨_, rfl⟩
      have hvb : ac ≤ v ∧ v ≤ 2000 := by rw [← hv]; split <;> omega
      rw [hv]
      have HZ1 : Hid (Bx (V.setCell ⟨b2, 3, none⟩ (.int .i64 v)).drew b xX ⟨len, spd, ac, bk⟩) := (Below.heap_setCell V ⟨b2, 3, none⟩ _ b (by simp only; omega)).trans HBXV.out
      have HZ2 : Hid (Bx (V.setCell ⟨b2, 3, none⟩ (.int .i64 v)).drew b2 xX ⟨len, spd, v, bk⟩) := by
        have h := HBY.out
        have h2 : V.heap[b2]? = some (.cells #[.string xX, .int .i64 len, .int .i64 spd, .int .i64 ac, .int .i64 bk] 23 (0, 0)) := h
        show (V.setCell ⟨b2, 3, none⟩ (.int .i64 v)).heap[b2]? = _
        simp [World.setCell, Array.getElem?_modify, h2]
      have HBZ : Hid (Below W.heap.size W (V.setCell ⟨b2, 3, none⟩ (.int .i64 v)).drew) := (HBV.out.setCell (by have := HB2.out; simp only; omega) _).drew
      clear hv td fd ff x0 x1 x2 x3 x4 t0 t1 t2 t3 t4 s1 HKB HKC HPM
      generalize (V.setCell ⟨b2, 3, none⟩ (.int .i64 v)).drew = Wz at *
      have hok2 : okStk ⟨len, spd, v, bk⟩ = true := by
        have h := okStk_iff.1 HOK.out
        exact okStk_iff.2 (by simp only at h ⊢; omega)
      have HX1 := Lib.hid (fun w' (hb : Below Wz.heap.size Wz w') => (HZ1.out.below hb HZ1.out.lt).cells)
      have HX2 := Lib.hid (fun w' (hb : Below Wz.heap.size Wz w') => (HZ2.out.below hb HZ2.out.lt).cells)
      simp only at HX1 HX2
      have HT1 : Hid (∀ w' : World, Below Wz.heap.size Wz w' → Calls Try.prog 15 #[.slice A n c, .int .i64 st, .agg #[.string xX, .int .i64 len, .int .i64 spd, .int .i64 ac, .int .i64 bk]] w' (TupRow (m + 1) (tim (vel L ⟨len, spd, ac, bk⟩ st m)) w')) := fun w' hb => p_times A n c st m L xX ⟨len, spd, ac, bk⟩ w' (HRUN.out w' (HBZ.out.trans (hb.mono HBZ.out.size)) st hk2) HM.out
      have HT2 : Hid (∀ w' : World, Below Wz.heap.size Wz w' → Calls Try.prog 15 #[.slice A n c, .int .i64 st, .agg #[.string xX, .int .i64 len, .int .i64 spd, .int .i64 v, .int .i64 bk]] w' (TupRow (m + 1) (tim (vel L ⟨len, spd, v, bk⟩ st m)) w')) := fun w' hb => by
        have h := HRUN.out w' (HBZ.out.trans (hb.mono HBZ.out.size)) st hk2
        exact p_times A n c st m L xX ⟨len, spd, v, bk⟩ w' ⟨h.rd, h.nc, h.cb, h.kn, h.n4, hok2, h.hc⟩ HM.out
      have hlen : st + m ≤ L.length := by have := HM.out; rw [HLL.out]; omega
      have HLE : Hid (∀ i, i ≤ m → tim (vel L ⟨len, spd, v, bk⟩ st m) i ≤ tim (vel L ⟨len, spd, ac, bk⟩ st m) i) := fun i hi => tim_mono (v := vel L ⟨len, spd, v, bk⟩ st m) (u := vel L ⟨len, spd, ac, bk⟩ st m) (n := m) (fun j hj => vel_pos HOK.out HALL.out hlen hm2 hj) (fun j hj => root_mono (sq_in HOK.out HALL.out hlen hj).1 (faster (cs := L) (ds := L) (s := ⟨len, spd, ac, bk⟩) (r := ⟨len, spd, v, bk⟩) HOK.out HALL.out hlen (by simp only; omega) (by simp only; omega) (by simp only; omega) (Int.le_refl _) (fun i _ => ⟨Int.le_refl _, rfl⟩) hj)) i hi
      have HP1 : Hid (0 < tim (vel L ⟨len, spd, ac, bk⟩ st m) 1) := by
        have := tim_step (v := vel L ⟨len, spd, ac, bk⟩ st m) (b := 0) (vel_pos HOK.out HALL.out hlen hm2 (by omega))
        exact this
      generalize tim (vel L ⟨len, spd, ac, bk⟩ st m) = f at *
      generalize tim (vel L ⟨len, spd, v, bk⟩ st m) = f2 at *
      obtain ⟨N, hN⟩ : ∃ N, m + 1 = N := ⟨_, rfl⟩
      rw [hN] at HT1 HT2
      have hN3 : 3 ≤ N := by omega
      have hmN : N ≤ m + 1 := by omega
      have hNm : m < N := by omega
      have hm56 : m ≤ 56 := by have := HM.out; omega
      have hz0 := Lib.hid (Below.refl Wz.heap.size Wz)
      obtain ⟨x0, x1, x2, x3, x4⟩ := HX1.out Wz hz0.out
      obtain ⟨z0, z1, z2, z3, z4⟩ := HX2.out Wz hz0.out
      clear hN hok2
      go_upto_region 14 with (first
        | (go_at_call 15; (with_reducible refine (HT1.out _ hz0.out).mono ?_); rintro e wa ⟨g, rfl, hg, hR, hba⟩; have HFa := Lib.hid hR; have HIa := Lib.hid (hz0.out.trans (hba.mono hz0.out.size)); clear hR hba x0 x1 x2 x3 x4 z0 z1 z2 z3 z4; obtain ⟨z0, z1, z2, z3, z4⟩ := HX2.out _ HIa.out)
        | (go_at_call 15; (with_reducible refine (HT2.out _ HIa.out).mono ?_); rintro e wb ⟨h, rfl, hh, hR, hba⟩; have HFb := Lib.hid hR; have HFc := Lib.hid (HFa.out.below hba HFa.out.lt); have HIb := Lib.hid (HIa.out.trans (hba.mono HIa.out.size)); clear hR hba z0 z1 z2 z3 z4))
      have hgl := HFc.out.lt
      have hhl := HFb.out.lt
      have HZ := Lib.hid (HBW.out.trans ((HBZ.out.trans (HIb.out.mono HBZ.out.size)).mono HBW.out.size))
      clear HX1 HX2 HT1 HT2 HRUN HX HCK
      have hN3i : ¬ (N : Int) < 3 := by omega
      go_wp2
      go_loopw [95] (fun i wr => ∃ k : Nat, k ≤ N ∧ i = .int .i64 k ∧ Hid (Below wb.heap.size wb wr)) (fun i _ => N - (intOf i).toNat)
      case atStart => exact ⟨0, Nat.zero_le _, rfl, Below.refl _ _⟩
      case round =>
        obtain ⟨k, hk, rfl, hbr⟩ := hrel
        have hR := HFc.out.below hbr.out hgl
        have hR2 := HFb.out.below hbr.out hhl
        by_cases hlt : k < N
        · have d0 := hR.cell hlt
          have d1 := hR2.cell hlt
          have hle := HLE.out k (by omega)
          have hnlt : ¬ f k < f2 k := by omega
          clear hR hR2 hle
          generalize f k = va at *
          generalize f2 k = vb at *
          go_wp2
          go_quiet (fail)
          go_wp2
          go_roundw
          case rel => exact ⟨k + 1, by omega, by go_num, below_draws hbr.out _⟩
          case measure => simp [intOf]; omega
        · obtain rfl : k = N := by omega
          have d1 := hR.cell (i := 1) (by omega)
          have hp1 := HP1.out
          clear hR hR2
          generalize f 1 = va at *
          go_wp2
          all_goals go_ret
          all_goals exact ⟨by first | rfl | simp, HZ.out.trans (hbr.out.mono HZ.out.size)⟩
    · have hq2 : q = 2 := by omega
      subst hq2
      have pm := pick_range a4 1000 (by omega)
      have HPM := Lib.hid (fun w => pick_any a4 1000 w (by omega) (by omega) (by omega) (by omega))
      generalize pick a4 1000 = p at *
      have hSS := okStk_iff.1 HOK.out
      simp only at hSS
      have s1 : IntKind.i64.wrap (bk + p) = bk + p := IntWalk.i64_in _ (by omega)
      go_upto_region 7 with (first
        | (go_at_call 22; (with_reducible refine (HPK.out _).mono ?_); rintro e w1 ⟨rfl, rfl⟩)
        | (go_at_call 22; (with_reducible refine (HPQ.out _).mono ?_); rintro e w1 ⟨rfl, rfl⟩))
      have hby := Bx.new W xX ⟨len, spd, ac, bk⟩
      have hbW : Below W.heap.size W (W.alloc (.cells #[.string xX, .int .i64 len, .int .i64 spd, .int .i64 ac, .int .i64 bk] 23)) := (Below.refl _ _).alloc (Nat.le_refl _) _
      simp only at hby
      have hwlt := HBX.out.lt
      generalize W.alloc (.cells #[.string xX, .int .i64 len, .int .i64 spd, .int .i64 ac, .int .i64 bk] 23) = V at *
      obtain ⟨b2, hb2⟩ : ∃ b2, W.heap.size = b2 := ⟨_, rfl⟩
      rw [hb2] at hby hwlt ⊢
      have HB2 := Lib.hid hb2
      have hbx := HBX.out.below hbW (by omega)
      obtain ⟨x0, x1, x2, x3, x4⟩ := hbx.cells
      obtain ⟨t0, t1, t2, t3, t4⟩ := hby.cells
      have ff := Bx.free hby 4
      simp only at x1 x2 x3 x4 t1 t2 t3 t4
      have HKB : Hid (V.drew.cell? ⟨b, 4, none⟩ = some (.int .i64 bk)) := x4
      have HKC : Hid (∀ u : Value, (V.drew.setCell ⟨b2, 4, none⟩ u).cell? ⟨b, 4, none⟩ = some (.int .i64 bk)) := fun u => (World.cell?_setCell_other _ _ _ _ (fun e => by injection e with e1; omega)).trans x4
      have td : V.drew.cell? ⟨b2, 4, none⟩ = some (.int .i64 bk) := t4
      have fd : V.drew.frozen? ⟨b2, 4, none⟩ = false := ff
      have HBY := Lib.hid hby
      have HBXV := Lib.hid hbx
      have HBV := Lib.hid hbW
      clear hby hbx hbW hb2
      go_region_held3 (fun w' => w'.cell? ⟨b, 4, none⟩ = some (.int .i64 bk))
        (first | exact HKB.out | exact HKC.out _)
        ((go_at_call 22; (with_reducible refine (HPM.out _).mono ?_); rintro e w1 ⟨rfl, rfl⟩))
      obtain ⟨v, hv⟩ : ∃ v, (if bk + p < 2000 then bk + p else 2000) = v := ⟨_, rfl⟩
      have hvb : bk ≤ v ∧ v ≤ 2000 := by rw [← hv]; split <;> omega
      rw [hv]
      have HZ1 : Hid (Bx (V.setCell ⟨b2, 4, none⟩ (.int .i64 v)).drew b xX ⟨len, spd, ac, bk⟩) := (Below.heap_setCell V ⟨b2, 4, none⟩ _ b (by simp only; omega)).trans HBXV.out
      have HZ2 : Hid (Bx (V.setCell ⟨b2, 4, none⟩ (.int .i64 v)).drew b2 xX ⟨len, spd, ac, v⟩) := by
        have h := HBY.out
        have h2 : V.heap[b2]? = some (.cells #[.string xX, .int .i64 len, .int .i64 spd, .int .i64 ac, .int .i64 bk] 23 (0, 0)) := h
        show (V.setCell ⟨b2, 4, none⟩ (.int .i64 v)).heap[b2]? = _
        simp [World.setCell, Array.getElem?_modify, h2]
      have HBZ : Hid (Below W.heap.size W (V.setCell ⟨b2, 4, none⟩ (.int .i64 v)).drew) := (HBV.out.setCell (by have := HB2.out; simp only; omega) _).drew
      clear hv td fd ff x0 x1 x2 x3 x4 t0 t1 t2 t3 t4 s1 HKB HKC HPM
      generalize (V.setCell ⟨b2, 4, none⟩ (.int .i64 v)).drew = Wz at *
      have hok2 : okStk ⟨len, spd, ac, v⟩ = true := by
        have h := okStk_iff.1 HOK.out
        exact okStk_iff.2 (by simp only at h ⊢; omega)
      have HX1 := Lib.hid (fun w' (hb : Below Wz.heap.size Wz w') => (HZ1.out.below hb HZ1.out.lt).cells)
      have HX2 := Lib.hid (fun w' (hb : Below Wz.heap.size Wz w') => (HZ2.out.below hb HZ2.out.lt).cells)
      simp only at HX1 HX2
      have HT1 : Hid (∀ w' : World, Below Wz.heap.size Wz w' → Calls Try.prog 15 #[.slice A n c, .int .i64 st, .agg #[.string xX, .int .i64 len, .int .i64 spd, .int .i64 ac, .int .i64 bk]] w' (TupRow (m + 1) (tim (vel L ⟨len, spd, ac, bk⟩ st m)) w')) := fun w' hb => p_times A n c st m L xX ⟨len, spd, ac, bk⟩ w' (HRUN.out w' (HBZ.out.trans (hb.mono HBZ.out.size)) st hk2) HM.out
      have HT2 : Hid (∀ w' : World, Below Wz.heap.size Wz w' → Calls Try.prog 15 #[.slice A n c, .int .i64 st, .agg #[.string xX, .int .i64 len, .int .i64 spd, .int .i64 ac, .int .i64 v]] w' (TupRow (m + 1) (tim (vel L ⟨len, spd, ac, v⟩ st m)) w')) := fun w' hb => by
        have h := HRUN.out w' (HBZ.out.trans (hb.mono HBZ.out.size)) st hk2
        exact p_times A n c st m L xX ⟨len, spd, ac, v⟩ w' ⟨h.rd, h.nc, h.cb, h.kn, h.n4, hok2, h.hc⟩ HM.out
      have hlen : st + m ≤ L.length := by have := HM.out; rw [HLL.out]; omega
      have HLE : Hid (∀ i, i ≤ m → tim (vel L ⟨len, spd, ac, v⟩ st m) i ≤ tim (vel L ⟨len, spd, ac, bk⟩ st m) i) := fun i hi => tim_mono (v := vel L ⟨len, spd, ac, v⟩ st m) (u := vel L ⟨len, spd, ac, bk⟩ st m) (n := m) (fun j hj => vel_pos HOK.out HALL.out hlen hm2 hj) (fun j hj => root_mono (sq_in HOK.out HALL.out hlen hj).1 (faster (cs := L) (ds := L) (s := ⟨len, spd, ac, bk⟩) (r := ⟨len, spd, ac, v⟩) HOK.out HALL.out hlen (by simp only; omega) (by simp only; omega) (by simp only; omega) (Int.le_refl _) (fun i _ => ⟨Int.le_refl _, rfl⟩) hj)) i hi
      have HP1 : Hid (0 < tim (vel L ⟨len, spd, ac, bk⟩ st m) 1) := by
        have := tim_step (v := vel L ⟨len, spd, ac, bk⟩ st m) (b := 0) (vel_pos HOK.out HALL.out hlen hm2 (by omega))
        exact this
      generalize tim (vel L ⟨len, spd, ac, bk⟩ st m) = f at *
      generalize tim (vel L ⟨len, spd, ac, v⟩ st m) = f2 at *
      obtain ⟨N, hN⟩ : ∃ N, m + 1 = N := ⟨_, rfl⟩
      rw [hN] at HT1 HT2
      have hN3 : 3 ≤ N := by omega
      have hmN : N ≤ m + 1 := by omega
      have hNm : m < N := by omega
      have hm56 : m ≤ 56 := by have := HM.out; omega
      have hz0 := Lib.hid (Below.refl Wz.heap.size Wz)
      obtain ⟨x0, x1, x2, x3, x4⟩ := HX1.out Wz hz0.out
      obtain ⟨z0, z1, z2, z3, z4⟩ := HX2.out Wz hz0.out
      clear hN hok2
      go_upto_region 14 with (first
        | (go_at_call 15; (with_reducible refine (HT1.out _ hz0.out).mono ?_); rintro e wa ⟨g, rfl, hg, hR, hba⟩; have HFa := Lib.hid hR; have HIa := Lib.hid (hz0.out.trans (hba.mono hz0.out.size)); clear hR hba x0 x1 x2 x3 x4 z0 z1 z2 z3 z4; obtain ⟨z0, z1, z2, z3, z4⟩ := HX2.out _ HIa.out)
        | (go_at_call 15; (with_reducible refine (HT2.out _ HIa.out).mono ?_); rintro e wb ⟨h, rfl, hh, hR, hba⟩; have HFb := Lib.hid hR; have HFc := Lib.hid (HFa.out.below hba HFa.out.lt); have HIb := Lib.hid (HIa.out.trans (hba.mono HIa.out.size)); clear hR hba z0 z1 z2 z3 z4))
      have hgl := HFc.out.lt
      have hhl := HFb.out.lt
      have HZ := Lib.hid (HBW.out.trans ((HBZ.out.trans (HIb.out.mono HBZ.out.size)).mono HBW.out.size))
      clear HX1 HX2 HT1 HT2 HRUN HX HCK
      have hN3i : ¬ (N : Int) < 3 := by omega
      go_wp2
      go_loopw [95] (fun i wr => ∃ k : Nat, k ≤ N ∧ i = .int .i64 k ∧ Hid (Below wb.heap.size wb wr)) (fun i _ => N - (intOf i).toNat)
      case atStart => exact ⟨0, Nat.zero_le _, rfl, Below.refl _ _⟩
      case round =>
        obtain ⟨k, hk, rfl, hbr⟩ := hrel
        have hR := HFc.out.below hbr.out hgl
        have hR2 := HFb.out.below hbr.out hhl
        by_cases hlt : k < N
        · have d0 := hR.cell hlt
          have d1 := hR2.cell hlt
          have hle := HLE.out k (by omega)
          have hnlt : ¬ f k < f2 k := by omega
          clear hR hR2 hle
          generalize f k = va at *
          generalize f2 k = vb at *
          go_wp2
          go_quiet (fail)
          go_wp2
          go_roundw
          case rel => exact ⟨k + 1, by omega, by go_num, below_draws hbr.out _⟩
          case measure => simp [intOf]; omega
        · obtain rfl : k = N := by omega
          have d1 := hR.cell (i := 1) (by omega)
          have hp1 := HP1.out
          clear hR hR2
          generalize f 1 = va at *
          go_wp2
          all_goals go_ret
          all_goals exact ⟨by first | rfl | simp, HZ.out.trans (hbr.out.mono HZ.out.size)⟩
end Go.Proofs.Ytglcimahdgnnnaa.WFs
