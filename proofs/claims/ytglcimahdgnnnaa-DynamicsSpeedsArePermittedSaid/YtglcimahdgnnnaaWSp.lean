/-
  Walk of the statement that the speeds are permitted.
-/
import Derived.Test.YtglcimahdgnnnaaWAg
namespace Go.Proofs.Ytglcimahdgnnnaa.WSp
open Go.ChangeShapes Go.WideShapes Go.ChangeAt Go.RowKit Dyn Mem Src PSm PChk PLim PPer PSpd PTim RSm RLim RSpd RTim Mak Eq6 LawF WEx WAg
set_option linter.unusedVariables false

set_option maxRecDepth 100000 in
set_option maxHeartbeats 16000000 in
theorem walkDynamicsSpeedsArePermitted (A0 : Option Addr) (n0 c0 : Nat) (hn0 : n0 ≤ c0) (hc0 : c0 ≤ 9223372036854775807) (A1 : Option Addr) (n1 c1 : Nat) (hn1 : n1 ≤ c1) (hc1 : c1 ≤ 9223372036854775807) (a2 : Int) (w2 : (Lit.int .i64 a2).wf = true) (w : World)
    (hB0 : Src.Ints w w.heap.size A0 n0) (hB1 : Src.Ints w w.heap.size A1 n1) : Calls Try.prog 7 #[.slice A0 n0 c0, .slice A1 n1 c1, .int .i64 a2] w (Yes w) := by
  have b2 := bounds_i64 w2
  have HCE := Lib.hid (cells_any A0 n0 c0 w hB0 (by omega))
  have HST := Lib.hid (fun w' (hb : Below w.heap.size w w') => stock_any A1 n1 c1 w' (fun j hj => by obtain ⟨ad, z, e, h1, h2⟩ := hB1.below hb j hj; exact ⟨ad, z, e, Nat.lt_of_lt_of_le h1 hb.size, h2⟩) (by omega))
  clear hB0 hB1
  go_enter Try.func7, Try.ntmps7
  go_upto_region 2 with (first
    | (go_at_call 20; (with_reducible refine (HCE.out).mono ?_); rintro e wc ⟨A, n, c, L, rfl, hO, hm, hnc, hcb, hbc⟩)
    | (go_at_call 21; (with_reducible refine (HST.out _ hbc).mono ?_); rintro e ws ⟨s, rfl, hs, hbs⟩; have HG := Lib.hid (gn_start hO hm hnc hcb hbc hs hbs); obtain ⟨len, spd, ac, bk⟩ := s; simp only [stk]))
  obtain ⟨W, hW⟩ : ∃ W, ws.alloc (.cells #[.string xX, .int .i64 len, .int .i64 spd, .int .i64 ac, .int .i64 bk] 23) = W := ⟨_, rfl⟩
  rw [hW] at HG ⊢
  generalize ws.heap.size = b at *
  clear hW hO hbc hbs hm HCE HST hnc hcb
  have hmd := HG.out.made
  have hn56 : n ≤ 56 := hmd.2.2
  have hn1' : 1 ≤ n := hmd.2.1
  have HOK := Lib.hid HG.out.stk.1
  have HALL := Lib.hid hmd.1
  have HLL := Lib.hid HG.out.rd.1
  have HL4 := Lib.hid HG.out.stk.2
  have HCK : Hid (∀ w' : World, Calls Try.prog 18 #[.agg #[.string xX, .int .i64 len, .int .i64 spd, .int .i64 ac, .int .i64 bk]] w' (BoolPost true w')) := fun w' => by
    have h := p_check xX ⟨len, spd, ac, bk⟩ w'
    rw [HG.out.stk.1] at h
    exact h
  have HX := Lib.hid (fun w' (hb : Below W.heap.size W w') => (HG.out.keep hb).box.cells)
  simp only at HX
  have HBW := Lib.hid HG.out.below
  have HRUN := Lib.hid (fun w' (hb : Below W.heap.size W w') (st : Nat) (hk : st + 2 ≤ n) => (HG.out.keep hb).run hk HG.out.stk.1)
  have h0 := Lib.hid (Below.refl W.heap.size W)
  clear hmd HG
  by_cases hlt : n < 2
  · have hlti : (n : Int) < 2 := by omega
    obtain ⟨x0, x1, x2, x3, x4⟩ := HX.out W h0.out
    go_wp2_with (go_at_call 18; (with_reducible refine (HCK.out _).mono ?_); rintro e w9 ⟨rfl, q9⟩)
    all_goals go_ret
    all_goals exact ⟨rfl, HBW.out.trans (q9.mono HBW.out.size)⟩
  have hlti : ¬ (n : Int) < 2 := by omega
  have pr := pick_range a2 ((n : Int) - 1) (by omega)
  obtain ⟨st, hst⟩ : ∃ st : Nat, pick a2 ((n : Int) - 1) = (st : Int) := ⟨(pick a2 ((n : Int) - 1)).toNat, by omega⟩
  have HPK := Lib.hid (fun w => pick_any a2 ((n : Int) - 1) w (by omega) (by omega) (by omega) (by omega))
  rw [hst] at HPK pr
  obtain ⟨m, hm⟩ : ∃ m, n = st + m := ⟨n - st, by omega⟩
  have hk2 : st + 2 ≤ n := by omega
  have hm2 : 2 ≤ m := by omega
  have HM := Lib.hid hm
  have hst56 : st ≤ 54 := by omega
  obtain ⟨x0, x1, x2, x3, x4⟩ := HX.out W h0.out
  clear hst
  have hlen : st + m ≤ L.length := by rw [HLL.out]; omega
  have HTI : Hid (∀ w' : World, Below W.heap.size W w' → Calls Try.prog 13 #[.slice A n c, .int .i64 st, .agg #[.string xX, .int .i64 len, .int .i64 spd, .int .i64 ac, .int .i64 bk]] w' (TupRow (m + 1) (vel L ⟨len, spd, ac, bk⟩ st m) w')) := fun w' hb => p_speeds A n c st m L xX ⟨len, spd, ac, bk⟩ w' (HRUN.out w' hb st hk2) hm
  have HRD := Lib.hid (fun w' (hb : Below W.heap.size W w') => (HRUN.out w' hb st hk2).rd)
  have HVB : Hid (∀ i, i ≤ m → 0 ≤ vel L ⟨len, spd, ac, bk⟩ st m i ∧ vel L ⟨len, spd, ac, bk⟩ st m i ≤ 100000 ∧ (0 < i → i < m → 1000 ≤ vel L ⟨len, spd, ac, bk⟩ st m i)) := fun i hi => vel_bounds HOK.out HALL.out hlen hi
  have HVL : Hid (∀ i, i < m → vel L ⟨len, spd, ac, bk⟩ st m i ≤ lim L ⟨len, spd, ac, bk⟩ (st + i) ∧ vel L ⟨len, spd, ac, bk⟩ st m (i + 1) ≤ lim L ⟨len, spd, ac, bk⟩ (st + i)) := fun i hi => vel_lim HOK.out HALL.out hlen hi
  have HVR : Hid (∀ i, i < m → vel L ⟨len, spd, ac, bk⟩ st m (i + 1) * vel L ⟨len, spd, ac, bk⟩ st m (i + 1) - (vel L ⟨len, spd, ac, bk⟩ st m i + 1) * (vel L ⟨len, spd, ac, bk⟩ st m i + 1) ≤ 20000 * max ac bk ∧ vel L ⟨len, spd, ac, bk⟩ st m i * vel L ⟨len, spd, ac, bk⟩ st m i - (vel L ⟨len, spd, ac, bk⟩ st m (i + 1) + 1) * (vel L ⟨len, spd, ac, bk⟩ st m (i + 1) + 1) ≤ 20000 * max ac bk) := fun i hi => vel_rates HOK.out HALL.out hlen hi
  have hf0 : vel L ⟨len, spd, ac, bk⟩ st m 0 = 0 := vel_first HOK.out HALL.out hlen
  have hfm : vel L ⟨len, spd, ac, bk⟩ st m m = 0 := vel_end HOK.out HALL.out hlen
  have HLM := Lib.hid (fun k => (le_lim (cs := L) (s := ⟨len, spd, ac, bk⟩) (k := k) (lim L ⟨len, spd, ac, bk⟩ k)).1 (Int.le_refl _))
  have hS := okStk_iff.1 HOK.out
  simp only at hS HLM
  generalize vel L ⟨len, spd, ac, bk⟩ st m = f at *
  generalize lim L ⟨len, spd, ac, bk⟩ = lm at *
  obtain ⟨N, hN⟩ : ∃ N, m + 1 = N := ⟨_, rfl⟩
  rw [hN] at HTI
  have e1 : (n : Int) - st + 1 = (N : Int) := by omega
  have e2 : (N : Int) - 1 = (m : Int) := by omega
  have hmN : m < N := by omega
  have hN3 : 0 < N := by omega
  have hN4 : N ≤ m + 1 := by omega
  have HNN := Lib.hid hN
  have hm56 : m ≤ 56 := by omega
  clear hN hm
  go_upto_region 6 with (first
    | (go_at_call 22; (with_reducible refine (HPK.out _).mono ?_); rintro e w1 ⟨rfl, rfl⟩)
    | (go_at_call 13; (with_reducible refine (HTI.out _ h0.out).mono ?_); rintro e wb ⟨g, rfl, hg, hR, hba⟩; have HFb := Lib.hid hR; have HIb := Lib.hid (h0.out.trans (hba.mono h0.out.size)); clear hR hba))
  have c0 := HFb.out.cell (i := 0) hN3
  have cm := HFb.out.cell (i := m) hmN
  rw [hf0] at c0
  rw [hfm] at cm
  have hgl := HFb.out.lt
  have HZ := Lib.hid (HBW.out.trans (HIb.out.mono HBW.out.size))
  clear x0 x1 x2 x3 x4 HCK HRUN HTI HPK h0 HBW hf0 hfm
  go_wp2
  clear c0 cm
  go_loopw [11] (fun i wr => ∃ k : Nat, k ≤ m ∧ i = .int .i64 ((k : Int) + 1) ∧ Hid (Below wb.heap.size wb wr)) (fun i _ => N - (intOf i).toNat)
  case atStart => exact ⟨0, Nat.zero_le _, rfl, Below.refl _ _⟩
  case round =>
    obtain ⟨k, hk, rfl, hbr⟩ := hrel
    have hR := HFb.out.below hbr.out hgl
    have hIr := HIb.out.trans (hbr.out.mono HIb.out.size)
    by_cases hlt : k < m
    · obtain ⟨k', hk'⟩ : ∃ k', k + 1 = k' := ⟨_, rfl⟩
      have e3 : (k : Int) + 1 = (k' : Int) := by omega
      have e4 : (k' : Int) - 1 = (k : Int) := by omega
      obtain ⟨sk, hsk⟩ : ∃ sk, st + k = sk := ⟨_, rfl⟩
      obtain ⟨sk', hsk'⟩ : ∃ sk', st + k' = sk' := ⟨_, rfl⟩
      have e5 : (st : Int) + k' = (sk' : Int) := by omega
      have e6 : (sk' : Int) - 1 = (sk : Int) := by omega
      have d0 := hR.cell (i := k) (by omega)
      have d1 := hR.cell (i := k') (by omega)
      obtain ⟨x0, x1, x2, x3, x4⟩ := HX.out _ hIr
      have hr := HVR.out k hlt
      have hl := HVL.out k hlt
      have hva := HVB.out k (by omega)
      have hvb := HVB.out k' (by omega)
      have hlm := HLM.out sk
      rw [hk', hsk] at hl
      rw [hk'] at hr
      have HK := Lib.hid hk'
      have HSK := Lib.hid (show sk < n by omega)
      have HRdr := Lib.hid (fun w' (hb : Below wb.heap.size wb w') => HRD.out w' (HIb.out.trans (hb.mono HIb.out.size)))
      have hva0 : 0 ≤ f k := hva.1
      have hva1 : f k ≤ 100000 := hva.2.1
      have hvb0 : 0 ≤ f k' := hvb.1
      have hvb1 : f k' ≤ 100000 := hvb.2.1
      have HV3 : Hid (k' < m → 1 ≤ f k') := fun h => by have := hvb.2.2 (by omega) h; omega
      have hls := hlm.1
      have HLC := Lib.hid hlm.2
      have i0 : k < N := by omega
      have i1 : k' < N := by omega
      have i2 : sk' ≤ 200 := by omega
      have i3 : k' ≤ 57 := by omega
      clear hR hk' hva hvb hsk hsk' hlm hIr
      rw [e3]
      obtain ⟨va, hva⟩ : ∃ va, f k = va := ⟨_, rfl⟩
      obtain ⟨vb, hvb⟩ : ∃ vb, f k' = vb := ⟨_, rfl⟩
      rw [hva] at d0 hr hl hva0 hva1
      rw [hvb] at d1 hr hl hvb0 hvb1 HV3
      have HFK : Hid (va = f k ∧ vb = f k') := ⟨hva.symm, hvb.symm⟩
      clear hva hvb
      generalize lm sk = lk at *
      have qa : 0 ≤ va * va ∧ va * va ≤ 10000000000 := ⟨Int.mul_nonneg hva0 hva0, by have := sqr_mono hva0 hva1; omega⟩
      have qb : 0 ≤ vb * vb ∧ vb * vb ≤ 10000000000 := ⟨Int.mul_nonneg hvb0 hvb0, by have := sqr_mono hvb0 hvb1; omega⟩
      have qc : 0 ≤ (va + 1) * (va + 1) ∧ (va + 1) * (va + 1) ≤ 10000200001 := ⟨Int.mul_nonneg (by omega) (by omega), by have := sqr_mono (show 0 ≤ va + 1 by omega) (show va + 1 ≤ 100001 by omega); omega⟩
      have qd : 0 ≤ (vb + 1) * (vb + 1) ∧ (vb + 1) * (vb + 1) ≤ 10000200001 := ⟨Int.mul_nonneg (by omega) (by omega), by have := sqr_mono (show 0 ≤ vb + 1 by omega) (show vb + 1 ≤ 100001 by omega); omega⟩
      have s1 : IntKind.i64.wrap (va * va) = va * va := IntWalk.i64_in _ (by omega)
      have s2 : IntKind.i64.wrap (vb * vb) = vb * vb := IntWalk.i64_in _ (by omega)
      have s3 : IntKind.i64.wrap (va + 1) = va + 1 := IntWalk.i64_in _ (by omega)
      have s4 : IntKind.i64.wrap (vb + 1) = vb + 1 := IntWalk.i64_in _ (by omega)
      have s5 : IntKind.i64.wrap ((va + 1) * (va + 1)) = (va + 1) * (va + 1) := IntWalk.i64_in _ (by omega)
      have s6 : IntKind.i64.wrap ((vb + 1) * (vb + 1)) = (vb + 1) * (vb + 1) := IntWalk.i64_in _ (by omega)
      have s7 : IntKind.i64.wrap (vb * vb - (va + 1) * (va + 1)) = vb * vb - (va + 1) * (va + 1) := IntWalk.i64_in _ (by omega)
      have s8 : IntKind.i64.wrap (va * va - (vb + 1) * (vb + 1)) = va * va - (vb + 1) * (vb + 1) := IntWalk.i64_in _ (by omega)
      have s9 : IntKind.i64.wrap ((k' : Int) - 1) = (k : Int) := by rw [e4]; exact IntWalk.i64_in _ (by omega)
      go_upto_region 12 with fail
      go_quiet (fail)
      have hcond : ¬ ((20000 * if ac < bk then bk else ac) < if vb * vb - (va + 1) * (va + 1) < va * va - (vb + 1) * (vb + 1) then va * va - (vb + 1) * (vb + 1) else vb * vb - (va + 1) * (va + 1)) := by
        have h1 := hr.1
        have h2 := hr.2
        generalize vb * vb - (va + 1) * (va + 1) = u1 at *
        generalize va * va - (vb + 1) * (vb + 1) = u2 at *
        split <;> split <;> omega
      have HBQ := Lib.hid (below_draws hbr.out nq)
      obtain ⟨z0, z1, z2, z3, z4⟩ := HX.out _ (HIb.out.trans (HBQ.out.mono HIb.out.size))
      obtain ⟨u, hu⟩ : ∃ u, (if vb * vb - (va + 1) * (va + 1) < va * va - (vb + 1) * (vb + 1) then va * va - (vb + 1) * (vb + 1) else vb * vb - (va + 1) * (va + 1)) = u := ⟨_, rfl⟩
      obtain ⟨q5, hq5⟩ : ∃ q5, (if ac < bk then bk else ac) = q5 := ⟨_, rfl⟩
      rw [hu, hq5] at hcond
      rw [hu, hq5]
      clear hu hq5
      clear s1 s2 s3 s4 s5 s6 s7 s8 qa qb qc qd d0 d1 x0 x1 x2 x3 x4 hr
      generalize wr.drewN nq = wq at *
      by_cases hle : (sk : Int) ≤ len
      · have hsl : sk - len.toNat = 0 := by omega
        have hn1x : ¬ len < (sk : Int) := by omega
        go_wp2
        all_goals clear hcond z0 z1 z2 z3 z4
        all_goals
          go_loopw [13] (fun i wx => ∃ j : Nat, 0 ≤ j ∧ j ≤ sk + 1 ∧ i = .int .i64 j ∧ Hid (Below wb.heap.size wb wx)) (fun i _ => sk + 1 - (intOf i).toNat)
          case atStart => exact ⟨0, Nat.le_refl _, by omega, rfl, HBQ⟩
          case round =>
            obtain ⟨j, hj1, hj2, rfl, hbx⟩ := hrel
            have hRx := HFb.out.below hbx.out hgl
            have y0 := hRx.cell (i := k) (by omega)
            have y1 := hRx.cell (i := k') (by omega)
            rw [← HFK.out.1] at y0
            rw [← HFK.out.2] at y1
            by_cases hjk : j < sk + 1
            · obtain ⟨ad, z, rfl, habz, hz, d0, d1⟩ := loadCel (HRdr.out _ hbx.out) (show j < n by have := HSK.out; omega)
              have hzl : lk ≤ z.lim := by
                have := HLC.out j (by omega) (by omega)
                rwa [cel_eq hz] at this
              have hq0 : ¬ z.lim < vb := by omega
              have hq1 : ¬ z.lim < va := by omega
              have hji : (j : Int) ≤ (sk : Int) := by omega
              have hjn : j < n := by have := HSK.out; omega
              have s10 : IntKind.i64.wrap (k : Int) = (k : Int) := IntWalk.i64_in _ (by omega)
              clear hz hzl hRx
              go_wp2
              go_quiet (fail)
              go_wp2
              go_roundw
              case rel => exact ⟨j + 1, by omega, by omega, by go_num, below_draws hbx.out _⟩
              case measure => simp [intOf]; omega
            · have hji : ¬ (j : Int) ≤ (sk : Int) := by omega
              obtain ⟨x0, x1, x2, x3, x4⟩ := HX.out _ (HIb.out.trans (hbx.out.mono HIb.out.size))
              have hsv : ¬ spd < vb := by omega
              have hNm : IntKind.i64.wrap ((N : Int) - 1) = (m : Int) := by rw [e2]; exact IntWalk.i64_in _ (by omega)
              have hNm2 : IntKind.i64.wrap (m : Int) = (m : Int) := IntWalk.i64_in _ (by omega)
              clear hRx
              by_cases hkm : k' < m
              · have hv1 : ¬ vb < 1 := by have := HV3.out hkm; omega
                have hkmi : (k' : Int) < (m : Int) := by omega
                go_wp2
                go_quiet (fail)
                go_wp2
                go_roundw
                case rel => exact ⟨k', by have := HK.out; omega, by go_num, below_draws hbx.out _⟩
                case measure => (have := HK.out; simp [intOf]; omega)
              · have hkmi : ¬ (k' : Int) < (m : Int) := by omega
                go_wp2
                go_quiet (fail)
                go_wp2
                go_roundw
                case rel => exact ⟨k', by have := HK.out; omega, by go_num, below_draws hbx.out _⟩
                case measure => (have := HK.out; simp [intOf]; omega)
      · obtain ⟨a, ha⟩ : ∃ a : Nat, a = sk - len.toNat := ⟨_, rfl⟩
        have hea : (sk : Int) - len = (a : Int) := by omega
        have haS : a ≤ sk := by omega
        have hn1x : len < (sk : Int) := by omega
        go_wp2
        all_goals clear hcond z0 z1 z2 z3 z4
        all_goals
          go_loopw [13] (fun i wx => ∃ j : Nat, a ≤ j ∧ j ≤ sk + 1 ∧ i = .int .i64 j ∧ Hid (Below wb.heap.size wb wx)) (fun i _ => sk + 1 - (intOf i).toNat)
          case atStart => exact ⟨a, Nat.le_refl _, by omega, by congr 1; omega, HBQ⟩
          case round =>
            obtain ⟨j, hj1, hj2, rfl, hbx⟩ := hrel
            have hRx := HFb.out.below hbx.out hgl
            have y0 := hRx.cell (i := k) (by omega)
            have y1 := hRx.cell (i := k') (by omega)
            rw [← HFK.out.1] at y0
            rw [← HFK.out.2] at y1
            by_cases hjk : j < sk + 1
            · obtain ⟨ad, z, rfl, habz, hz, d0, d1⟩ := loadCel (HRdr.out _ hbx.out) (show j < n by have := HSK.out; omega)
              have hzl : lk ≤ z.lim := by
                have := HLC.out j (by omega) (by omega)
                rwa [cel_eq hz] at this
              have hq0 : ¬ z.lim < vb := by omega
              have hq1 : ¬ z.lim < va := by omega
              have hji : (j : Int) ≤ (sk : Int) := by omega
              have hjn : j < n := by have := HSK.out; omega
              have s10 : IntKind.i64.wrap (k : Int) = (k : Int) := IntWalk.i64_in _ (by omega)
              clear hz hzl hRx
              go_wp2
              go_quiet (fail)
              go_wp2
              go_roundw
              case rel => exact ⟨j + 1, by omega, by omega, by go_num, below_draws hbx.out _⟩
              case measure => simp [intOf]; omega
            · have hji : ¬ (j : Int) ≤ (sk : Int) := by omega
              obtain ⟨x0, x1, x2, x3, x4⟩ := HX.out _ (HIb.out.trans (hbx.out.mono HIb.out.size))
              have hsv : ¬ spd < vb := by omega
              have hNm : IntKind.i64.wrap ((N : Int) - 1) = (m : Int) := by rw [e2]; exact IntWalk.i64_in _ (by omega)
              have hNm2 : IntKind.i64.wrap (m : Int) = (m : Int) := IntWalk.i64_in _ (by omega)
              clear hRx
              by_cases hkm : k' < m
              · have hv1 : ¬ vb < 1 := by have := HV3.out hkm; omega
                have hkmi : (k' : Int) < (m : Int) := by omega
                go_wp2
                go_quiet (fail)
                go_wp2
                go_roundw
                case rel => exact ⟨k', by have := HK.out; omega, by go_num, below_draws hbx.out _⟩
                case measure => (have := HK.out; simp [intOf]; omega)
              · have hkmi : ¬ (k' : Int) < (m : Int) := by omega
                go_wp2
                go_quiet (fail)
                go_wp2
                go_roundw
                case rel => exact ⟨k', by have := HK.out; omega, by go_num, below_draws hbx.out _⟩
                case measure => (have := HK.out; simp [intOf]; omega)
    · obtain rfl : k = m := by omega
      have e9 : (k : Int) + 1 = (N : Int) := by omega
      clear hR hIr
      rw [e9]
      go_wp2
      all_goals go_ret
      all_goals exact ⟨rfl, HZ.out.trans (hbr.out.mono HZ.out.size)⟩
end Go.Proofs.Ytglcimahdgnnnaa.WSp
