/-
  The walk of the statement that hops lead back.
-/
import Derived.Test.YtdcbaedhgoipjaaHDiff
namespace Go.Proofs.Ytdcbaedhgoipjaa.HRev
open Go.ChangeShapes Go.WideShapes Go.ChangeAt Go.RowKit Wd Small Mem Lay LayT LayG Recs Dec PNames PSecs PEnds PCheck PStep PLnk RNames Src PHops Awake Maker StepK HDiff
set_option linter.unusedVariables false

/-- from a hop of a valid layout one hop leads back -/
theorem back_one {L : Lay} (hv : check L = 0) {s : Lay.Step} {h : Hop} (hh : h ∈ hopsOf L s) : ((hopsOf L (rev h.to)).filter fun b => decide (b = ⟨rev s, h.pt, h.ps⟩)).length = 1 := by
  have hg := good_links L hv
  unfold hopsOf at hh
  split at hh
  · rename_i hs
    have hs2 : s.2 = 0 ∨ s.2 = 1 := by
      simp only [hasB, stepOK, Bool.and_eq_true, Bool.or_eq_true, beq_iff_eq] at hs
      exact hs.1.2
    have hb := hops_back hg s hs2 h hh
    unfold hops at hh
    rw [List.mem_map] at hh
    obtain ⟨k, hk, rfl⟩ := hh
    rw [List.mem_filter] at hk
    obtain ⟨hr, hne⟩ := hg.range k hk.1
    obtain ⟨g1, g2, g3, g4, g5, g6, g7, g8, -⟩ := inr_range hr
    have hB : hasB L (rev (hopOf (out s) k).to) = true := by
      have e : ∀ f : Lay.End, 0 ≤ f.1 → f.1 < (L.sections.length : Int) → hasB L (rev (into f)) = true := by
        rintro ⟨f1, f2⟩ h1 h2
        simp only at h1 h2
        unfold hasB stepOK into
        split <;> simp [rev, nof, hv, h1, h2]
      have he : (0 ≤ (other k (out s)).1) ∧ (other k (out s)).1 < (L.sections.length : Int) := by
        unfold other
        split
        · simp only [Lnk.y]; omega
        · simp only [Lnk.x]; omega
      exact e _ he.1 he.2
    unfold hopsOf
    rw [if_pos hB]
    exact hb
  · cases hh
/-- how many hops of a list are the one hop -/
def cnt (M : List Hop) (h : Hop) : Int := ((M.filter fun b => decide (b = h)).length : Nat)
theorem cnt_step {M : List Hop} {j : Nat} {b : Hop} (h : Hop) (hb : M[j]? = some b) : cnt (M.take (j + 1)) h = cnt (M.take j) h + if decide (b = h) then 1 else 0 := by
  unfold cnt
  rw [take_succ hb, List.filter_append, List.length_append]
  by_cases e : b = h <;> simp [e]
theorem cnt_le (M : List Hop) (h : Hop) (j : Nat) : 0 ≤ cnt (M.take j) h ∧ cnt (M.take j) h ≤ j := by
  unfold cnt
  have h1 := List.length_filter_le (fun b => decide (b = h)) (M.take j)
  have h2 := List.length_take_le j M
  omega
theorem run_eql_hop {a b c d p q r s : Int} (w : World) : (binOp .eql 37 (.agg #[.int .i64 a, .int .i64 b, .int .i64 c, .int .i64 d]) (.agg #[.int .i64 p, .int .i64 q, .int .i64 r, .int .i64 s])).run Try.prog w = .ok (.bool (decide ((⟨(a, b), c, d⟩ : Hop) = ⟨(p, q), r, s⟩))) w := by
  cases h1 : (a == p) <;> cases h2 : (b == q) <;> cases h3 : (c == r) <;> cases h4 : (d == s)
  all_goals simp at h1 h2 h3 h4
  all_goals simp [go_sem, run_equalIn_struct, Program.fieldsOf, Try.underlying37, Try.underlying34, h1, h2, h3, h4]

set_option maxRecDepth 100000 in
set_option maxHeartbeats 8000000 in
theorem leads_back (A0 : Option Addr) (n0 c0 : Nat) (hn0 : n0 ≤ c0) (hc0 : c0 ≤ 9223372036854775807) (a1 : Int) (w1 : (Lit.int .i64 a1).wf = true) (w : World) (hI : Ints w w.heap.size A0 n0) : Calls Try.prog 5 #[.slice A0 n0 c0, .int .i64 a1] w (Yes w) := by
  obtain ⟨b11, b12⟩ := bounds_i64 w1
  go_enter Try.func5, Try.ntmps5
  go_wp2_with fail
  refine (layout_any A0 n0 c0 w hI (by omega)).mono ?_
  rintro e wl ⟨v, L, rfl, hR, hv, hbl⟩
  have hst3 : v.n3 ≤ 100000 := by
    have := hR.sec.1
    unfold check at hv
    split at hv
    · cases hv
    · omega
  obtain ⟨W, hW, HZ, HB0, HBX⟩ := boxed v wl
  have HC := Lib.hid HBX
  have HBl := Lib.hid (hbl.trans (HB0.mono hbl.size))
  have hgW : wl.heap.size < W.heap.size := by rw [HZ.out]; omega
  have hwl := hbl.size
  have hRW := hR.grow HB0 HB0.size
  have HRW : Hid (∀ wx, Below W.heap.size W wx → RdL wx wx.heap.size v L) := fun wx hb => hRW.grow hb hb.size
  have HK : Hid (∀ wr, Below W.heap.size W wr → _) := fun wr hb => box_kept hb hgW HC.out
  have HV := Lib.hid hv
  have HW := Lib.hid hW
  clear hR hRW hbl HBX HB0 hv hW
  obtain ⟨A1, n1, c1, A2, n2, c2, A3, n3, c3, A4, n4, c4⟩ := v
  simp only [LV.val] at *
  go_upto_region 2 with fail
  rw [HW.out]
  clear HW
  have hb0 := Below.refl W.heap.size W
  obtain ⟨k0, k1, k2, k3⟩ := HK.out W hb0
  go_wp2_with fail
  refine (step_any ⟨A1, n1, c1, A2, n2, c2, A3, n3, c3, A4, n4, c4⟩ a1 _ b11 b12 hst3).mono ?_
  rintro e wq ⟨x, y, rfl, hbq⟩
  have hzq := hbq.size
  obtain ⟨W2, hW2⟩ : ∃ W2, wq.alloc (.cells #[.int .i64 x, .int .i64 y] 34) = W2 := ⟨_, rfl⟩
  have hb2 : Below wq.heap.size wq W2 := by rw [← hW2]; exact (Below.refl _ _).alloc (Nat.le_refl _) _
  have hz2 : wq.heap.size < W2.heap.size := by rw [← hW2]; simp
  have HST : Hid (Row2 W2 wq.heap.size x y) := by rw [Hid, ← hW2]; unfold Row2; simp
  have HBW := Lib.hid (hbq.trans (hb2.mono hzq))
  clear k0 k1 k2 k3 hbq hb2 hb0
  go_upto_region 3 with fail
  try rw [hW2]
  clear hW2
  obtain ⟨k0, k1, k2, k3⟩ := HK.out W2 HBW.out
  obtain ⟨q0, q1⟩ := HST.out
  go_wp2_with fail
  refine (p_hops ⟨A1, n1, c1, A2, n2, c2, A3, n3, c3, A4, n4, c4⟩ L (x, y) _ (HRW.out _ HBW.out)).mono ?_
  rintro e wh ⟨Ah, nh, ch, rfl, hOh, hbh⟩
  have HBH := Lib.hid (HBW.out.trans (hbh.mono HBW.out.size))
  have hzh := hbh.size
  have hnh : nh ≤ 2 := by rw [← hOh.1]; exact hops_few HV.out (x, y)
  have HRh := Lib.hid hOh.rd
  have HSTh := Lib.hid (HST.out.below hbh hz2)
  clear k0 k1 k2 k3 q0 q1 hOh hbh HST HBW
  go_wp2_with fail
  go_loopw [22] (fun i wr => ∃ k : Nat, k ≤ nh ∧ i = .int .i64 k ∧ Below wh.heap.size wh wr) (fun i _ => nh - (intOf i).toNat)
  case atStart => exact ⟨0, Nat.zero_le _, rfl, Below.refl _ _⟩
  case round =>
    obtain ⟨k, hk, rfl, hbr⟩ := hrel
    obtain ⟨wo, rfl⟩ : ∃ wo : World, wo = wr := ⟨_, rfl⟩
    have hzo := hbr.size
    have hwW := HBH.out.size
    have HBO := Lib.hid (HBH.out.trans (hbr.mono hwW))
    by_cases hlt : k < nh
    · obtain ⟨ad, h, rfl, hab, hs, d0, d1, d2, d3⟩ := loadHop (HRh.out.below hbr) hlt
      have HBK := Lib.hid (back_one HV.out (List.mem_of_getElem? hs))
      obtain ⟨⟨tx, ty⟩, hp, hs'⟩ := h
      simp only at d0 d1 d2 d3
      have hab2 : (ad.add (k * 4)).block < wo.heap.size := by rw [Mem.block_add]; omega
      have HSTo := Lib.hid (HSTh.out.below hbr (by omega))
      have KS : Hid (∀ w', Below wo.heap.size wo w' → w'.cell? ⟨wl.heap.size, 0, none⟩ = some (.slice A1 n1 c1) ∧ w'.cell? ⟨wl.heap.size, 1, none⟩ = some (.slice A2 n2 c2) ∧ w'.cell? ⟨wl.heap.size, 2, none⟩ = some (.slice A3 n3 c3) ∧ w'.cell? ⟨wl.heap.size, 3, none⟩ = some (.slice A4 n4 c4) ∧ w'.cell? (ad.add (k * 4)) = some (.int .i64 tx) ∧ w'.cell? ⟨(ad.add (k * 4)).block, (ad.add (k * 4)).off + 1, none⟩ = some (.int .i64 ty)) := fun w' hb => by
        obtain ⟨p0, p1, p2, p3⟩ := HK.out w' (HBO.out.trans (hb.mono (by omega)))
        exact ⟨p0, p1, p2, p3, (hb.cell hab2).trans d0, (hb.cell (p := ⟨_, _, none⟩) hab2).trans d1⟩
      have KD : Hid (∀ w', Below wo.heap.size wo w' → w'.cell? ⟨(ad.add (k * 4)).block, (ad.add (k * 4)).off + 2, none⟩ = some (.int .i64 hp) ∧ w'.cell? ⟨(ad.add (k * 4)).block, (ad.add (k * 4)).off + 3, none⟩ = some (.int .i64 hs') ∧ Row2 w' wq.heap.size x y) := fun w' hb => ⟨(hb.cell (p := ⟨_, _, none⟩) hab2).trans d2, (hb.cell (p := ⟨_, _, none⟩) hab2).trans d3, HSTo.out.below hb (by omega)⟩
      have HRV : Hid (∀ wx, Below wo.heap.size wo wx → RdL wx wx.heap.size ⟨A1, n1, c1, A2, n2, c2, A3, n3, c3, A4, n4, c4⟩ L) := fun wx hb => HRW.out wx (HBO.out.trans (hb.mono (by omega)))
      have HBR1 := Lib.hid hbr
      clear d0 d1 d2 d3 hs hbr HBO HSTo
      have hklt : (k : Int) < (nh : Int) := by omega
      go_upto_region 7 with fail
      have hb0 := Below.refl wo.heap.size wo
      go_region_held3 (fun w' => w'.cell? ⟨wl.heap.size, 0, none⟩ = some (.slice A1 n1 c1) ∧ w'.cell? ⟨wl.heap.size, 1, none⟩ = some (.slice A2 n2 c2) ∧ w'.cell? ⟨wl.heap.size, 2, none⟩ = some (.slice A3 n3 c3) ∧ w'.cell? ⟨wl.heap.size, 3, none⟩ = some (.slice A4 n4 c4) ∧ w'.cell? (ad.add (k * 4)) = some (.int .i64 tx) ∧ w'.cell? ⟨(ad.add (k * 4)).block, (ad.add (k * 4)).off + 1, none⟩ = some (.int .i64 ty))
        (first | exact KS.out _ hb0.drew | exact KS.out _ (hb0.drew.trans hbv) | exact KS.out _ ((hb0.drew.trans hbv).trans hbb1))
        ((first | (go_at_call 20; refine (reverse tx ty _).mono ?_; rintro e wv ⟨rfl, hbv0⟩; have hbv : Below wo.heap.size wo.drew wv := hbv0) | (go_at_call 11; refine (p_hops ⟨A1, n1, c1, A2, n2, c2, A3, n3, c3, A4, n4, c4⟩ L (rev (tx, ty)) _ (HRV.out _ (hb0.drew.trans hbv))).mono ?_; rintro e wb ⟨Ab, nb, cb, rfl, hOb, hbb⟩; have hbb1 : Below wo.heap.size wv wb := hbb.mono (hb0.drew.trans hbv).size)))
      have HBB := Lib.hid ((hb0.drew.trans hbv).trans hbb1)
      have hzb : wo.heap.size ≤ wb.heap.size := HBB.out.size
      have hnb : nb ≤ 2 := by rw [← hOb.1]; exact hops_few HV.out _
      have HRb := Lib.hid hOb.rd
      have HMl : Hid ((hopsOf L (rev (tx, ty))).length = nb) := hOb.1
      generalize hopsOf L (rev (tx, ty)) = M at HBK HRb HMl hOb
      clear hOb hbb hbb1 hbv hbv0 hb0 HRV KS
      go_wp2_with fail
      go_loopw [35, 10] (fun j n wr => ∃ (m : Nat) (c : Int), m ≤ nb ∧ 0 ≤ c ∧ c ≤ m ∧ j = .int .i64 m ∧ n = .int .i64 c ∧ Hid (c = cnt (M.take m) ⟨rev (x, y), hp, hs'⟩) ∧ Below wb.heap.size wb wr) (fun j _ _ => nb - (intOf j).toNat)
      case atStart => exact ⟨0, 0, Nat.zero_le _, by omega, by omega, rfl, rfl, rfl, Below.refl _ _⟩
      case round =>
        obtain ⟨m, c, hm, hc0, hcm, rfl, rfl, HCc, hbr⟩ := hrel
        have hzr := hbr.size
        by_cases hlt2 : m < nb
        · obtain ⟨ad2, b, rfl, hab3, hs2, d0, d1, d2, d3⟩ := loadHop (HRb.out.below hbr) hlt2
          have HCS := Lib.hid (cnt_step ⟨rev (x, y), hp, hs'⟩ hs2)
          obtain ⟨⟨bx, by1⟩, bp, bs⟩ := b
          simp only at d0 d1 d2 d3
          have hab4 : (ad2.add (m * 4)).block < wr.heap.size := by rw [Mem.block_add]; omega
          have HBR := Lib.hid (HBB.out.trans (hbr.mono (by omega)))
          have KS : Hid (∀ w', Below wr.heap.size wr w' → w'.cell? (ad2.add (m * 4)) = some (.int .i64 bx) ∧ w'.cell? ⟨(ad2.add (m * 4)).block, (ad2.add (m * 4)).off + 1, none⟩ = some (.int .i64 by1) ∧ w'.cell? ⟨(ad2.add (m * 4)).block, (ad2.add (m * 4)).off + 2, none⟩ = some (.int .i64 bp) ∧ w'.cell? ⟨(ad2.add (m * 4)).block, (ad2.add (m * 4)).off + 3, none⟩ = some (.int .i64 bs) ∧ w'.cell? ⟨wq.heap.size, 0, none⟩ = some (.int .i64 x) ∧ w'.cell? ⟨wq.heap.size, 1, none⟩ = some (.int .i64 y) ∧ w'.cell? ⟨(ad.add (k * 4)).block, (ad.add (k * 4)).off + 2, none⟩ = some (.int .i64 hp) ∧ w'.cell? ⟨(ad.add (k * 4)).block, (ad.add (k * 4)).off + 3, none⟩ = some (.int .i64 hs')) := fun w' hb => by
            obtain ⟨p2, p3, p0, p1⟩ := KD.out w' (HBR.out.trans (hb.mono (by omega)))
            exact ⟨(hb.cell hab4).trans d0, (hb.cell (p := ⟨_, _, none⟩) hab4).trans d1, (hb.cell (p := ⟨_, _, none⟩) hab4).trans d2, (hb.cell (p := ⟨_, _, none⟩) hab4).trans d3, p0, p1, p2, p3⟩
          clear d0 d1 d2 d3 hs2
          have hmlt : (m : Int) < (nb : Int) := by omega
          have heq : ∀ w, (binOp .eql 37 (.agg #[.int .i64 bx, .int .i64 by1, .int .i64 bp, .int .i64 bs]) (.agg #[.int .i64 (rev (x, y)).1, .int .i64 (rev (x, y)).2, .int .i64 hp, .int .i64 hs'])).run Try.prog w = .ok (.bool (decide ((⟨(bx, by1), bp, bs⟩ : Hop) = ⟨rev (x, y), hp, hs'⟩))) w := fun w => run_eql_hop w
          cases hdec : decide ((⟨(bx, by1), bp, bs⟩ : Hop) = ⟨rev (x, y), hp, hs'⟩) with
          | true =>
            rw [hdec] at heq HCS
            have HX : Hid (c + 1 = cnt (M.take (m + 1)) ⟨rev (x, y), hp, hs'⟩) := by rw [Hid, HCS.out, ← HCc.out]; simp
            clear hdec
            go_upto_region 12 with fail
            have hb0 := Below.refl wr.heap.size wr
            go_region_held3 (fun w' => w'.cell? (ad2.add (m * 4)) = some (.int .i64 bx) ∧ w'.cell? ⟨(ad2.add (m * 4)).block, (ad2.add (m * 4)).off + 1, none⟩ = some (.int .i64 by1) ∧ w'.cell? ⟨(ad2.add (m * 4)).block, (ad2.add (m * 4)).off + 2, none⟩ = some (.int .i64 bp) ∧ w'.cell? ⟨(ad2.add (m * 4)).block, (ad2.add (m * 4)).off + 3, none⟩ = some (.int .i64 bs) ∧ w'.cell? ⟨wq.heap.size, 0, none⟩ = some (.int .i64 x) ∧ w'.cell? ⟨wq.heap.size, 1, none⟩ = some (.int .i64 y) ∧ w'.cell? ⟨(ad.add (k * 4)).block, (ad.add (k * 4)).off + 2, none⟩ = some (.int .i64 hp) ∧ w'.cell? ⟨(ad.add (k * 4)).block, (ad.add (k * 4)).off + 3, none⟩ = some (.int .i64 hs'))
              (first | exact KS.out _ hb0.drew | exact KS.out _ (hb0.drew.trans hbv))
              ((go_at_call 20; refine (reverse x y _).mono ?_; rintro e wv ⟨rfl, hbv0⟩; have hbv : Below wr.heap.size wr.drew wv := hbv0))
            have HNB := Lib.hid (hbr.trans ((hb0.drew.trans hbv).mono hzr))
            clear hbv hbv0 hb0 heq
            go_wp2_with fail
            go_roundw
            case rel => exact ⟨m + 1, c + 1, by omega, by omega, by omega, by go_num, rfl, HX, HNB.out⟩
            case measure => simp [intOf]; omega
          | false =>
            rw [hdec] at heq HCS
            have HX : Hid (c = cnt (M.take (m + 1)) ⟨rev (x, y), hp, hs'⟩) := by rw [Hid, HCS.out, ← HCc.out]; simp
            clear hdec
            go_upto_region 12 with fail
            have hb0 := Below.refl wr.heap.size wr
            go_region_held3 (fun w' => w'.cell? (ad2.add (m * 4)) = some (.int .i64 bx) ∧ w'.cell? ⟨(ad2.add (m * 4)).block, (ad2.add (m * 4)).off + 1, none⟩ = some (.int .i64 by1) ∧ w'.cell? ⟨(ad2.add (m * 4)).block, (ad2.add (m * 4)).off + 2, none⟩ = some (.int .i64 bp) ∧ w'.cell? ⟨(ad2.add (m * 4)).block, (ad2.add (m * 4)).off + 3, none⟩ = some (.int .i64 bs) ∧ w'.cell? ⟨wq.heap.size, 0, none⟩ = some (.int .i64 x) ∧ w'.cell? ⟨wq.heap.size, 1, none⟩ = some (.int .i64 y) ∧ w'.cell? ⟨(ad.add (k * 4)).block, (ad.add (k * 4)).off + 2, none⟩ = some (.int .i64 hp) ∧ w'.cell? ⟨(ad.add (k * 4)).block, (ad.add (k * 4)).off + 3, none⟩ = some (.int .i64 hs'))
              (first | exact KS.out _ hb0.drew | exact KS.out _ (hb0.drew.trans hbv))
              ((go_at_call 20; refine (reverse x y _).mono ?_; rintro e wv ⟨rfl, hbv0⟩; have hbv : Below wr.heap.size wr.drew wv := hbv0))
            have HNB := Lib.hid (hbr.trans ((hb0.drew.trans hbv).mono hzr))
            clear hbv hbv0 hb0 heq
            go_wp2_with fail
            go_roundw
            case rel => exact ⟨m + 1, c, by omega, by omega, by omega, by go_num, rfl, HX, HNB.out⟩
            case measure => simp [intOf]; omega
        · obtain rfl : c = 1 := by
            have h1 := HBK.out
            have h2 := HCc.out
            rw [List.take_of_length_le (by have := HMl.out; omega)] at h2
            rw [h2]
            unfold cnt
            rw [h1]
            rfl
          have HNB := Lib.hid (HBR1.out.trans ((HBB.out.trans (hbr.mono (by omega))).mono (by omega)))
          clear hbr
          go_wp2_with fail
          go_roundw
          case rel => exact ⟨k + 1, by omega, by go_num, HNB.out⟩
          case measure => simp [intOf]; omega
    · have hle : decide ((nh : Int) ≤ 2) = true := by simp; omega
      have hle2 : (nh : Int) ≤ 2 := by omega
      have HNB := Lib.hid (HBl.out.trans (HBO.out.mono (by have := HZ.out; omega)))
      clear hbr HBO
      go_wp2_with fail
      refine (awake_any _).mono ?_
      rintro e wa ⟨rfl, hba⟩
      go_wp2_with fail
      go_ret
      exact ⟨rfl, HNB.out.trans (hba.mono HNB.out.size)⟩
end Go.Proofs.Ytdcbaedhgoipjaa.HRev
