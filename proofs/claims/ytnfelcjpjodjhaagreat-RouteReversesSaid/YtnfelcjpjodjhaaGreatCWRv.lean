/-
  The walk of the statement that a reversed route is a route with the same resources.
-/
import Derived.Test.YtnfelcjpjodjhaaGreatMP
import Derived.Test.YtnfelcjpjodjhaaGreatMQ
import Derived.Test.YtnfelcjpjodjhaaGreatML
import Derived.Test.YtnfelcjpjodjhaaGreatMO
import Derived.Deep.RegionHeld3
import Derived.Deep.AppendLies
namespace Go.Proofs.YtnfelcjpjodjhaaGreat.WRv
open Go.ChangeShapes Go.WideShapes Go.ChangeAt Go.RowKit Wd Small Mem Lay LayT Recs Keep Names PNames PSecs PEnds PCheck PStep PHops RNames Src Dec Rt RtR RtW RtS RtV PTra PCls Maker Awake Awk7 RteK PRes RRev SameI
set_option linter.unusedVariables false

theorem back_take (S : List Lay.Step) (i : Nat) (a : Lay.Step) (h : S[i]? = some a) : back (S.drop (i + 1)) ++ [rev a] = back (S.drop i) := by
  have hlt := (List.getElem?_eq_some_iff.1 h).1
  have e : S.drop i = a :: S.drop (i + 1) := by rw [← (List.getElem?_eq_some_iff.1 h).2]; exact List.drop_eq_getElem_cons hlt
  rw [e, back_cons]

/-- a route in block g, behind a write to its overlap: nothing below is changed -/
theorem puto_below {W : World} {g B : Nat} {z : Int} (hB : B ≤ g) : Below B W (W.setCell ⟨g, 1, none⟩ (.int .i64 z)) := (Below.refl B W).setCell hB _

set_option maxRecDepth 100000 in
set_option maxHeartbeats 8000000 in
theorem reverses (A1 : Option Addr) (n1 c1 : Nat) (A2 : Option Addr) (n2 c2 : Nat) (w : World) (h1 : Ints w w.heap.size A1 n1) (h2 : Ints w w.heap.size A2 n2) (hn1 : n1 ≤ 9223372036854775807) (hn2 : n2 ≤ 9223372036854775807) : Calls Tryz.prog 5 #[.slice A1 n1 c1, .slice A2 n2 c2] w (Yes w) := by
  obtain ⟨ih, hih, hz0, hz1, hz2⟩ := info_parts infoStp
  go_enter Tryz.func5, Tryz.ntmps5
  go_wp2_with fail
  refine (layout_any A1 n1 c1 w h1 hn1).mono ?_
  rintro e w1 ⟨v, l, rfl, hL, hck, hb1⟩
  obtain ⟨W2, hW2, HZ2, hb2, hbx2⟩ := boxed v w1
  have HL2 := Lib.hid (hL.grow hb2 hb2.size)
  have HK : Hid (∀ wr, Below W2.heap.size W2 wr → _) := fun wr hb => box_kept hb (show w1.heap.size < W2.heap.size by rw [HZ2.out]; omega) hbx2
  have HB2 := Lib.hid (hb1.trans (hb2.mono hb1.size))
  have HCK := Lib.hid hck
  have hI2 : Ints W2 W2.heap.size A2 n2 := fun j hj => by
    obtain ⟨ad, z, e, h3, h4⟩ := (h2.below (hb1.trans (hb2.mono hb1.size))) j hj
    exact ⟨ad, z, e, by have := hb1.size; have := hb2.size; omega, h4⟩
  have HR := Lib.hid (route_any v l A2 n2 c2 W2 HL2.out hck hI2 hn2)
  obtain ⟨B1, m1, d1, B2, m2, d2, B3, m3, d3, B4, m4, d4⟩ := v
  simp only [LV.val] at *
  clear hL hck hb1 hb2 h1 h2 hI2
  obtain ⟨b0, b1, b2, b3⟩ := hbx2
  go_upto_region 2 with fail
  try rw [hW2]
  clear hW2
  go_wp2_with fail
  refine HR.out.mono ?_
  rintro e w3 ⟨A, n, c, S, ov, rfl, hO, hWK, hn7, hov0, hov2, hov3, hb3⟩
  obtain ⟨W4, hW4⟩ : ∃ W4, w3.alloc (.cells #[.slice A n c, .int .i64 ov] 29) = W4 := ⟨_, rfl⟩
  have hb4 : Below w3.heap.size w3 W4 := by rw [← hW4]; exact (Below.refl _ _).alloc (Nat.le_refl _) _
  have hr4 : RBox W4 w3.heap.size A n c ov := by rw [← hW4]; exact heap_alloc_new _ _
  obtain ⟨r0, r1, f0, f1, hlt4⟩ := hr4.cells
  obtain ⟨W5, hW5⟩ : ∃ W5, W4.setCell ⟨w3.heap.size, 1, none⟩ (.int .i64 0) = W5 := ⟨_, rfl⟩
  have hr5 : RBox W5 w3.heap.size A n c 0 := by rw [← hW5]; exact hr4.puto
  have hb5 : Below w3.heap.size w3 W5 := by rw [← hW5]; exact hb4.trans (puto_below (Nat.le_refl _))
  have hz5 : W5.heap.size = w3.heap.size + 1 := by rw [← hW5, ← hW4]; simp [World.setCell]
  obtain ⟨W6, hW6⟩ : ∃ W6, W5.alloc (.cells #[.slice none 0 0, .int .i64 0] 29) = W6 := ⟨_, rfl⟩
  have hb6 : Below W5.heap.size W5 W6 := by rw [← hW6]; exact (Below.refl _ _).alloc (Nat.le_refl _) _
  have hz6 : W6.heap.size = w3.heap.size + 2 := by rw [← hW6]; simp [hz5]
  have hr6 : RBox W6 (w3.heap.size + 1) none 0 0 0 := by rw [← hW6, ← hz5]; exact heap_alloc_new _ _
  have hS := hO.rd
  have hSn := hO.1
  obtain ⟨hnc, hc63⟩ : n ≤ c ∧ c ≤ maxLen := by obtain ⟨_, _, e, h1, h2⟩ := hO.form; injection e; subst_vars; exact ⟨h1, h2⟩
  have hn1' : 1 ≤ n := by have := List.length_pos_iff.2 hWK.ne; omega
  have HB36 := Lib.hid (hb5.trans (hb6.mono (by omega)))
  have HRT := Lib.hid ((hb6.block w3.heap.size (by omega)).trans hr5)
  have HR6 := Lib.hid hr6
  have HZ6 := Lib.hid hz6
  have HS3 := Lib.hid hS
  have HWK := Lib.hid hWK
  have HB3 := Lib.hid hb3
  go_upto_region 3 with fail
  try rw [hW4]
  go_upto_region 4 with fail
  try rw [hW5]
  go_upto_region 5 with fail
  try rw [hW6]
  clear hW4 hW5 hW6 hr4 hr5 hr6 hb4 hb5 hb6 hS hO hb3 hWK b0 b1 b2 b3 r0 r1 f0 f1 HR
  obtain ⟨r0, r1, -, -, -⟩ := (show RBox W6 w3.heap.size A n c 0 from HRT.out).cells
  have hwn : IntKind.i64.wrap ((n : Int) - 1) = (n : Int) - 1 := by rw [IntKind.wrap_i64]; omega
  go_wp2_with fail
  clear r0 r1
  go_loopw [8] (fun i wr => ∃ (k c' : Nat) (A' : Option Addr) (z : Int), k ≤ n ∧ i = .int .i64 z ∧ z = (k : Int) - 1 ∧ Hid (RBox wr (w3.heap.size + 1) A' (n - k) c' 0) ∧ Hid (Own stpR wr (w3.heap.size + 2) (.slice A' (n - k) c') (n - k) (back (S.drop k))) ∧ Hid (Below (w3.heap.size + 1) W6 wr)) (fun i _ => (intOf i + 1).toNat)
  case atStart => exact ⟨n, 0, none, _, Nat.le_refl _, rfl, rfl, by rw [Nat.sub_self]; exact HR6, by rw [Nat.sub_self, List.drop_of_length_le (by omega)]; exact Own.nil _ _, Below.refl _ _⟩
  case round =>
    obtain ⟨k, c', A', z, hk, rfl, hzk, HRB, HO, HBr⟩ := hrel
    have hlt6 : w3.heap.size + 1 < wr.heap.size := HRB.out.cells.2.2.2.2
    have hrt : RBox wr w3.heap.size A n c 0 := (HBr.out.block w3.heap.size (by omega)).trans HRT.out
    have HB3r := Lib.hid (HB36.out.trans (HBr.out.mono (by omega)))
    by_cases hpos : 0 < k
    · obtain ⟨q, rfl⟩ : ∃ q, k = q + 1 := ⟨k - 1, by omega⟩
      obtain rfl : z = (q : Int) := by omega
      clear hzk
      obtain ⟨ad, x, y, rfl, hab, hs, e0, e1⟩ := loadStp (HS3.out.below HB3r.out) (show q < n by omega)
      obtain ⟨r0, -, -, -, -⟩ := hrt.cells
      obtain ⟨k0, k1, kf0, kf1, -⟩ := HRB.out.cells
      have HST : Hid (back (S.drop (q + 1)) ++ [rev (x, y)] = back (S.drop q)) := back_take S q (x, y) hs
      have hqn : (q : Int) < (n : Int) := by omega
      have hq0 : (0 : Int) ≤ (q : Int) := by omega
      have hnk : n - q = n - (q + 1) + 1 := by omega
      obtain ⟨m, hm⟩ : ∃ m, n - (q + 1) = m := ⟨_, rfl⟩
      rw [hm] at HRB HO k0 hnk
      have hm7 : m ≤ 7 := by omega
      have hab' : (ad.add (q * 2)).block < wr.heap.size := by rw [Mem.block_add]; have := HB3r.out.size; omega
      obtain ⟨ra, rb, hrv⟩ : ∃ ra rb, rev (x, y) = (ra, rb) := ⟨_, _, rfl⟩
      have HRV := Lib.hid (fun wx => r_reverse x y wx)
      rw [hrv] at HRV HST
      have hn63 : m + 1 ≤ maxLen := by unfold maxLen; omega
      have hby : (m + 1) * 16 ≤ 140737488355328 := by omega
      clear hs hrv hrt
      go_upto_region 8 with fail
      have hb0 := Below.refl wr.heap.size wr
      have KQ : Hid (∀ wq, Below wr.heap.size wr wq → wq.cell? ⟨w3.heap.size + 1, 0, none⟩ = some (.slice A' m c') ∧ wq.cell? ⟨w3.heap.size, 0, none⟩ = some (.slice (some ad) n c) ∧ RBox wq (w3.heap.size + 1) A' m c' 0 ∧ w3.heap.size + 1 < wq.heap.size) := fun wq hb =>
        ⟨(hb.cell (p := ⟨w3.heap.size + 1, 0, none⟩) hlt6).trans k0, (hb.cell (p := ⟨w3.heap.size, 0, none⟩) (by show w3.heap.size < _; omega)).trans r0, (hb.block _ hlt6).trans HRB.out, by have := hb.size; omega⟩
      go_region_law (first | (refine step_append_lies _ (by rfl) _ _ _ (by rfl) (w3.heap.size + 2) 39 ih _ 2 16 Tryz.underlying27 hih hz0 hz1 hz2 rfl (by omega) (.slice A' m c') m (stpR.cs (back (S.drop (q + 1)))) (by rfl) ((HO.out.below (hb0.drew.trans (hbq.mono (by simp))) (Nat.le_refl _)).2.alloc _) ⟨wq.heap.size, 0, none⟩ 1 1 [.int .i64 ra, .int .i64 rb] (by rfl) (by rfl) (World.news_of_block (cs := #[.int .i64 ra, .int .i64 rb]) (t := 39) (fr := (0, 0)) (heap_alloc_new wq _)) (by simp [Value.oneCell']) (by omega) hn63 hby (by simp; omega) (wq.heap.size + 1) (by simp) ?_; intro gg cap w7 hown7 hgrow7 hat7 hlt7; have hg7 : w7.heap[w3.heap.size + 1]? = wq.heap[w3.heap.size + 1]? := (hgrow7.block (w3.heap.size + 1) (by simp; omega) (fun e => by have := (HO.out.2.lt _ e.symm).1; omega)).trans (((Below.refl wq.heap.size wq).alloc (Nat.le_refl _) _).block (w3.heap.size + 1) (by omega)); have hr7 : RBox w7 (w3.heap.size + 1) A' m c' 0 := hg7.trans hrq; obtain ⟨k7, -, f7, -, l7⟩ := hr7.cells) | (go_simp; go_at_call 15; refine (HRV.out _).mono ?_; rintro e wq ⟨rfl, hbq⟩; obtain ⟨kq0, kq1, hrq, hlq⟩ := KQ.out wq (hb0.drew.trans (hbq.mono (by simp)))))
      all_goals
        have hO7 := Own.push (R := stpR) (a := (ra, rb)) HO.out.1 hown7
        rw [HST.out] at hO7
        have HO7 := Lib.hid hO7
        have HR7 := Lib.hid hr7
        have HB7 : Hid (Below (w3.heap.size + 1) W6 w7) := ((HBr.out.trans (hb0.drew.trans (hbq.mono (by simp)) |>.mono (by omega))).alloc (by omega) (.cells #[.int .i64 ra, .int .i64 rb] 39)).grown hgrow7 (by simp; omega) (fun k hk => by have := (HO.out.2.lt k hk).1; omega)
        clear hown7 hgrow7 hat7 hlt7 hg7 hO7 hr7
        go_wp2_with fail
        go_roundw
        case rel => exact ⟨q, cap, some ⟨gg, 0, none⟩, _, by omega, rfl, by go_num, by rw [hnk]; exact HR7.out.put, by rw [hnk]; exact own_past HO7.out (fun e => by have := (HO7.out.2.lt _ e).1; omega), HB7.out.setCell (Nat.le_refl _) _⟩
        case measure => first | (simp [intOf]; done) | (simp [intOf]; omega)
    · obtain rfl : k = 0 := by omega
      obtain rfl : z = -1 := by omega
      clear hzk
      rw [Nat.sub_zero] at HRB
      rw [Nat.sub_zero, List.drop_zero] at HO
      have hck' : n ≤ c' ∧ c' ≤ maxLen := by
        rcases HO.out.form with ⟨A1', c1', e, h1, h2⟩
        injection e with e1 e2 e3
        subst e3
        exact ⟨h1, h2⟩
      have hbl : (back S).length = n := HO.out.1
      have HOR := Lib.hid HO.out.rd
      have HX : Hid (∀ wx, Below wr.heap.size wr wx → (wx.cell? ⟨w1.heap.size, 0, none⟩ = some (.slice B1 m1 d1) ∧ wx.cell? ⟨w1.heap.size, 1, none⟩ = some (.slice B2 m2 d2) ∧ wx.cell? ⟨w1.heap.size, 2, none⟩ = some (.slice B3 m3 d3) ∧ wx.cell? ⟨w1.heap.size, 3, none⟩ = some (.slice B4 m4 d4)) ∧ RBox wx w3.heap.size A n c 0 ∧ RBox wx (w3.heap.size + 1) A' n c' 0 ∧ RdL wx wx.heap.size ⟨B1, m1, d1, B2, m2, d2, B3, m3, d3, B4, m4, d4⟩ l ∧ Rd stpR wx wx.heap.size A n S ∧ Rd stpR wx wx.heap.size A' n (back S) ∧ Below w.heap.size w wx) := fun wx hb => by
        have h3x := HB3r.out.trans (hb.mono HB3r.out.size)
        have h2x := HB3.out.trans (h3x.mono HB3.out.size)
        exact ⟨HK.out wx h2x, (hb.block _ (by omega)).trans hrt, (hb.block _ hlt6).trans HRB.out, HL2.out.grow h2x h2x.size, HS3.out.grow h3x h3x.size, HOR.out.grow hb hb.size, HB2.out.trans (h2x.mono HB2.out.size)⟩
      have HC1 : Hid (∀ wx, Below wr.heap.size wr wx → Calls Tryz.prog 17 #[LV.val ⟨B1, m1, d1, B2, m2, d2, B3, m3, d3, B4, m4, d4⟩, rteV A n c 0] wx (ResPost (rres l ⟨S, 0⟩) wx)) := fun wx hb => by
        obtain ⟨-, -, -, h4, h5, h6, -⟩ := HX.out wx hb
        exact p_rres _ l A n c S 0 wx h4 h5 hnc (by unfold maxLen at hc63; omega) (by decide) (by decide)
      have HC2 : Hid (∀ wx, Below wr.heap.size wr wx → Calls Tryz.prog 17 #[LV.val ⟨B1, m1, d1, B2, m2, d2, B3, m3, d3, B4, m4, d4⟩, rteV A' n c' 0] wx (ResPost (rres l ⟨back S, 0⟩) wx)) := fun wx hb => by
        obtain ⟨-, -, -, h4, h5, h6, -⟩ := HX.out wx hb
        exact p_rres _ l A' n c' (back S) 0 wx h4 h6 hck'.1 (by have := hck'.2; unfold maxLen at this; omega) (by decide) (by decide)
      have HC3 : Hid (∀ wx, Below wr.heap.size wr wx → Calls Tryz.prog 16 #[LV.val ⟨B1, m1, d1, B2, m2, d2, B3, m3, d3, B4, m4, d4⟩, rteV A' n c' 0] wx (ErrPost (rerr l ⟨back S, 0⟩) wx)) := fun wx hb => by
        obtain ⟨-, -, -, h4, h5, h6, -⟩ := HX.out wx hb
        exact p_rcheck _ l A' n c' (back S) 0 wx h4 h6 hck'.1 (by have := hck'.2; unfold maxLen at this; omega) (by decide) (by decide)
      simp only [LV.val, rteV] at HC1 HC2 HC3
      have hb0 := Below.refl wr.heap.size wr
      obtain ⟨r0, r1, -, -, -⟩ := hrt.cells
      obtain ⟨b0, b1, b2, b3⟩ := (HX.out wr hb0).1
      clear hrt
      by_cases hfew : n < 2
      · have hfew' : (n : Int) < 2 := by omega
        have E4 : rerr l ⟨back S, 0⟩ = 4 := by
          unfold rerr
          rw [if_neg (fun h => h HCK.out), if_neg (by simp only; omega), if_pos (.inr (.inl (by simp only; omega)))]
        rw [E4] at HC3
        clear b0 b1 b2 b3
        go_wp2_with fail
        refine (awake7 _).mono ?_
        rintro e w8 ⟨rfl, hb8⟩
        clear r0 r1
        obtain ⟨⟨b0, b1, b2, b3⟩, -, k1, -⟩ := HX.out w8 hb8
        obtain ⟨k0, k1, -, -, -⟩ := k1.cells
        go_wp2_with fail
        refine (HC3.out _ hb8).mono ?_
        rintro e w9 ⟨rfl, hb9⟩
        go_wp2_with fail
        go_ret
        exact ⟨rfl, (HX.out _ (hb8.trans (hb9.mono hb8.size))).2.2.2.2.2.2⟩
      · have hfew' : ¬ (n : Int) < 2 := by omega
        obtain ⟨e1, e2, e3⟩ := back_res HCK.out HWK.out (by omega) (by omega)
        have e4 : rres l ⟨S, 0⟩ = ((rres l ⟨S, 0⟩).1, 0) := by unfold rres; rw [if_neg (fun h => h e1)]
        rw [e2] at HC3
        rw [← e3, e4] at HC2
        rw [e4] at HC1
        generalize (rres l ⟨S, 0⟩).1 = R at HC1 HC2
        go_wp2_with fail
        refine (HC1.out _ hb0).mono ?_
        rintro e w8 ⟨Aa, na, ca, rfl, hOa, hb8⟩
        have HRA := Lib.hid hOa.rd
        have hna := hOa.1
        have hna63 : na ≤ 9223372036854775807 := by
          rcases hOa.form with ⟨A1', c1', e, h1, h2⟩
          unfold maxLen at h2
          omega
        clear b0 b1 b2 b3 r0 r1 hOa
        obtain ⟨⟨b0, b1, b2, b3⟩, -, k1, -⟩ := HX.out w8 hb8
        obtain ⟨k0, k1, -, -, -⟩ := k1.cells
        go_wp2_with fail
        refine (HC2.out _ hb8).mono ?_
        rintro e w9 ⟨Ab, nb, cb, rfl, hOb, hb9⟩
        have HRB9 := Lib.hid hOb.rd
        have hnb := hOb.1
        have hb89 := hb8.trans (hb9.mono hb8.size)
        clear b0 b1 b2 b3 k0 k1 hOb
        go_wp2_with fail
        refine (awake7 _).mono ?_
        rintro e w10 ⟨rfl, hb10⟩
        have hb810 := hb89.trans (hb10.mono hb89.size)
        obtain ⟨⟨b0, b1, b2, b3⟩, -, k1, -⟩ := HX.out w10 hb810
        obtain ⟨k0, k1, -, -, -⟩ := k1.cells
        go_wp2_with fail
        refine (HC3.out _ hb810).mono ?_
        rintro e w11 ⟨rfl, hb11⟩
        have hb811 := hb810.trans (hb11.mono hb810.size)
        have hb9b := hb10.trans (hb11.mono hb10.size)
        have hb8b := hb9.trans (hb9b.mono hb9.size)
        obtain rfl : na = nb := by rw [← hna, ← hnb]
        clear b0 b1 b2 b3 k0 k1
        have HSM := Lib.hid (same_int Aa na ca Ab cb R w11 (HRA.out.grow hb8b hb8b.size) (HRB9.out.grow hb9b hb9b.size) hna63)
        go_wp2_with fail
        refine HSM.out.mono ?_
        rintro e w12 ⟨rfl, hb12⟩
        go_wp2_with fail
        go_ret
        exact ⟨rfl, (HX.out _ (hb811.trans (hb12.mono hb811.size))).2.2.2.2.2.2⟩
end Go.Proofs.YtnfelcjpjodjhaaGreat.WRv
