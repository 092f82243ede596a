/-
  Contract of the document's own function that reads the text of a layout.
-/
import Derived.Test.YtdcbaedhgoipjaaRTxt
import Derived.Test.YtdcbaedhgoipjaaRLines
import Derived.Test.YtdcbaedhgoipjaaRCheck
import Derived.Test.YtdcbaedhgoipjaaPPar
namespace Go.Proofs.Ytdcbaedhgoipjaa.RPar
open Go.ChangeShapes Go.WideShapes Go.ChangeAt Go.RowKit Wd Small Mem Lay LayT Recs Keep Names PNames PSecs PEnds RNames RCheck Num Txt App Dft RDft RDLine Lin Bnd PLines RLines PPar
set_option linter.unusedVariables false

theorem dq_rd {w : World} {g k : Nat} {l : Lay} {v : LV} (h : Dq w g k l v) (hk : k ≤ 100000) : RdL w w.heap.size v l :=
  ⟨h.st.rd, h.pt.rd, h.sec.rd, h.lnk.rd, by have := h.b1; omega, by have := h.b2; omega, by have := h.b3; omega, by have := h.b4; omega, fun s hs => by have := h.z1 s hs; omega, fun s hs => by have := h.z2 s hs; omega, fun s hs => by have := h.z3 s hs; omega⟩
theorem dq_set4 {w w5 : World} {g k r : Nat} {l : Lay} {v : LV} {v0 v1 v2 v3 : Value} (h : Dq w g k l v) (hb : Below w.heap.size w w5) (hk : k ≤ 100000) (hr : r < g + 1) :
    RdL ((((w5.setCell ⟨r, 0, none⟩ v0).setCell ⟨r, 1, none⟩ v1).setCell ⟨r, 2, none⟩ v2).setCell ⟨r, 3, none⟩ v3) ((((w5.setCell ⟨r, 0, none⟩ v0).setCell ⟨r, 1, none⟩ v1).setCell ⟨r, 2, none⟩ v2).setCell ⟨r, 3, none⟩ v3).heap.size v l := by
  have h5 := h.below hb
  have o : ∀ {α : Type} {R : Rec α} {u : Value} {n : Nat} {L : List α}, Recs.Own R w5 (g + 1) u n L → Recs.Own R ((((w5.setCell ⟨r, 0, none⟩ v0).setCell ⟨r, 1, none⟩ v1).setCell ⟨r, 2, none⟩ v2).setCell ⟨r, 3, none⟩ v3) (g + 1) u n L := fun ho => Bldr.own_set (Bldr.own_set (Bldr.own_set (Bldr.own_set ho hr) hr) hr) hr
  exact ⟨(o h5.st).rd, (o h5.pt).rd, (o h5.sec).rd, (o h5.lnk).rd, by have := h.b1; omega, by have := h.b2; omega, by have := h.b3; omega, by have := h.b4; omega, fun s hs => by have := h.z1 s hs; omega, fun s hs => by have := h.z2 s hs; omega, fun s hs => by have := h.z3 s hs; omega⟩
theorem row_low {w : World} {n base c : Nat} {ad : Addr} {T : List (List W)} (h : OwnL w base (.slice (some ad) n c) n T) : base ≤ ad.block := by
  obtain ⟨us, h1, h2, h3⟩ := h
  exact (h2.lt ad.block (by simp [Value.ownBlock])).1
theorem cell_past {w : World} {b j : Nat} {v : Value} {q : Addr} (h : q.block ≠ b) : (w.setCell ⟨b, j, none⟩ v).cell? q = w.cell? q := World.cell?_setCell_other _ _ _ _ (fun e => h (by first | rw [← e] | rw [e]))
theorem cell_past4 {w : World} {b : Nat} {v0 v1 v2 v3 : Value} {q : Addr} (h : q.block ≠ b) : ((((w.setCell ⟨b, 0, none⟩ v0).setCell ⟨b, 1, none⟩ v1).setCell ⟨b, 2, none⟩ v2).setCell ⟨b, 3, none⟩ v3).cell? q = w.cell? q := by
  rw [cell_past h, cell_past h, cell_past h, cell_past h]
theorem new_dq (w : World) : Dq (w.alloc (.cells #[.slice none 0 0, .slice none 0 0, .slice none 0 0, .slice none 0 0] 26)) w.heap.size 0 zero nilV :=
  ⟨heap_alloc_new _ _, Recs.Own.nil _ _, Recs.Own.nil _ _, Recs.Own.nil _ _, Recs.Own.nil _ _, fun b hb => by simp [nilV, Value.ownBlock] at hb, by decide, by decide, by decide, by decide, nofun, nofun, nofun⟩

set_option maxRecDepth 100000 in
set_option maxHeartbeats 8000000 in
theorem r_parse (s : ByteArray) (w : World) (hs : s.size ≤ 9223372036854775807) : Calls Try.prog 37 #[.string s] w (ParPost (parse (bs s)) w) := by
  obtain ⟨W, hW⟩ : ∃ W, w.alloc (.cells #[.slice none 0 0, .slice none 0 0, .slice none 0 0, .slice none 0 0] 26) = W := ⟨_, rfl⟩
  have hbW : Below w.heap.size w W := by rw [← hW]; exact (Below.refl _ _).alloc (Nat.le_refl _) _
  have hzW : w.heap.size < W.heap.size := by rw [← hW]; simp
  have hx : W.heap[w.heap.size]? = some (.cells #[.slice none 0 0, .slice none 0 0, .slice none 0 0, .slice none 0 0] 26) := by rw [← hW]; exact heap_alloc_new _ _
  have HX := Lib.hid hx
  have HB := Lib.hid hbW
  have HL := Lib.hid (r_lines s W hs)
  have HMX := Lib.hid (lines_max (bs s))
  have EP : Hid (parse (bs s) = if (linesOf (bs s)).2.2 = 0 then fold zero (linesOf (bs s)).1 else (zero, (linesOf (bs s)).2.1, (linesOf (bs s)).2.2)) := rfl
  generalize parse (bs s) = R at *
  obtain ⟨L, num, er, hLL⟩ : ∃ L num er, linesOf (bs s) = (L, num, er) := ⟨_, _, _, rfl⟩
  rw [hLL] at EP HMX
  unfold LinesPost at HL
  rw [hLL] at HL
  simp only at EP HMX HL
  clear hx hbW hLL
  cases her : decide (er = 0) with
  | false =>
    have h0 := of_decide_eq_false her
    have hne : ((er : Int) != 0) = true := by rw [bne_iff_ne]; exact h0
    have EQ : Hid (R = (zero, num, er)) := by rw [Hid, EP.out, if_neg h0]
    clear her h0 EP
    go_enter Try.func37, Try.ntmps37
    go_upto_region 1 with fail
    try rw [hW]
    clear hW
    go_wp2_with fail
    refine HL.out.mono ?_
    rintro e w1 ⟨A, nl, c, rfl, hO, hb1⟩
    have hx1 : w1.heap[w.heap.size]? = some (.cells #[.slice none 0 0, .slice none 0 0, .slice none 0 0, .slice none 0 0] 26) := (hb1.block w.heap.size hzW).trans HX.out
    obtain ⟨c0, c1, c2, c3, hf⟩ := four_cells hx1
    have f0 := hf 0
    have f1 := hf 1
    have f2 := hf 2
    have f3 := hf 3
    have HBE := Lib.hid (HB.out.trans (hb1.mono (by omega)))
    clear hf hx1 hb1 hO
    go_wp2_with fail
    obtain ⟨e0, e1, e2, e3⟩ := Maker.four_set (v0 := .slice none 0 0) (v1 := .slice none 0 0) (v2 := .slice none 0 0) (v3 := .slice none 0 0) c0 c1 c2 c3
    refine bodyPost_ret (v := .tuple #[.agg #[.slice none 0 0, .slice none 0 0, .slice none 0 0, .slice none 0 0], .int .i64 num, .int .i64 er]) ?_ rfl ?_
    · simp [results, Try.results37, go_sem, e0, e1, e2, e3]
    · exact ⟨nilV, by rw [EQ.out]; rfl, by rw [EQ.out]; exact nil_rd _ _, set4_below HBE.out (Nat.le_refl _)⟩
  | true =>
    obtain rfl := of_decide_eq_true her
    have EQ : Hid (R = fold zero (L.drop 0)) := by rw [Hid, EP.out, if_pos rfl]; rfl
    clear her EP
    go_enter Try.func37, Try.ntmps37
    go_upto_region 1 with fail
    try rw [hW]
    clear hW
    go_wp2_with fail
    refine HL.out.mono ?_
    rintro e w1 ⟨A, nl, c, rfl, hO, hb1⟩
    have hx1 : w1.heap[w.heap.size]? = some (.cells #[.slice none 0 0, .slice none 0 0, .slice none 0 0, .slice none 0 0] 26) := (hb1.block w.heap.size hzW).trans HX.out
    have HX1 := Lib.hid hx1
    have hz1 := hb1.size
    have HB1 := Lib.hid (HB.out.trans (hb1.mono (by omega)))
    have HO := Lib.hid hO
    have hnl : nl ≤ 65537 := by obtain ⟨us, h1, -⟩ := hO; have := HMX.out.2; omega
    clear hx1 hb1 hO
    obtain ⟨w2, hw2⟩ : ∃ w2, w1.alloc (.cells #[.slice none 0 0, .slice none 0 0, .slice none 0 0, .slice none 0 0] 26) = w2 := ⟨_, rfl⟩
    have HD2 : Hid (Dq w2 w1.heap.size 0 zero nilV) := by rw [Hid, ← hw2]; exact new_dq w1
    have HB2 : Hid (Below w1.heap.size w1 w2) := by rw [Hid, ← hw2]; exact (Below.refl _ _).alloc (Nat.le_refl _) _
    go_upto_region 5 with fail
    try rw [hw2]
    clear hw2
    go_wp2_with fail
    go_loopw [9] (fun i wr => ∃ (j : Nat) (l : Lay) (v : LV), j ≤ nl ∧ i = .int .i64 j ∧ Dq wr w1.heap.size j l v ∧ Hid (R = fold l (L.drop j)) ∧ Below w1.heap.size w1 wr) (fun i _ => nl - (intOf i).toNat)
    case atStart => exact ⟨0, zero, nilV, Nat.zero_le _, rfl, HD2.out, EQ, HB2.out⟩
    case round =>
      obtain ⟨j, l, v, hj, rfl, hD, HE, hbr⟩ := hrel
      have HD := Lib.hid hD
      have hzr := hbr.size
      have HBR := Lib.hid hbr
      have hx3 := (hbr.block w.heap.size (by omega)).trans HX1.out
      by_cases hlt : j < nl
      · obtain ⟨ad, x, A1, c1, rfl, hab, hxj, d0', hW0, hl1, hc1, hlow⟩ := load_low HO.out hlt
        have HLOW := Lib.hid hlow
        have HLOA := Lib.hid (row_low HO.out)
        have d0 := (hbr.cell (p := ad.add j) (by rw [Mem.block_add]; exact hab)).trans d0'
        have hW1 : Words wr wr.heap.size A1 x.length x := (hW0.below hbr).more hzr
        have HW0 := Lib.hid hW0
        have D0 := Lib.hid d0'
        clear d0' hW0 hlow
        have hfit := HMX.out.1 x (List.mem_of_getElem? hxj)
        have HN := Lib.hid (HE.out.trans (fold_next (l := l) hxj))
        have hji : (j : Int) < (nl : Int) := by omega
        have hlen := hfit.2.1
        have HFit := Lib.hid hfit
        obtain ⟨y, ys, rfl⟩ : ∃ y ys, x = y :: ys := by
          cases x with
          | nil => exact absurd rfl HFit.out.1
          | cons y ys => exact ⟨y, ys, rfl⟩
        obtain ⟨ad2, p, rfl, hab2, hp, x0, x1, x2⟩ := HW0.out.load (show 0 < (y :: ys).length by simp)
        obtain rfl : y = p := by simpa using hp
        have x1' : w1.cell? ⟨ad2.block, ad2.off + 1, none⟩ = some (.int .i64 y.2.1) := x1
        have HX1' := Lib.hid x1'
        have hgr := HD.out.blk.lt
        have HA := Lib.hid (r_declare (y :: ys).length w1.heap.size j l v ad2 c1 (y :: ys) wr HD.out hW1 (by omega) (fun t ht => HFit.out.2.2 t ht) (by omega))
        rw [show decl l (texts (y :: ys)) = decl l (y.1 :: texts ys) from rfl] at HN HA
        clear hD hxj hW1 hfit hbr HE hp x0 x1 x2 x1'
        simp only [List.length_cons] at HA d0 hlen
        go_wp2_with fail
        (with_reducible refine HA.out.mono ?_)
        rintro e w4 ⟨v4, rfl, hd4, hb4, hz4⟩
        have HD4 := Lib.hid hd4
        have HB4 := Lib.hid (HBR.out.trans hb4)
        clear hd4 hb4
        cases hdz : decide ((decl l (y.1 :: texts ys)).2 = 0) with
        | true =>
          have h0 := of_decide_eq_true hdz
          have HE4 : Hid (R = fold (decl l (y.1 :: texts ys)).1 (L.drop (j + 1))) := by rw [Hid, HN.out, if_pos h0]
          rw [h0]
          clear HN h0 hdz HA
          go_wp2_with fail
          go_roundw
          case rel => exact ⟨j + 1, _, v4, by omega, by go_num, HD4.out, HE4, HB4.out⟩
          case measure => simp [intOf]; omega
        | false =>
          have h0 := of_decide_eq_false hdz
          have HE4 : Hid (R = (zero, y.2.1, (decl l (y.1 :: texts ys)).2)) := by rw [Hid, HN.out, if_neg h0]; rfl
          have hne : (((decl l (y.1 :: texts ys)).2 : Int) != 0) = true := by rw [bne_iff_ne]; exact h0
          have x1' : w4.cell? ⟨ad2.block, ad2.off + 1, none⟩ = some (.int .i64 y.2.1) := (HB4.out.cell (p := ⟨ad2.block, ad2.off + 1, none⟩) hab2).trans HX1'.out
          have d4 := (HB4.out.cell (p := ad.add j) (by rw [Mem.block_add]; exact hab)).trans D0.out
          have hx4 := (HB4.out.block w.heap.size (by omega)).trans HX1.out
          obtain ⟨c0, c1', c2, c3', hf⟩ := four_cells hx4
          have f0 := hf 0
          have f1 := hf 1
          have f2 := hf 2
          have f3 := hf 3
          have hne2 : ¬ ad2.block = w.heap.size := by have := HLOW.out (by simp) ad2 rfl; omega
          have hne3 : ¬ ad.block = w.heap.size := by have := HLOA.out; omega
          have hjn : (j : Int) < (nl : Int) := by omega
          simp only [List.length_cons] at d4
          have d5 := (cell_past4 (w := w4) (b := w.heap.size) (v0 := .slice none 0 0) (v1 := .slice none 0 0) (v2 := .slice none 0 0) (v3 := .slice none 0 0) (q := ad.add j) (by rw [Mem.block_add]; exact hne3)).trans d4
          have hlen2 : (0 : Int) < ((ys.length + 1 : Nat) : Int) := by omega
          have HBE := Lib.hid (HB1.out.trans (HB4.out.mono (by have := HB1.out.size; omega)))
          generalize (decl l (y.1 :: texts ys)).2 = z at *
          clear HN h0 hdz HA hf hx4 d0
          go_upto_region 10 with fail
          go_region
          all_goals
            go_wp2_with fail
            obtain ⟨e0, e1, e2, e3⟩ := Maker.four_set (v0 := .slice none 0 0) (v1 := .slice none 0 0) (v2 := .slice none 0 0) (v3 := .slice none 0 0) c0 c1' c2 c3'
            refine bodyPost_ret (v := .tuple #[.agg #[.slice none 0 0, .slice none 0 0, .slice none 0 0, .slice none 0 0], .int .i64 y.2.1, .int .i64 z]) ?_ rfl ?_
            · simp [results, Try.results37, go_sem, e0, e1, e2, e3]
            · exact ⟨nilV, by rw [HE4.out]; rfl, by rw [HE4.out]; exact nil_rd _ _, (set4_below HBE.out (Nat.le_refl _)).drew⟩
      · have hji : ¬ (j : Int) < (nl : Int) := by omega
        have hLn : L.length ≤ j := by obtain ⟨us, h1, -⟩ := HO.out; omega
        have HEX : Hid (R = if check l = 0 then (l, 0, 0) else (zero, 0, check l)) := by rw [Hid, HE.out, List.drop_of_length_le hLn]; rfl
        have HCK := Lib.hid (r_check v l wr (dq_rd hD (by omega)))
        have g0 := hD.blk.c0
        have g1 := hD.blk.c1
        have g2 := hD.blk.c2
        have g3 := hD.blk.c3
        have hgw := hD.blk.lt
        obtain ⟨B1, n1, b1, B2, n2, b2, B3, n3, b3, B4, n4, b4⟩ := v
        simp only [LV.val] at *
        have HDD := Lib.hid hD
        have hwg : w.heap.size < w1.heap.size := by omega
        have hgne : w.heap.size ≠ w1.heap.size := by omega
        have HBR1 := Lib.hid (HB1.out.trans (hbr.mono (by have := HB1.out.size; omega)))
        clear HE hLn hbr hD
        go_wp2_with fail
        (with_reducible refine HCK.out.mono ?_)
        rintro e w5 ⟨rfl, hb5⟩
        have hx5 := (hb5.block w.heap.size (by omega)).trans hx3
        have q0 := (hb5.cell (p := ⟨w1.heap.size, 0, none⟩) hgw).trans g0
        have q1 := (hb5.cell (p := ⟨w1.heap.size, 1, none⟩) hgw).trans g1
        have q2 := (hb5.cell (p := ⟨w1.heap.size, 2, none⟩) hgw).trans g2
        have q3 := (hb5.cell (p := ⟨w1.heap.size, 3, none⟩) hgw).trans g3
        obtain ⟨c0, c1', c2, c3', hf⟩ := four_cells hx5
        have f0 := hf 0
        have f1 := hf 1
        have f2 := hf 2
        have f3 := hf 3
        have HBE := Lib.hid (HBR1.out.trans (hb5.mono HBR1.out.size))
        have HB5 := Lib.hid hb5
        clear hf hx5 hx3 hb5 g0 g1 g2 g3
        cases hcz : decide (check l = 0) with
        | false =>
          have h0 := of_decide_eq_false hcz
          have HE4 : Hid (R = (zero, 0, check l)) := by rw [Hid, HEX.out, if_neg h0]
          have hne : ((check l : Int) != 0) = true := by rw [bne_iff_ne]; exact h0
          generalize check l = z at *
          clear hcz h0
          go_wp2_with fail
          obtain ⟨e0, e1, e2, e3⟩ := Maker.four_set (v0 := .slice none 0 0) (v1 := .slice none 0 0) (v2 := .slice none 0 0) (v3 := .slice none 0 0) c0 c1' c2 c3'
          refine bodyPost_ret (v := .tuple #[.agg #[.slice none 0 0, .slice none 0 0, .slice none 0 0, .slice none 0 0], .int .i64 0, .int .i64 z]) ?_ rfl ?_
          · simp [results, Try.results37, go_sem, e0, e1, e2, e3]
          · exact ⟨nilV, by rw [HE4.out]; rfl, by rw [HE4.out]; exact nil_rd _ _, set4_below HBE.out (Nat.le_refl _)⟩
        | true =>
          have h0 := of_decide_eq_true hcz
          have HE4 : Hid (R = (l, 0, 0)) := by rw [Hid, HEX.out, if_pos h0]
          rw [h0]
          clear hcz h0
          go_wp2_with fail
          obtain ⟨e0, e1, e2, e3⟩ := Maker.four_set (v0 := .slice B1 n1 b1) (v1 := .slice B2 n2 b2) (v2 := .slice B3 n3 b3) (v3 := .slice B4 n4 b4) c0 c1' c2 c3'
          refine bodyPost_ret (v := .tuple #[.agg #[.slice B1 n1 b1, .slice B2 n2 b2, .slice B3 n3 b3, .slice B4 n4 b4], .int .i64 0, .int .i64 0]) ?_ rfl ?_
          · simp [results, Try.results37, go_sem, e0, e1, e2, e3]
          · exact ⟨⟨B1, n1, b1, B2, n2, b2, B3, n3, b3, B4, n4, b4⟩, by rw [HE4.out]; rfl, by
              rw [HE4.out]
              exact dq_set4 HDD.out HB5.out (by omega) (by omega), set4_below HBE.out (Nat.le_refl _)⟩
end Go.Proofs.Ytdcbaedhgoipjaa.RPar
