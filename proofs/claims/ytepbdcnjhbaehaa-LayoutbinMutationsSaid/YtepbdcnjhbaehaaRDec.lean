/-
  Contract of the document's Decode.
-/
import Derived.Test.YtepbdcnjhbaehaaRdrA
import Derived.Test.YtepbdcnjhbaehaaRCheck
import Derived.Test.YtepbdcnjhbaehaaMan
import Derived.Deep.CutBlock
namespace Go.Proofs.Ytepbdcnjhbaehaa.RDec
open Go.ChangeShapes Go.WideShapes Go.ChangeAt Go.RowKit Wd Bin Lay LayT Recs PEnds Bldr _root_.Go.Proofs.Ytepbdcnjhbaehaa.Cur Crd _root_.Go.Proofs.Ytepbdcnjhbaehaa.Reach Crc CrcP PNames PSecs PDec Rdr RSt RCheck Man
set_option linter.unusedVariables false
set_option linter.unusedSimpArgs false

theorem r_number_eq (b n : Nat) (s : ByteArray) (c : Bin.Cur) (r : Nat × Bin.Cur) (w : World) (e : rdNum n (bs s) c = r) (h : Cu 110 b s c w) (hc : c.1 ≤ (bs s).length) (hn : n ≤ 6) (hs : s.size ≤ 9223372036854775807) :
    Calls Try.prog 63 #[.pointer (some ⟨b, 0, none⟩), .int .i64 n] w (Rds 110 b s (.int .i64 r.1) r.2 w) := by
  subst e; exact r_number b n s c w h (by rwa [bs_length] at hc) hn hs
theorem r_name_eq (b : Nat) (s : ByteArray) (c : Bin.Cur) (r : Bs × Bin.Cur) (w : World) (e : rdName (bs s) c = r) (h : Cu 110 b s c w) (hc : c.1 ≤ (bs s).length) (hs : s.size ≤ 9223372036854775807) :
    Calls Try.prog 64 #[.pointer (some ⟨b, 0, none⟩)] w (Rds 110 b s (.string (str r.1)) r.2 w) := by
  subst e; exact r_name b s c w h (by rwa [bs_length] at hc) hs
theorem wpAnyH_mono {P : Program} {md : Region.Mode} {ops : Array Oper} {Q : Exit → Act → World → Prop} {S S' : World → Prop} (hS : ∀ w, S' w → S w) : ∀ (fuel : Nat) (listed : Array Bool) (a : Act) (w : World), wpAnyH P md ops Q S' fuel listed a w → wpAnyH P md ops Q S fuel listed a w
  | 0, _, _, _, h => h
  | fuel + 1, _, _, _, h => ⟨h.1, fun i hi => wpOp_mono (fun a' w' h' => ⟨hS _ h'.1, wpAnyH_mono hS fuel _ a' w' h'.2⟩) (h.2 i hi)⟩
theorem Tak.name_small {s : Bs} {c : Bin.Cur} {r : Bs × Bin.Cur} (e : rdName s c = r) : r.1.length ≤ 256 := by rw [← e]; exact PDec.name_small s c
/-- where nothing was missing the lists are those that are to be read -/
def Whole (c : Bin.Cur) (l m : Lay) : Prop := c.2 = false → l = m
/-- how many there are of each -/
def Few (v : LV) : Prop := v.n1 ≤ 255 ∧ v.n2 ≤ 255 ∧ v.n3 ≤ 255 ∧ v.n4 ≤ 255
def NilP (v : LV) (l : Lay) : Prop := v.A2 = none ∧ v.n2 = 0 ∧ v.c2 = 0 ∧ l.points = []
def Small (l : Lay) : Prop := (∀ x ∈ l.stations, x.length ≤ 256) ∧ (∀ x ∈ l.points, x.length ≤ 256) ∧ (∀ x ∈ l.sections, x.name.length ≤ 256)

set_option maxRecDepth 100000 in
set_option maxHeartbeats 16000000 in
theorem r_decode (s : ByteArray) (w : World) (hs : s.size ≤ 9223372036854775807) : Calls Try.prog 40 #[.string s] w (DecPost (Bin.decode (bs s)) w) := by
  obtain ⟨⟨x0, k0⟩, h0⟩ : ∃ r, rdNum 4 (bs s) (0, false) = r := ⟨_, rfl⟩
  obtain ⟨⟨a1, k1⟩, h1⟩ : ∃ r, rdNum 1 (bs s) k0 = r := ⟨_, rfl⟩
  obtain ⟨⟨a2, k2⟩, h2⟩ : ∃ r, rdNum 1 (bs s) k1 = r := ⟨_, rfl⟩
  obtain ⟨⟨a3, k3⟩, h3⟩ : ∃ r, rdNum 1 (bs s) k2 = r := ⟨_, rfl⟩
  obtain ⟨⟨a4, k4⟩, h4⟩ : ∃ r, rdNum 1 (bs s) k3 = r := ⟨_, rfl⟩
  obtain ⟨⟨S, k5⟩, h5⟩ : ∃ r, many rdName a1 (bs s) k4 = r := ⟨_, rfl⟩
  obtain ⟨⟨P, k6⟩, h6⟩ : ∃ r, many rdName a2 (bs s) k5 = r := ⟨_, rfl⟩
  obtain ⟨⟨X, k7⟩, h7⟩ : ∃ r, many rdSec a3 (bs s) k6 = r := ⟨_, rfl⟩
  obtain ⟨⟨K, k8⟩, h8⟩ : ∃ r, many rdLnk a4 (bs s) k7 = r := ⟨_, rfl⟩
  obtain ⟨⟨x, k9⟩, h9⟩ : ∃ r, rdNum 4 (bs s) k8 = r := ⟨_, rfl⟩
  have p0 := num_pos h0 (Nat.zero_le _)
  have p1 := num_pos h1 p0
  have p2 := num_pos h2 p1
  have p3 := num_pos h3 p2
  have p4 := num_pos h4 p3
  have p5 : k5.1 ≤ (bs s).length := by have := many_pos pos_name (bs s) k4 p4 a1; rw [h5] at this; exact this
  have p6 : k6.1 ≤ (bs s).length := by have := many_pos pos_name (bs s) k5 p5 a2; rw [h6] at this; exact this
  have p7 : k7.1 ≤ (bs s).length := by have := many_pos pos_sec (bs s) k6 p6 a3; rw [h7] at this; exact this
  have p8 : k8.1 ≤ (bs s).length := by have := many_pos pos_lnk (bs s) k7 p7 a4; rw [h8] at this; exact this
  have p9 := num_pos h9 p8
  have l1 := num_lt h1
  have l2 := num_lt h2
  have l3 := num_lt h3
  have l4 := num_lt h4
  have l9 := num_lt h9
  simp only at p0 p1 p2 p3 p4 p9 l1 l2 l3 l4 l9
  have HL : Hid (rdLay (bs s) k0 = (⟨S, P, X, K⟩, k8)) := by
    simp only [Hid, rdLay, bnd, ret, h1, h2, h3, h4, h5, h6, h7, h8]
  have h0' : (item 4 (bs s) (0, false)).2 = k0 := congrArg Prod.snd h0
  have HG := Lib.hid (fun (hf : ¬ (4 ≤ (bs s).length ∧ (bs s).take 4 ≠ sig)) => dec_go hf h0' HL.out h9)
  have hsm := lay_small (bs s) k0
  rw [HL.out] at hsm
  have HSM : Hid (Small ⟨S, P, X, K⟩) := hsm
  have N0 := Lib.hid (fun b wx hx => r_number_eq b 4 s (0, false) _ wx h0 hx (Nat.zero_le _) (by omega) hs)
  have N1 := Lib.hid (fun b wx hx => r_number_eq b 1 s k0 _ wx h1 hx p0 (by omega) hs)
  have N2 := Lib.hid (fun b wx hx => r_number_eq b 1 s k1 _ wx h2 hx p1 (by omega) hs)
  have N3 := Lib.hid (fun b wx hx => r_number_eq b 1 s k2 _ wx h3 hx p2 (by omega) hs)
  have N4 := Lib.hid (fun b wx hx => r_number_eq b 1 s k3 _ wx h4 hx p3 (by omega) hs)
  have N9 := Lib.hid (fun b wx hx => r_number_eq b 4 s k8 _ wx h9 hx p8 (by omega) hs)
  have M1 : Hid (∀ q, q ≤ a1 → (many rdName q (bs s) k4).2.2 = true → (many rdName q (bs s) k4).2 = k5) := fun q hq ht => by
    have := many_stuck fine_name (bs s) k4 a1 q hq ht
    rw [h5] at this; exact this.symm
  have E1 : Hid (many rdName a1 (bs s) k4 = (S, k5)) := h5
  have Q1 := Lib.hid (fun q => many_pos pos_name (bs s) k4 p4 q)
  have M2 : Hid (∀ q, q ≤ a2 → (many rdName q (bs s) k5).2.2 = true → (many rdName q (bs s) k5).2 = k6) := fun q hq ht => by
    have := many_stuck fine_name (bs s) k5 a2 q hq ht
    rw [h6] at this; exact this.symm
  have E2 : Hid (many rdName a2 (bs s) k5 = (P, k6)) := h6
  have Q2 := Lib.hid (fun q => many_pos pos_name (bs s) k5 p5 q)
  have M3 : Hid (∀ q, q ≤ a3 → (many rdSec q (bs s) k6).2.2 = true → (many rdSec q (bs s) k6).2 = k7) := fun q hq ht => by
    have := many_stuck fine_sec (bs s) k6 a3 q hq ht
    rw [h7] at this; exact this.symm
  have E3 : Hid (many rdSec a3 (bs s) k6 = (X, k7)) := h7
  have Q3 := Lib.hid (fun q => many_pos pos_sec (bs s) k6 p6 q)
  have M4 : Hid (∀ q, q ≤ a4 → (many rdLnk q (bs s) k7).2.2 = true → (many rdLnk q (bs s) k7).2 = k8) := fun q hq ht => by
    have := many_stuck fine_lnk (bs s) k7 a4 q hq ht
    rw [h8] at this; exact this.symm
  have E4 : Hid (many rdLnk a4 (bs s) k7 = (K, k8)) := h8
  have Q4 := Lib.hid (fun q => many_pos pos_lnk (bs s) k7 p7 q)
  have HK9 : Hid (k8.2 = true → k9.2 = true) := fun ht => by rw [← congrArg (fun r => r.2.2) h9]; simp [rdNum, item, ht]
  clear h0 h1 h2 h3 h4 h5 h6 h7 h8 h9 p0 p1 p2 p3 p4 p5 p6 p7 hsm h0'
  simp only at N0 N1 N2 N3 N4 N9
  rw [bs_length] at p8 p9
  obtain ⟨ih1, hih1, hy0, hy1, hy2⟩ := info_parts RNames.infoS
  obtain ⟨ih3, hih3, hs0, hs1, hs2⟩ := info_parts Bldr.infoSec
  obtain ⟨ih4, hih4, hl0, hl1, hl2⟩ := info_parts Bldr.infoLnk
  obtain ⟨W0, hW0⟩ : ∃ W0, w.alloc (.cells #[.slice none 0 0, .slice none 0 0, .slice none 0 0, .slice none 0 0] 29) = W0 := ⟨_, rfl⟩
  have hzW0 : W0.heap.size = w.heap.size + 1 := by rw [← hW0]; simp
  have hbW0 : Below w.heap.size w W0 := by rw [← hW0]; exact (Below.refl _ _).alloc (Nat.le_refl _) _
  have hB00 : W0.heap[w.heap.size]? = some (.cells #[.slice none 0 0, .slice none 0 0, .slice none 0 0, .slice none 0 0] 29 (0, 0)) := by rw [← hW0]; exact heap_alloc_new w _
  obtain ⟨W, hW⟩ : ∃ W, W0.alloc (.cells #[.string s, .int .i64 0, .bool false] 110) = W := ⟨_, rfl⟩
  have HC0 : Hid (Cu 110 W0.heap.size s (0, false) W) := by rw [Hid, ← hW]; exact heap_alloc_new _ _
  have hbW : Below W0.heap.size W0 W := by rw [← hW]; exact (Below.refl _ _).alloc (Nat.le_refl _) _
  have HB0 : Hid (W.heap[w.heap.size]? = some (.cells #[.slice none 0 0, .slice none 0 0, .slice none 0 0, .slice none 0 0] 29 (0, 0))) := (hbW.block w.heap.size (by omega)).trans hB00
  have HB00 := Lib.hid hB00
  have HBW0 := Lib.hid hbW0
  have HBW : Hid (Below w.heap.size w W) := hbW0.trans (hbW.mono hbW0.size)
  have hzW : W.heap.size = W0.heap.size + 1 := by rw [← hW]; simp
  have HZ0 := Lib.hid hzW0
  have HZ := Lib.hid hzW
  have HW := Lib.hid hW
  clear hzW0 hzW hbW0 hB00 hbW hW
  go_enter Try.func40, Try.ntmps40
  go_upto_region 1 with fail
  try rw [hW0]
  clear hW0
  by_cases hbad : 4 ≤ s.size ∧ (bs s).take 4 ≠ sig
  · obtain ⟨h4, hsg⟩ := hbad
    have HD : Hid (Bin.decode (bs s) = (zero, 0, 2)) := dec_form (by rw [bs_length]; exact h4) hsg
    have h4' : (4 : Int) ≤ (s.size : Int) := by omega
    obtain ⟨Y, hY⟩ : ∃ Y, s.extract 0 4 = Y := ⟨_, rfl⟩
    have hYs : Y = str ((bs s).take 4) := by rw [← hY]; exact extract_str s 0 4
    have htl : (Y.toList == [82, 80, 76, 49]) = false := by rw [hYs, str_sig]; exact decide_eq_false hsg
    obtain ⟨X', hX, ⟨e0, e1, e2, e3⟩, hbX⟩ := zero_fin (Nat.le_refl w.heap.size) HB00.out HBW0.out
    obtain ⟨⟨d0, d1, d2, d3⟩, f0, f1, f2, f3⟩ := res_cells HB00.out
    have HX := Lib.hid hX
    have HBX := Lib.hid hbX
    clear hX hbX hYs hsg
    go_wp2_with fail
    try rw [HX.out]
    refine bodyPost_ret (v := .tuple #[.agg #[.slice none 0 0, .slice none 0 0, .slice none 0 0, .slice none 0 0], .int .i64 0, .int .i64 2]) (by simp [results, Try.results40, go_sem, e0, e1, e2, e3]) rfl (dec_zero HD.out HBX.out)
  · have HD := Lib.hid (HG.out (by rw [bs_length]; exact hbad))
    obtain ⟨Y, hY⟩ : ∃ Y, s.extract 0 4 = Y := ⟨_, rfl⟩
    have hYs : Y = str ((bs s).take 4) := by rw [← hY]; exact extract_str s 0 4
    have htl : 4 ≤ s.size → (Y.toList == [82, 80, 76, 49]) = true := fun h4 => by rw [hYs, str_sig]; exact decide_eq_true (Classical.byContradiction fun h => hbad ⟨h4, h⟩)
    clear hbad hYs HG
    have HY := Lib.hid hY
    have HTL := Lib.hid htl
    clear hY htl
    go_cut [26, 27, 28, 29] from 22 to 30 (fun _ _ _ y wx => y = .bool false ∧ wx = W0)
    case first =>
      by_cases h4 : 4 ≤ s.size
      · have htl := HTL.out h4
        have hY := HY.out
        have h4' : (4 : Int) ≤ (s.size : Int) := by omega
        go_wp2_with fail
        go_meet
        exact ⟨rfl, rfl⟩
      · have h4' : ¬ (4 : Int) ≤ (s.size : Int) := by omega
        go_wp2_with fail
        go_meet
        exact ⟨rfl, rfl⟩
    case rest =>
      obtain ⟨rfl, rfl⟩ := hcut
      go_upto_region 4 with fail
      rw [HW.out]
      clear HW HTL HY HB00 HBW0
      generalize wc.heap.size = bb at *
      have HG0 : Hid (W.grownBy W (some bb)) := World.grownBy.refl W _
      go_wp2_with fail
      refine (N0.out bb _ HC0.out).mono ?_
      rintro e w0 ⟨rfl, hc0, hg0⟩
      have HC1 := Lib.hid hc0
      have HG1 := Lib.hid (HG0.out.trans hg0)
      clear hc0 hg0 N0 HC0 HG0
      go_wp2_with fail
      refine (N1.out bb _ HC1.out).mono ?_
      rintro e w1 ⟨rfl, hc1, hg1⟩
      have HC2 := Lib.hid hc1
      have HG2 := Lib.hid (HG1.out.trans hg1)
      clear hc1 hg1 N1 HC1 HG1
      go_wp2_with fail
      refine (N2.out bb _ HC2.out).mono ?_
      rintro e w2 ⟨rfl, hc2, hg2⟩
      have HC3 := Lib.hid hc2
      have HG3 := Lib.hid (HG2.out.trans hg2)
      clear hc2 hg2 N2 HC2 HG2
      go_wp2_with fail
      refine (N3.out bb _ HC3.out).mono ?_
      rintro e w3 ⟨rfl, hc3, hg3⟩
      have HC4 := Lib.hid hc3
      have HG4 := Lib.hid (HG3.out.trans hg3)
      clear hc3 hg3 N3 HC3 HG3
      go_wp2_with fail
      refine (N4.out bb _ HC4.out).mono ?_
      rintro e w4 ⟨rfl, hc4, hg4⟩
      have HC5 := Lib.hid hc4
      have HG5 := Lib.hid (HG4.out.trans hg4)
      clear hc4 hg4 N4 HC4 HG4
      have hgz := HG5.out.size
      have hbz := HC5.out.lt
      have hz0 := HZ0.out
      have hz1 := HZ.out
      obtain ⟨WL, hWL⟩ : ∃ WL, w4.alloc (.cells #[.slice none 0 0, .slice none 0 0, .slice none 0 0, .slice none 0 0] 29) = WL := ⟨_, rfl⟩
      have hbL : Below w4.heap.size w4 WL := by rw [← hWL]; exact (Below.refl _ _).alloc (Nat.le_refl _) _
      have hzL : WL.heap.size = w4.heap.size + 1 := by rw [← hWL]; simp
      have hgL : WL.heap[w4.heap.size]? = some (.cells #[.slice none 0 0, .slice none 0 0, .slice none 0 0, .slice none 0 0] 29 (0, 0)) := by rw [← hWL]; exact heap_alloc_new _ _
      have HORD : Hid (Ord w w.heap.size bb w4.heap.size WL.heap.size WL.heap.size) := ⟨Nat.le_refl _, by omega, by omega, by omega, Nat.le_refl _⟩
      have hb4 : Below w.heap.size w w4 := HBW.out.grown HG5.out HBW.out.size (fun k hk => by injection hk with hk; omega)
      have HST : Hid (St w w.heap.size bb w4.heap.size WL.heap.size WL.heap.size s WL Awake.nilL zero k4) :=
        ⟨(hbL.block w.heap.size (by omega)).trans ((HG5.out.block w.heap.size (by omega) (fun e => by injection e with e; omega)).trans HB0.out), HC5.out.kept (row := none) (below_grown hbL) (by simp), hgL, Own.nil _ _, Own.nil _ _, Own.nil _ _, Own.nil _ _, fun k hk => by simp [Awake.nilL, Value.ownBlock] at hk, hb4.trans (hbL.mono hb4.size), Nat.le_refl _⟩
      clear HC5 HG5 HB0 HBW hgL hb4 hbL hgz hbz hz0 hz1 hzL HZ HZ0
      have HWL := Lib.hid hWL
      clear hWL
      go_upto_region 7 with fail
      rw [HWL.out]
      clear HWL
      generalize w4.heap.size = mm at *
      have HST0 := Lib.hid HST.out
      clear HST
      obtain ⟨B1, hB1⟩ : ∃ B1, WL.heap.size = B1 := ⟨_, rfl⟩
      rw [hB1] at HST0 HORD
      clear hB1
      go_upto_block 0 with fail
      go_cut [11] from 44 to 63 (fun i wx => ∃ v l B2, St w w.heap.size bb mm B1 B2 s wx v l k5 ∧ B1 ≤ B2 ∧ (v.n2 = 0 ∧ v.n3 = 0 ∧ v.n4 = 0) ∧ Few v ∧ Whole k5 l ⟨S, [], [], []⟩)
      case first =>
        go_wp2_with fail
        go_loopw [11] (fun i wr => ∃ (k : Nat) (v : LV) (l : Lay) (B2 : Nat), k ≤ a1 ∧ i = .int .i64 k ∧ St w w.heap.size bb mm B1 B2 s wr v l (many rdName k (bs s) k4).2 ∧ B1 ≤ B2 ∧ (NilP v l ∧ v.n3 = 0 ∧ v.n4 = 0) ∧ v.n1 ≤ k ∧ Few v ∧ Whole (many rdName k (bs s) k4).2 l ⟨(many rdName k (bs s) k4).1, [], [], []⟩) (fun i _ => a1 - (intOf i).toNat)
        case atStart => exact ⟨0, Awake.nilL, zero, B1, Nat.zero_le _, rfl, HST0.out, Nat.le_refl _, ⟨⟨rfl, rfl, rfl, rfl⟩, rfl, rfl⟩, Nat.zero_le _, ⟨by decide, by decide, by decide, by decide⟩, fun _ => rfl⟩
        case round =>
          obtain ⟨k, v, l, B2, hk, rfl, hst, hB, hZ, hnk, hfew, hwh⟩ := hrel
          clear HST0
          have HST := Lib.hid hst
          have HZ := Lib.hid hZ
          have HFW := Lib.hid hfew
          have HWH := Lib.hid hwh
          obtain ⟨c0, c1, c2⟩ := hst.cu.cells
          clear hst hZ hfew hwh
          by_cases hlt : k < a1
          · have hkn : (k : Int) < (a1 : Int) := by omega
            obtain ⟨tf, hct⟩ : ∃ tf, (many rdName k (bs s) k4).2.2 = tf := ⟨_, rfl⟩
            cases tf with
            | true =>
              rw [hct] at c2
              have hKK := M1.out k (by omega) hct
              have HF : Hid (∃ v l B2, St w w.heap.size bb mm B1 B2 s wr v l k5 ∧ B1 ≤ B2 ∧ (v.n2 = 0 ∧ v.n3 = 0 ∧ v.n4 = 0) ∧ Few v ∧ Whole k5 l ⟨S, [], [], []⟩) := by
                have hst := HST.out; have hZ := HZ.out
                rw [hKK] at hst
                exact ⟨v, l, B2, hst, hB, ⟨hZ.1.2.1, hZ.2.1, hZ.2.2⟩, HFW.out, fun h => by rw [← hKK, hct] at h; cases h⟩
              clear hKK hct HST HZ HFW HWH
              go_wp2_with fail
              go_meet
              exact HF.out
            | false =>
              rw [hct] at c2
              have HL := Lib.hid (HWH.out hct)
              clear HWH hct
              obtain ⟨⟨x, c'⟩, hxe⟩ : ∃ r, rdName (bs s) (many rdName k (bs s) k4).2 = r := ⟨_, rfl⟩
              have HM : Hid (many rdName (k + 1) (bs s) k4 = ((many rdName k (bs s) k4).1 ++ [x], c')) := by rw [Hid, many_succ, hxe]
              have hq := Q1.out k
              obtain ⟨A1, n1, q1, A2, n2, q2, A3, n3, q3, A4, n4, q4⟩ := v
              simp only at hnk
              have HOR : Hid (Ord w w.heap.size bb mm B1 B2) := by have := HORD.out; exact ⟨this.o1, this.o2, this.o3, this.o4, hB⟩
              have hn63 : n1 + 1 ≤ maxLen := by unfold maxLen; omega
              have hby : (n1 + 1) * 16 ≤ 140737488355328 := by omega
              have HBG : Hid (B1 ≤ B2) := hB
              have HN := Lib.hid (fun wx hx => r_name_eq bb s _ _ wx hxe hx hq hs)
              simp only at HN
              have HS0 : Hid (St w w.heap.size bb mm B1 B2 s wr.drew ⟨A1, n1, q1, A2, n2, q2, A3, n3, q3, A4, n4, q4⟩ l (many rdName k (bs s) k4).2) := HST.out.draws 1
              clear hxe hq HST
              go_upto_region 10 with fail
              clear c0 c1 c2
              refine wp_region_held_drew (S := fun _ => True) (by kernel_rfl) trivial (fun hHeld => ?_)
              generalize wr.drew = y0 at *
              refine take_yes 0 (some 56) (v := ?v0_1) rfl rfl (by kernel_rfl) (by kernel_rfl) (by kernel_rfl) (fun _ _ _ h => h) (by kernel_rfl) ?h0_1 (by assumption) ?_
              case h0_1 =>
                intro w hSw
                (try dsimp only at hSw)
                (try go_split_ands)
                go_simp
                try with_reducible rfl
              (try simp only [Act.put, List.setIfInBounds_toArray, List.set_cons_zero, List.set_cons_succ])
              refine take_yes 2 (some 58) (v := ?v2_2) rfl rfl (by kernel_rfl) (by kernel_rfl) (by kernel_rfl) (fun _ _ _ h => h) (by kernel_rfl) ?h2_2 (by assumption) ?_
              case h2_2 =>
                intro w hSw
                (try dsimp only at hSw)
                (try go_split_ands)
                go_simp
                try with_reducible rfl
              (try simp only [Act.put, List.setIfInBounds_toArray, List.set_cons_zero, List.set_cons_succ])
              refine wpAnyH_ready (rs := [1, 3]) (by kernel_rfl) (by simp) ?_
              refine AllReadyH.cons rfl (fun K hK => ?_) (AllReadyH.cons rfl (fun K hK => ?_) AllReadyH.nil)
              · have hcc1 := HS0.out.cells
                simp only at hcc1
                obtain ⟨d0, d1, d2, d3⟩ := hcc1
                go_simp
                refine hK.out _ _ trivial (fun hHeld1 => ?_)
                clear hK K hHeld d0 d1 d2 d3
                (try simp only [Act.put, List.setIfInBounds_toArray, List.set_cons_zero, List.set_cons_succ])
                refine wpAnyH_ready (rs := [3]) (by kernel_rfl) (by simp) ?_
                refine AllReadyH.cons rfl (fun K hK => ?_) AllReadyH.nil
                go_simp
                go_at_call 64
                (with_reducible refine (HN.out _ HS0.out.cu).mono ?_)
                rintro e y2 ⟨rfl, hcc2, hgg2⟩
                go_wp2_with fail
                have HS2_ := Lib.hid (HS0.out.read HOR.out hcc2 hgg2)
                refine hK.out _ _ trivial (fun hHeld2 => ?_)
                clear hK K hHeld1 hcc2 hgg2
                (try simp only [Act.put, List.setIfInBounds_toArray, List.set_cons_zero, List.set_cons_succ])
                refine wpAnyH_ready (rs := [4]) (by kernel_rfl) (by simp) ?_
                refine AllReadyH.cons rfl (fun K hK => ?_) AllReadyH.nil
                go_simp
                refine hK.out _ _ trivial (fun hHeld3 => ?_)
                clear hK K hHeld2
                (try simp only [Act.put, List.setIfInBounds_toArray, List.set_cons_zero, List.set_cons_succ])
                refine wpAnyH_ready (rs := [5]) (by kernel_rfl) (by simp) ?_
                refine AllReadyH.cons rfl (fun K hK => ?_) AllReadyH.nil
                have hbig4 : B1 ≤ y2.heap.size := by have := HS2_.out.big; have := HBG.out; omega
                refine step_append_lies _ (by rfl) _ _ _ (by rfl) B1 9 ih1 _ 1 16 Try.underlying25 hih1 hy0 hy1 hy2 rfl (by omega) (.slice A1 n1 q1) n1 (sR.cs l.stations) (by rfl) (HS2_.out.st.2.alloc _) ⟨y2.heap.size, 0, none⟩ 1 1 [.string (str x)] (by rfl) (by rfl) (World.news_of_block (cs := #[.string (str x)]) (t := 9) (fr := (0, 0)) (heap_alloc_new y2 _)) (by simp [Value.oneCell']) (by omega) hn63 hby (by simp; omega) (y2.heap.size + 1) (by simp) ?_
                intro gg cap w7 hown7 hgrow7 hat7 hlt7
                refine hK.out _ _ trivial (fun hHeld4 => ?_)
                clear hK K hHeld3 hbig4 hat7 hlt7
                (try simp only [Act.put, List.setIfInBounds_toArray, List.set_cons_zero, List.set_cons_succ])
                have hBw7 : B1 ≤ w7.heap.size := by have h8 := hgrow7.size; have h9 := HS2_.out.big; have h10 := HBG.out; simp at h8; omega
                have hrow4 := rows_left HS2_.out HOR.out hgrow7 (fun k' hk' => by have := (HS2_.out.st.2.lt k' hk').1; have := HBG.out; omega)
                have HO7 := Lib.hid (Own.push (R := sR) (a := x) HS2_.out.st.1 hown7)
                have HPT := Lib.hid (St.put1 HS2_.out HOR.out HZ.out.1 hgrow7 HO7.out)
                obtain ⟨d0, d1, d2, d3⟩ : w7.cell? ⟨mm, 0, none⟩ = some (.slice A1 n1 q1) ∧ w7.cell? ⟨mm, 1, none⟩ = some (.slice A2 n2 q2) ∧ w7.cell? ⟨mm, 2, none⟩ = some (.slice A3 n3 q3) ∧ w7.cell? ⟨mm, 3, none⟩ = some (.slice A4 n4 q4) := by simp [World.cell?, hrow4.2.2.1]
                obtain ⟨f0, f1, f2, f3⟩ : w7.frozen? ⟨mm, 0, none⟩ = false ∧ w7.frozen? ⟨mm, 1, none⟩ = false ∧ w7.frozen? ⟨mm, 2, none⟩ = false ∧ w7.frozen? ⟨mm, 3, none⟩ = false := by simp [World.frozen?, hrow4.2.2.1]
                clear hrow4 hown7 hgrow7 HO7
                simp only at HPT
                refine take_yes 6 (some 62) (v := ?v6_3) rfl rfl (by kernel_rfl) (by kernel_rfl) (by kernel_rfl) (fun _ _ _ h => h) (by kernel_rfl) ?h6_3 (by assumption) ?_
                case h6_3 =>
                  intro w hSw
                  (try dsimp only at hSw)
                  (try go_split_ands)
                  go_simp
                  try with_reducible rfl
                (try simp only [Act.put, List.setIfInBounds_toArray, List.set_cons_zero, List.set_cons_succ])
                refine wpAnyH_ready (rs := [7]) (by kernel_rfl) (by simp) ?_
                refine AllReadyH.cons rfl (fun K hK => ?_) AllReadyH.nil
                go_simp
                refine hK.out _ _ trivial (fun hHeld5 => ?_)
                clear hK K hHeld4 d0 d1 d2 d3 f0 f1 f2 f3
                (try simp only [Act.put, List.setIfInBounds_toArray, List.set_cons_zero, List.set_cons_succ])
                refine wpAnyH_done (by kernel_rfl) ?_ _
                have HNEW : Hid (Whole c' ⟨l.stations ++ [x], l.points, l.sections, l.links⟩ ⟨(many rdName (k + 1) (bs s) k4).1, [], [], []⟩) := fun _ => by rw [HL.out, HM.out]
                have HSN : Hid (∃ v' l' B2', St w w.heap.size bb mm B1 B2' s (w7.setCell ⟨mm, 0, none⟩ (.slice (some ⟨gg, 0, none⟩) (n1 + 1) cap)) v' l' (many rdName (k + 1) (bs s) k4).2 ∧ B1 ≤ B2' ∧ (NilP v' l' ∧ v'.n3 = 0 ∧ v'.n4 = 0) ∧ v'.n1 ≤ k + 1 ∧ Few v' ∧ Whole (many rdName (k + 1) (bs s) k4).2 l' ⟨(many rdName (k + 1) (bs s) k4).1, [], [], []⟩) := by
                  rw [Hid, HM.out]
                  have hnew := HNEW.out
                  rw [HM.out] at hnew
                  exact ⟨_, _, _, HPT.out, hBw7, ⟨HZ.out.1, HZ.out.2⟩, by show n1 + 1 ≤ k + 1; omega, ⟨by show n1 + 1 ≤ 255; omega, HFW.out.2⟩, hnew⟩
                go_wp2_with fail
                go_roundw
                case rel =>
                  obtain ⟨v', l', B2', h1, h2, h3, h4, h5, h6⟩ := HSN.out
                  exact ⟨k + 1, v', l', B2', by omega, by go_num, h1, h2, h3, h4, h5, h6⟩
                case measure => simp [intOf]; omega
              · go_simp
                go_at_call 64
                (with_reducible refine (HN.out _ HS0.out.cu).mono ?_)
                rintro e y6 ⟨rfl, hcc6, hgg6⟩
                go_wp2_with fail
                have HS6_ := Lib.hid (HS0.out.read HOR.out hcc6 hgg6)
                refine hK.out _ _ trivial (fun hHeld6 => ?_)
                clear hK K hHeld hcc6 hgg6
                (try simp only [Act.put, List.setIfInBounds_toArray, List.set_cons_zero, List.set_cons_succ])
                refine wpAnyH_ready (rs := [1, 4]) (by kernel_rfl) (by simp) ?_
                refine AllReadyH.cons rfl (fun K hK => ?_) (AllReadyH.cons rfl (fun K hK => ?_) AllReadyH.nil)
                · have hcc7 := HS6_.out.cells
                  simp only at hcc7
                  obtain ⟨d0, d1, d2, d3⟩ := hcc7
                  go_simp
                  refine hK.out _ _ trivial (fun hHeld7 => ?_)
                  clear hK K hHeld6 d0 d1 d2 d3
                  (try simp only [Act.put, List.setIfInBounds_toArray, List.set_cons_zero, List.set_cons_succ])
                  refine wpAnyH_ready (rs := [4]) (by kernel_rfl) (by simp) ?_
                  refine AllReadyH.cons rfl (fun K hK => ?_) AllReadyH.nil
                  go_simp
                  refine hK.out _ _ trivial (fun hHeld8 => ?_)
                  clear hK K hHeld7
                  (try simp only [Act.put, List.setIfInBounds_toArray, List.set_cons_zero, List.set_cons_succ])
                  refine wpAnyH_ready (rs := [5]) (by kernel_rfl) (by simp) ?_
                  refine AllReadyH.cons rfl (fun K hK => ?_) AllReadyH.nil
                  have hbig9 : B1 ≤ y6.heap.size := by have := HS6_.out.big; have := HBG.out; omega
                  refine step_append_lies _ (by rfl) _ _ _ (by rfl) B1 9 ih1 _ 1 16 Try.underlying25 hih1 hy0 hy1 hy2 rfl (by omega) (.slice A1 n1 q1) n1 (sR.cs l.stations) (by rfl) (HS6_.out.st.2.alloc _) ⟨y6.heap.size, 0, none⟩ 1 1 [.string (str x)] (by rfl) (by rfl) (World.news_of_block (cs := #[.string (str x)]) (t := 9) (fr := (0, 0)) (heap_alloc_new y6 _)) (by simp [Value.oneCell']) (by omega) hn63 hby (by simp; omega) (y6.heap.size + 1) (by simp) ?_
                  intro gg cap w7 hown7 hgrow7 hat7 hlt7
                  refine hK.out _ _ trivial (fun hHeld9 => ?_)
                  clear hK K hHeld8 hbig9 hat7 hlt7
                  (try simp only [Act.put, List.setIfInBounds_toArray, List.set_cons_zero, List.set_cons_succ])
                  have hBw7 : B1 ≤ w7.heap.size := by have h8 := hgrow7.size; have h9 := HS6_.out.big; have h10 := HBG.out; simp at h8; omega
                  have hrow9 := rows_left HS6_.out HOR.out hgrow7 (fun k' hk' => by have := (HS6_.out.st.2.lt k' hk').1; have := HBG.out; omega)
                  have HO7 := Lib.hid (Own.push (R := sR) (a := x) HS6_.out.st.1 hown7)
                  have HPT := Lib.hid (St.put1 HS6_.out HOR.out HZ.out.1 hgrow7 HO7.out)
                  obtain ⟨d0, d1, d2, d3⟩ : w7.cell? ⟨mm, 0, none⟩ = some (.slice A1 n1 q1) ∧ w7.cell? ⟨mm, 1, none⟩ = some (.slice A2 n2 q2) ∧ w7.cell? ⟨mm, 2, none⟩ = some (.slice A3 n3 q3) ∧ w7.cell? ⟨mm, 3, none⟩ = some (.slice A4 n4 q4) := by simp [World.cell?, hrow9.2.2.1]
                  obtain ⟨f0, f1, f2, f3⟩ : w7.frozen? ⟨mm, 0, none⟩ = false ∧ w7.frozen? ⟨mm, 1, none⟩ = false ∧ w7.frozen? ⟨mm, 2, none⟩ = false ∧ w7.frozen? ⟨mm, 3, none⟩ = false := by simp [World.frozen?, hrow9.2.2.1]
                  clear hrow9 hown7 hgrow7 HO7
                  simp only at HPT
                  refine take_yes 6 (some 62) (v := ?v6_4) rfl rfl (by kernel_rfl) (by kernel_rfl) (by kernel_rfl) (fun _ _ _ h => h) (by kernel_rfl) ?h6_4 (by assumption) ?_
                  case h6_4 =>
                    intro w hSw
                    (try dsimp only at hSw)
                    (try go_split_ands)
                    go_simp
                    try with_reducible rfl
                  (try simp only [Act.put, List.setIfInBounds_toArray, List.set_cons_zero, List.set_cons_succ])
                  refine wpAnyH_ready (rs := [7]) (by kernel_rfl) (by simp) ?_
                  refine AllReadyH.cons rfl (fun K hK => ?_) AllReadyH.nil
                  go_simp
                  refine hK.out _ _ trivial (fun hHeld10 => ?_)
                  clear hK K hHeld9 d0 d1 d2 d3 f0 f1 f2 f3
                  (try simp only [Act.put, List.setIfInBounds_toArray, List.set_cons_zero, List.set_cons_succ])
                  refine wpAnyH_done (by kernel_rfl) ?_ _
                  have HNEW : Hid (Whole c' ⟨l.stations ++ [x], l.points, l.sections, l.links⟩ ⟨(many rdName (k + 1) (bs s) k4).1, [], [], []⟩) := fun _ => by rw [HL.out, HM.out]
                  have HSN : Hid (∃ v' l' B2', St w w.heap.size bb mm B1 B2' s (w7.setCell ⟨mm, 0, none⟩ (.slice (some ⟨gg, 0, none⟩) (n1 + 1) cap)) v' l' (many rdName (k + 1) (bs s) k4).2 ∧ B1 ≤ B2' ∧ (NilP v' l' ∧ v'.n3 = 0 ∧ v'.n4 = 0) ∧ v'.n1 ≤ k + 1 ∧ Few v' ∧ Whole (many rdName (k + 1) (bs s) k4).2 l' ⟨(many rdName (k + 1) (bs s) k4).1, [], [], []⟩) := by
                    rw [Hid, HM.out]
                    have hnew := HNEW.out
                    rw [HM.out] at hnew
                    exact ⟨_, _, _, HPT.out, hBw7, ⟨HZ.out.1, HZ.out.2⟩, by show n1 + 1 ≤ k + 1; omega, ⟨by show n1 + 1 ≤ 255; omega, HFW.out.2⟩, hnew⟩
                  go_wp2_with fail
                  go_roundw
                  case rel =>
                    obtain ⟨v', l', B2', h1, h2, h3, h4, h5, h6⟩ := HSN.out
                    exact ⟨k + 1, v', l', B2', by omega, by go_num, h1, h2, h3, h4, h5, h6⟩
                  case measure => simp [intOf]; omega
                · go_simp
                  refine hK.out _ _ trivial (fun hHeld11 => ?_)
                  clear hK K hHeld6
                  (try simp only [Act.put, List.setIfInBounds_toArray, List.set_cons_zero, List.set_cons_succ])
                  refine wpAnyH_ready (rs := [1]) (by kernel_rfl) (by simp) ?_
                  refine AllReadyH.cons rfl (fun K hK => ?_) AllReadyH.nil
                  have hcc12 := (St.alloc HS6_.out (.cells #[.string (str x)] 9)).cells
                  simp only at hcc12
                  obtain ⟨d0, d1, d2, d3⟩ := hcc12
                  go_simp
                  refine hK.out _ _ trivial (fun hHeld12 => ?_)
                  clear hK K hHeld11 d0 d1 d2 d3
                  (try simp only [Act.put, List.setIfInBounds_toArray, List.set_cons_zero, List.set_cons_succ])
                  refine wpAnyH_ready (rs := [5]) (by kernel_rfl) (by simp) ?_
                  refine AllReadyH.cons rfl (fun K hK => ?_) AllReadyH.nil
                  have hbig13 : B1 ≤ y6.heap.size := by have := HS6_.out.big; have := HBG.out; omega
                  refine step_append_lies _ (by rfl) _ _ _ (by rfl) B1 9 ih1 _ 1 16 Try.underlying25 hih1 hy0 hy1 hy2 rfl (by omega) (.slice A1 n1 q1) n1 (sR.cs l.stations) (by rfl) (HS6_.out.st.2.alloc _) ⟨y6.heap.size, 0, none⟩ 1 1 [.string (str x)] (by rfl) (by rfl) (World.news_of_block (cs := #[.string (str x)]) (t := 9) (fr := (0, 0)) (heap_alloc_new y6 _)) (by simp [Value.oneCell']) (by omega) hn63 hby (by simp; omega) (y6.heap.size + 1) (by simp) ?_
                  intro gg cap w7 hown7 hgrow7 hat7 hlt7
                  refine hK.out _ _ trivial (fun hHeld13 => ?_)
                  clear hK K hHeld12 hbig13 hat7 hlt7
                  (try simp only [Act.put, List.setIfInBounds_toArray, List.set_cons_zero, List.set_cons_succ])
                  have hBw7 : B1 ≤ w7.heap.size := by have h8 := hgrow7.size; have h9 := HS6_.out.big; have h10 := HBG.out; simp at h8; omega
                  have hrow13 := rows_left HS6_.out HOR.out hgrow7 (fun k' hk' => by have := (HS6_.out.st.2.lt k' hk').1; have := HBG.out; omega)
                  have HO7 := Lib.hid (Own.push (R := sR) (a := x) HS6_.out.st.1 hown7)
                  have HPT := Lib.hid (St.put1 HS6_.out HOR.out HZ.out.1 hgrow7 HO7.out)
                  obtain ⟨d0, d1, d2, d3⟩ : w7.cell? ⟨mm, 0, none⟩ = some (.slice A1 n1 q1) ∧ w7.cell? ⟨mm, 1, none⟩ = some (.slice A2 n2 q2) ∧ w7.cell? ⟨mm, 2, none⟩ = some (.slice A3 n3 q3) ∧ w7.cell? ⟨mm, 3, none⟩ = some (.slice A4 n4 q4) := by simp [World.cell?, hrow13.2.2.1]
                  obtain ⟨f0, f1, f2, f3⟩ : w7.frozen? ⟨mm, 0, none⟩ = false ∧ w7.frozen? ⟨mm, 1, none⟩ = false ∧ w7.frozen? ⟨mm, 2, none⟩ = false ∧ w7.frozen? ⟨mm, 3, none⟩ = false := by simp [World.frozen?, hrow13.2.2.1]
                  clear hrow13 hown7 hgrow7 HO7
                  simp only at HPT
                  refine take_yes 6 (some 62) (v := ?v6_5) rfl rfl (by kernel_rfl) (by kernel_rfl) (by kernel_rfl) (fun _ _ _ h => h) (by kernel_rfl) ?h6_5 (by assumption) ?_
                  case h6_5 =>
                    intro w hSw
                    (try dsimp only at hSw)
                    (try go_split_ands)
                    go_simp
                    try with_reducible rfl
                  (try simp only [Act.put, List.setIfInBounds_toArray, List.set_cons_zero, List.set_cons_succ])
                  refine wpAnyH_ready (rs := [7]) (by kernel_rfl) (by simp) ?_
                  refine AllReadyH.cons rfl (fun K hK => ?_) AllReadyH.nil
                  go_simp
                  refine hK.out _ _ trivial (fun hHeld14 => ?_)
                  clear hK K hHeld13 d0 d1 d2 d3 f0 f1 f2 f3
                  (try simp only [Act.put, List.setIfInBounds_toArray, List.set_cons_zero, List.set_cons_succ])
                  refine wpAnyH_done (by kernel_rfl) ?_ _
                  have HNEW : Hid (Whole c' ⟨l.stations ++ [x], l.points, l.sections, l.links⟩ ⟨(many rdName (k + 1) (bs s) k4).1, [], [], []⟩) := fun _ => by rw [HL.out, HM.out]
                  have HSN : Hid (∃ v' l' B2', St w w.heap.size bb mm B1 B2' s (w7.setCell ⟨mm, 0, none⟩ (.slice (some ⟨gg, 0, none⟩) (n1 + 1) cap)) v' l' (many rdName (k + 1) (bs s) k4).2 ∧ B1 ≤ B2' ∧ (NilP v' l' ∧ v'.n3 = 0 ∧ v'.n4 = 0) ∧ v'.n1 ≤ k + 1 ∧ Few v' ∧ Whole (many rdName (k + 1) (bs s) k4).2 l' ⟨(many rdName (k + 1) (bs s) k4).1, [], [], []⟩) := by
                    rw [Hid, HM.out]
                    have hnew := HNEW.out
                    rw [HM.out] at hnew
                    exact ⟨_, _, _, HPT.out, hBw7, ⟨HZ.out.1, HZ.out.2⟩, by show n1 + 1 ≤ k + 1; omega, ⟨by show n1 + 1 ≤ 255; omega, HFW.out.2⟩, hnew⟩
                  go_wp2_with fail
                  go_roundw
                  case rel =>
                    obtain ⟨v', l', B2', h1, h2, h3, h4, h5, h6⟩ := HSN.out
                    exact ⟨k + 1, v', l', B2', by omega, by go_num, h1, h2, h3, h4, h5, h6⟩
                  case measure => simp [intOf]; omega
          · have hkn : ¬ (k : Int) < (a1 : Int) := by omega
            have HF : Hid (∃ v l B2, St w w.heap.size bb mm B1 B2 s wr v l k5 ∧ B1 ≤ B2 ∧ (v.n2 = 0 ∧ v.n3 = 0 ∧ v.n4 = 0) ∧ Few v ∧ Whole k5 l ⟨S, [], [], []⟩) := by
              have hst := HST.out; have hZ := HZ.out; have hwh := HWH.out
              have e : k = a1 := by omega
              rw [e, E1.out] at hst hwh
              exact ⟨v, l, B2, hst, hB, ⟨hZ.1.2.1, hZ.2.1, hZ.2.2⟩, HFW.out, hwh⟩
            clear HST HZ HFW HWH
            go_wp2_with fail
            go_meet
            exact HF.out
      case rest =>
        obtain ⟨v, l, B2, hst, hB, hZ, hfew, hwh⟩ := hcut
        have HS1 := Lib.hid hst
        have HZ1 := Lib.hid hZ
        have HF1 := Lib.hid hfew
        have HW1 := Lib.hid hwh
        clear hst hZ hfew hwh
        have HBB1 := Lib.hid hB
        clear hB
        go_upto_block 2 with fail
        go_cut [12] from 63 to 82 (fun i wx => ∃ v l B2, St w w.heap.size bb mm B1 B2 s wx v l k6 ∧ B1 ≤ B2 ∧ (v.n3 = 0 ∧ v.n4 = 0) ∧ Few v ∧ Whole k6 l ⟨S, P, [], []⟩)
        case first =>
          go_wp2_with fail
          go_loopw [12] (fun i wr => ∃ (k : Nat) (v : LV) (l : Lay) (B2 : Nat), k ≤ a2 ∧ i = .int .i64 k ∧ St w w.heap.size bb mm B1 B2 s wr v l (many rdName k (bs s) k5).2 ∧ B1 ≤ B2 ∧ (v.n3 = 0 ∧ v.n4 = 0) ∧ v.n2 ≤ k ∧ Few v ∧ Whole (many rdName k (bs s) k5).2 l ⟨S, (many rdName k (bs s) k5).1, [], []⟩) (fun i _ => a2 - (intOf i).toNat)
          case atStart => exact ⟨0, v, l, B2, Nat.zero_le _, rfl, HS1.out, HBB1.out, (by have hZ := HZ1.out; exact ⟨hZ.2.1, hZ.2.2⟩), (by have hZ := HZ1.out; have : v.n2 = 0 := hZ.1; omega), HF1.out, HW1.out⟩
          case round =>
            obtain ⟨k, v, l, B2, hk, rfl, hst, hB, hZ, hnk, hfew, hwh⟩ := hrel
            clear HS1 HZ1 HF1 HW1 HBB1
            have HST := Lib.hid hst
            have HZ := Lib.hid hZ
            have HFW := Lib.hid hfew
            have HWH := Lib.hid hwh
            obtain ⟨c0, c1, c2⟩ := hst.cu.cells
            clear hst hZ hfew hwh
            by_cases hlt : k < a2
            · have hkn : (k : Int) < (a2 : Int) := by omega
              obtain ⟨tf, hct⟩ : ∃ tf, (many rdName k (bs s) k5).2.2 = tf := ⟨_, rfl⟩
              cases tf with
              | true =>
                rw [hct] at c2
                have hKK := M2.out k (by omega) hct
                have HF : Hid (∃ v l B2, St w w.heap.size bb mm B1 B2 s wr v l k6 ∧ B1 ≤ B2 ∧ (v.n3 = 0 ∧ v.n4 = 0) ∧ Few v ∧ Whole k6 l ⟨S, P, [], []⟩) := by
                  have hst := HST.out; have hZ := HZ.out
                  rw [hKK] at hst
                  exact ⟨v, l, B2, hst, hB, hZ, HFW.out, fun h => by rw [← hKK, hct] at h; cases h⟩
                clear hKK hct HST HZ HFW HWH
                go_wp2_with fail
                go_meet
                exact HF.out
              | false =>
                rw [hct] at c2
                have HL := Lib.hid (HWH.out hct)
                clear HWH hct
                obtain ⟨⟨x, c'⟩, hxe⟩ : ∃ r, rdName (bs s) (many rdName k (bs s) k5).2 = r := ⟨_, rfl⟩
                have HM : Hid (many rdName (k + 1) (bs s) k5 = ((many rdName k (bs s) k5).1 ++ [x], c')) := by rw [Hid, many_succ, hxe]
                have hq := Q2.out k
                obtain ⟨A1, n1, q1, A2, n2, q2, A3, n3, q3, A4, n4, q4⟩ := v
                simp only at hnk
                have HOR : Hid (Ord w w.heap.size bb mm B1 B2) := by have := HORD.out; exact ⟨this.o1, this.o2, this.o3, this.o4, hB⟩
                have hn63 : n2 + 1 ≤ maxLen := by unfold maxLen; omega
                have hby : (n2 + 1) * 16 ≤ 140737488355328 := by omega
                have HBG : Hid (B1 ≤ B2) := hB
                have HN := Lib.hid (fun wx hx => r_name_eq bb s _ _ wx hxe hx hq hs)
                simp only at HN
                have HS0 : Hid (St w w.heap.size bb mm B1 B2 s wr.drew ⟨A1, n1, q1, A2, n2, q2, A3, n3, q3, A4, n4, q4⟩ l (many rdName k (bs s) k5).2) := HST.out.draws 1
                clear hxe hq HST
                go_upto_region 14 with fail
                clear c0 c1 c2
                refine wp_region_held_drew (S := fun _ => True) (by kernel_rfl) trivial (fun hHeld => ?_)
                generalize wr.drew = y0 at *
                refine take_yes 0 (some 75) (v := ?v0_6) rfl rfl (by kernel_rfl) (by kernel_rfl) (by kernel_rfl) (fun _ _ _ h => h) (by kernel_rfl) ?h0_6 (by assumption) ?_
                case h0_6 =>
                  intro w hSw
                  (try dsimp only at hSw)
                  (try go_split_ands)
                  go_simp
                  try with_reducible rfl
                (try simp only [Act.put, List.setIfInBounds_toArray, List.set_cons_zero, List.set_cons_succ])
                refine take_yes 2 (some 77) (v := ?v2_7) rfl rfl (by kernel_rfl) (by kernel_rfl) (by kernel_rfl) (fun _ _ _ h => h) (by kernel_rfl) ?h2_7 (by assumption) ?_
                case h2_7 =>
                  intro w hSw
                  (try dsimp only at hSw)
                  (try go_split_ands)
                  go_simp
                  try with_reducible rfl
                (try simp only [Act.put, List.setIfInBounds_toArray, List.set_cons_zero, List.set_cons_succ])
                refine wpAnyH_ready (rs := [1, 3]) (by kernel_rfl) (by simp) ?_
                refine AllReadyH.cons rfl (fun K hK => ?_) (AllReadyH.cons rfl (fun K hK => ?_) AllReadyH.nil)
                · have hcc15 := HS0.out.cells
                  simp only at hcc15
                  obtain ⟨d0, d1, d2, d3⟩ := hcc15
                  go_simp
                  refine hK.out _ _ trivial (fun hHeld15 => ?_)
                  clear hK K hHeld d0 d1 d2 d3
                  (try simp only [Act.put, List.setIfInBounds_toArray, List.set_cons_zero, List.set_cons_succ])
                  refine wpAnyH_ready (rs := [3]) (by kernel_rfl) (by simp) ?_
                  refine AllReadyH.cons rfl (fun K hK => ?_) AllReadyH.nil
                  go_simp
                  go_at_call 64
                  (with_reducible refine (HN.out _ HS0.out.cu).mono ?_)
                  rintro e y16 ⟨rfl, hcc16, hgg16⟩
                  go_wp2_with fail
                  have HS16_ := Lib.hid (HS0.out.read HOR.out hcc16 hgg16)
                  refine hK.out _ _ trivial (fun hHeld16 => ?_)
                  clear hK K hHeld15 hcc16 hgg16
                  (try simp only [Act.put, List.setIfInBounds_toArray, List.set_cons_zero, List.set_cons_succ])
                  refine wpAnyH_ready (rs := [4]) (by kernel_rfl) (by simp) ?_
                  refine AllReadyH.cons rfl (fun K hK => ?_) AllReadyH.nil
                  go_simp
                  refine hK.out _ _ trivial (fun hHeld17 => ?_)
                  clear hK K hHeld16
                  (try simp only [Act.put, List.setIfInBounds_toArray, List.set_cons_zero, List.set_cons_succ])
                  refine wpAnyH_ready (rs := [5]) (by kernel_rfl) (by simp) ?_
                  refine AllReadyH.cons rfl (fun K hK => ?_) AllReadyH.nil
                  have hbig18 : B2 ≤ y16.heap.size := by have := HS16_.out.big; have := HBG.out; omega
                  refine step_append_lies _ (by rfl) _ _ _ (by rfl) B2 9 ih1 _ 1 16 Try.underlying25 hih1 hy0 hy1 hy2 rfl (by omega) (.slice A2 n2 q2) n2 (sR.cs l.points) (by rfl) (HS16_.out.pt.2.alloc _) ⟨y16.heap.size, 0, none⟩ 1 1 [.string (str x)] (by rfl) (by rfl) (World.news_of_block (cs := #[.string (str x)]) (t := 9) (fr := (0, 0)) (heap_alloc_new y16 _)) (by simp [Value.oneCell']) (by omega) hn63 hby (by simp; omega) (y16.heap.size + 1) (by simp) ?_
                  intro gg cap w7 hown7 hgrow7 hat7 hlt7
                  refine hK.out _ _ trivial (fun hHeld18 => ?_)
                  clear hK K hHeld17 hbig18 hat7 hlt7
                  (try simp only [Act.put, List.setIfInBounds_toArray, List.set_cons_zero, List.set_cons_succ])
                  have hBw7 : B1 ≤ w7.heap.size := by have h8 := hgrow7.size; have h9 := HS16_.out.big; have h10 := HBG.out; simp at h8; omega
                  have hrow18 := rows_left HS16_.out HOR.out hgrow7 (fun k' hk' => by have := (HS16_.out.pt.2.lt k' hk').1; have := HBG.out; omega)
                  have HO7 := Lib.hid (Own.push (R := sR) (a := x) HS16_.out.pt.1 hown7)
                  have HPT := Lib.hid (St.put2 HS16_.out HOR.out hgrow7 HO7.out)
                  obtain ⟨d0, d1, d2, d3⟩ : w7.cell? ⟨mm, 0, none⟩ = some (.slice A1 n1 q1) ∧ w7.cell? ⟨mm, 1, none⟩ = some (.slice A2 n2 q2) ∧ w7.cell? ⟨mm, 2, none⟩ = some (.slice A3 n3 q3) ∧ w7.cell? ⟨mm, 3, none⟩ = some (.slice A4 n4 q4) := by simp [World.cell?, hrow18.2.2.1]
                  obtain ⟨f0, f1, f2, f3⟩ : w7.frozen? ⟨mm, 0, none⟩ = false ∧ w7.frozen? ⟨mm, 1, none⟩ = false ∧ w7.frozen? ⟨mm, 2, none⟩ = false ∧ w7.frozen? ⟨mm, 3, none⟩ = false := by simp [World.frozen?, hrow18.2.2.1]
                  clear hrow18 hown7 hgrow7 HO7
                  simp only at HPT
                  refine take_yes 6 (some 81) (v := ?v6_8) rfl rfl (by kernel_rfl) (by kernel_rfl) (by kernel_rfl) (fun _ _ _ h => h) (by kernel_rfl) ?h6_8 (by assumption) ?_
                  case h6_8 =>
                    intro w hSw
                    (try dsimp only at hSw)
                    (try go_split_ands)
                    go_simp
                    try with_reducible rfl
                  (try simp only [Act.put, List.setIfInBounds_toArray, List.set_cons_zero, List.set_cons_succ])
                  refine wpAnyH_ready (rs := [7]) (by kernel_rfl) (by simp) ?_
                  refine AllReadyH.cons rfl (fun K hK => ?_) AllReadyH.nil
                  go_simp
                  refine hK.out _ _ trivial (fun hHeld19 => ?_)
                  clear hK K hHeld18 d0 d1 d2 d3 f0 f1 f2 f3
                  (try simp only [Act.put, List.setIfInBounds_toArray, List.set_cons_zero, List.set_cons_succ])
                  refine wpAnyH_done (by kernel_rfl) ?_ _
                  have HNEW : Hid (Whole c' ⟨l.stations, l.points ++ [x], l.sections, l.links⟩ ⟨S, (many rdName (k + 1) (bs s) k5).1, [], []⟩) := fun _ => by rw [HL.out, HM.out]
                  have HSN : Hid (∃ v' l' B2', St w w.heap.size bb mm B1 B2' s (w7.setCell ⟨mm, 1, none⟩ (.slice (some ⟨gg, 0, none⟩) (n2 + 1) cap)) v' l' (many rdName (k + 1) (bs s) k5).2 ∧ B1 ≤ B2' ∧ (v'.n3 = 0 ∧ v'.n4 = 0) ∧ v'.n2 ≤ k + 1 ∧ Few v' ∧ Whole (many rdName (k + 1) (bs s) k5).2 l' ⟨S, (many rdName (k + 1) (bs s) k5).1, [], []⟩) := by
                    rw [Hid, HM.out]
                    have hnew := HNEW.out
                    rw [HM.out] at hnew
                    exact ⟨_, _, _, HPT.out, HBG.out, HZ.out, by show n2 + 1 ≤ k + 1; omega, ⟨HFW.out.1, by show n2 + 1 ≤ 255; omega, HFW.out.2.2⟩, hnew⟩
                  go_wp2_with fail
                  go_roundw
                  case rel =>
                    obtain ⟨v', l', B2', h1, h2, h3, h4, h5, h6⟩ := HSN.out
                    exact ⟨k + 1, v', l', B2', by omega, by go_num, h1, h2, h3, h4, h5, h6⟩
                  case measure => simp [intOf]; omega
                · go_simp
                  go_at_call 64
                  (with_reducible refine (HN.out _ HS0.out.cu).mono ?_)
                  rintro e y20 ⟨rfl, hcc20, hgg20⟩
                  go_wp2_with fail
                  have HS20_ := Lib.hid (HS0.out.read HOR.out hcc20 hgg20)
                  refine hK.out _ _ trivial (fun hHeld20 => ?_)
                  clear hK K hHeld hcc20 hgg20
                  (try simp only [Act.put, List.setIfInBounds_toArray, List.set_cons_zero, List.set_cons_succ])
                  refine wpAnyH_ready (rs := [1, 4]) (by kernel_rfl) (by simp) ?_
                  refine AllReadyH.cons rfl (fun K hK => ?_) (AllReadyH.cons rfl (fun K hK => ?_) AllReadyH.nil)
                  · have hcc21 := HS20_.out.cells
                    simp only at hcc21
                    obtain ⟨d0, d1, d2, d3⟩ := hcc21
                    go_simp
                    refine hK.out _ _ trivial (fun hHeld21 => ?_)
                    clear hK K hHeld20 d0 d1 d2 d3
                    (try simp only [Act.put, List.setIfInBounds_toArray, List.set_cons_zero, List.set_cons_succ])
                    refine wpAnyH_ready (rs := [4]) (by kernel_rfl) (by simp) ?_
                    refine AllReadyH.cons rfl (fun K hK => ?_) AllReadyH.nil
                    go_simp
                    refine hK.out _ _ trivial (fun hHeld22 => ?_)
                    clear hK K hHeld21
                    (try simp only [Act.put, List.setIfInBounds_toArray, List.set_cons_zero, List.set_cons_succ])
                    refine wpAnyH_ready (rs := [5]) (by kernel_rfl) (by simp) ?_
                    refine AllReadyH.cons rfl (fun K hK => ?_) AllReadyH.nil
                    have hbig23 : B2 ≤ y20.heap.size := by have := HS20_.out.big; have := HBG.out; omega
                    refine step_append_lies _ (by rfl) _ _ _ (by rfl) B2 9 ih1 _ 1 16 Try.underlying25 hih1 hy0 hy1 hy2 rfl (by omega) (.slice A2 n2 q2) n2 (sR.cs l.points) (by rfl) (HS20_.out.pt.2.alloc _) ⟨y20.heap.size, 0, none⟩ 1 1 [.string (str x)] (by rfl) (by rfl) (World.news_of_block (cs := #[.string (str x)]) (t := 9) (fr := (0, 0)) (heap_alloc_new y20 _)) (by simp [Value.oneCell']) (by omega) hn63 hby (by simp; omega) (y20.heap.size + 1) (by simp) ?_
                    intro gg cap w7 hown7 hgrow7 hat7 hlt7
                    refine hK.out _ _ trivial (fun hHeld23 => ?_)
                    clear hK K hHeld22 hbig23 hat7 hlt7
                    (try simp only [Act.put, List.setIfInBounds_toArray, List.set_cons_zero, List.set_cons_succ])
                    have hBw7 : B1 ≤ w7.heap.size := by have h8 := hgrow7.size; have h9 := HS20_.out.big; have h10 := HBG.out; simp at h8; omega
                    have hrow23 := rows_left HS20_.out HOR.out hgrow7 (fun k' hk' => by have := (HS20_.out.pt.2.lt k' hk').1; have := HBG.out; omega)
                    have HO7 := Lib.hid (Own.push (R := sR) (a := x) HS20_.out.pt.1 hown7)
                    have HPT := Lib.hid (St.put2 HS20_.out HOR.out hgrow7 HO7.out)
                    obtain ⟨d0, d1, d2, d3⟩ : w7.cell? ⟨mm, 0, none⟩ = some (.slice A1 n1 q1) ∧ w7.cell? ⟨mm, 1, none⟩ = some (.slice A2 n2 q2) ∧ w7.cell? ⟨mm, 2, none⟩ = some (.slice A3 n3 q3) ∧ w7.cell? ⟨mm, 3, none⟩ = some (.slice A4 n4 q4) := by simp [World.cell?, hrow23.2.2.1]
                    obtain ⟨f0, f1, f2, f3⟩ : w7.frozen? ⟨mm, 0, none⟩ = false ∧ w7.frozen? ⟨mm, 1, none⟩ = false ∧ w7.frozen? ⟨mm, 2, none⟩ = false ∧ w7.frozen? ⟨mm, 3, none⟩ = false := by simp [World.frozen?, hrow23.2.2.1]
                    clear hrow23 hown7 hgrow7 HO7
                    simp only at HPT
                    refine take_yes 6 (some 81) (v := ?v6_9) rfl rfl (by kernel_rfl) (by kernel_rfl) (by kernel_rfl) (fun _ _ _ h => h) (by kernel_rfl) ?h6_9 (by assumption) ?_
                    case h6_9 =>
                      intro w hSw
                      (try dsimp only at hSw)
                      (try go_split_ands)
                      go_simp
                      try with_reducible rfl
                    (try simp only [Act.put, List.setIfInBounds_toArray, List.set_cons_zero, List.set_cons_succ])
                    refine wpAnyH_ready (rs := [7]) (by kernel_rfl) (by simp) ?_
                    refine AllReadyH.cons rfl (fun K hK => ?_) AllReadyH.nil
                    go_simp
                    refine hK.out _ _ trivial (fun hHeld24 => ?_)
                    clear hK K hHeld23 d0 d1 d2 d3 f0 f1 f2 f3
                    (try simp only [Act.put, List.setIfInBounds_toArray, List.set_cons_zero, List.set_cons_succ])
                    refine wpAnyH_done (by kernel_rfl) ?_ _
                    have HNEW : Hid (Whole c' ⟨l.stations, l.points ++ [x], l.sections, l.links⟩ ⟨S, (many rdName (k + 1) (bs s) k5).1, [], []⟩) := fun _ => by rw [HL.out, HM.out]
                    have HSN : Hid (∃ v' l' B2', St w w.heap.size bb mm B1 B2' s (w7.setCell ⟨mm, 1, none⟩ (.slice (some ⟨gg, 0, none⟩) (n2 + 1) cap)) v' l' (many rdName (k + 1) (bs s) k5).2 ∧ B1 ≤ B2' ∧ (v'.n3 = 0 ∧ v'.n4 = 0) ∧ v'.n2 ≤ k + 1 ∧ Few v' ∧ Whole (many rdName (k + 1) (bs s) k5).2 l' ⟨S, (many rdName (k + 1) (bs s) k5).1, [], []⟩) := by
                      rw [Hid, HM.out]
                      have hnew := HNEW.out
                      rw [HM.out] at hnew
                      exact ⟨_, _, _, HPT.out, HBG.out, HZ.out, by show n2 + 1 ≤ k + 1; omega, ⟨HFW.out.1, by show n2 + 1 ≤ 255; omega, HFW.out.2.2⟩, hnew⟩
                    go_wp2_with fail
                    go_roundw
                    case rel =>
                      obtain ⟨v', l', B2', h1, h2, h3, h4, h5, h6⟩ := HSN.out
                      exact ⟨k + 1, v', l', B2', by omega, by go_num, h1, h2, h3, h4, h5, h6⟩
                    case measure => simp [intOf]; omega
                  · go_simp
                    refine hK.out _ _ trivial (fun hHeld25 => ?_)
                    clear hK K hHeld20
                    (try simp only [Act.put, List.setIfInBounds_toArray, List.set_cons_zero, List.set_cons_succ])
                    refine wpAnyH_ready (rs := [1]) (by kernel_rfl) (by simp) ?_
                    refine AllReadyH.cons rfl (fun K hK => ?_) AllReadyH.nil
                    have hcc26 := (St.alloc HS20_.out (.cells #[.string (str x)] 9)).cells
                    simp only at hcc26
                    obtain ⟨d0, d1, d2, d3⟩ := hcc26
                    go_simp
                    refine hK.out _ _ trivial (fun hHeld26 => ?_)
                    clear hK K hHeld25 d0 d1 d2 d3
                    (try simp only [Act.put, List.setIfInBounds_toArray, List.set_cons_zero, List.set_cons_succ])
                    refine wpAnyH_ready (rs := [5]) (by kernel_rfl) (by simp) ?_
                    refine AllReadyH.cons rfl (fun K hK => ?_) AllReadyH.nil
                    have hbig27 : B2 ≤ y20.heap.size := by have := HS20_.out.big; have := HBG.out; omega
                    refine step_append_lies _ (by rfl) _ _ _ (by rfl) B2 9 ih1 _ 1 16 Try.underlying25 hih1 hy0 hy1 hy2 rfl (by omega) (.slice A2 n2 q2) n2 (sR.cs l.points) (by rfl) (HS20_.out.pt.2.alloc _) ⟨y20.heap.size, 0, none⟩ 1 1 [.string (str x)] (by rfl) (by rfl) (World.news_of_block (cs := #[.string (str x)]) (t := 9) (fr := (0, 0)) (heap_alloc_new y20 _)) (by simp [Value.oneCell']) (by omega) hn63 hby (by simp; omega) (y20.heap.size + 1) (by simp) ?_
                    intro gg cap w7 hown7 hgrow7 hat7 hlt7
                    refine hK.out _ _ trivial (fun hHeld27 => ?_)
                    clear hK K hHeld26 hbig27 hat7 hlt7
                    (try simp only [Act.put, List.setIfInBounds_toArray, List.set_cons_zero, List.set_cons_succ])
                    have hBw7 : B1 ≤ w7.heap.size := by have h8 := hgrow7.size; have h9 := HS20_.out.big; have h10 := HBG.out; simp at h8; omega
                    have hrow27 := rows_left HS20_.out HOR.out hgrow7 (fun k' hk' => by have := (HS20_.out.pt.2.lt k' hk').1; have := HBG.out; omega)
                    have HO7 := Lib.hid (Own.push (R := sR) (a := x) HS20_.out.pt.1 hown7)
                    have HPT := Lib.hid (St.put2 HS20_.out HOR.out hgrow7 HO7.out)
                    obtain ⟨d0, d1, d2, d3⟩ : w7.cell? ⟨mm, 0, none⟩ = some (.slice A1 n1 q1) ∧ w7.cell? ⟨mm, 1, none⟩ = some (.slice A2 n2 q2) ∧ w7.cell? ⟨mm, 2, none⟩ = some (.slice A3 n3 q3) ∧ w7.cell? ⟨mm, 3, none⟩ = some (.slice A4 n4 q4) := by simp [World.cell?, hrow27.2.2.1]
                    obtain ⟨f0, f1, f2, f3⟩ : w7.frozen? ⟨mm, 0, none⟩ = false ∧ w7.frozen? ⟨mm, 1, none⟩ = false ∧ w7.frozen? ⟨mm, 2, none⟩ = false ∧ w7.frozen? ⟨mm, 3, none⟩ = false := by simp [World.frozen?, hrow27.2.2.1]
                    clear hrow27 hown7 hgrow7 HO7
                    simp only at HPT
                    refine take_yes 6 (some 81) (v := ?v6_10) rfl rfl (by kernel_rfl) (by kernel_rfl) (by kernel_rfl) (fun _ _ _ h => h) (by kernel_rfl) ?h6_10 (by assumption) ?_
                    case h6_10 =>
                      intro w hSw
                      (try dsimp only at hSw)
                      (try go_split_ands)
                      go_simp
                      try with_reducible rfl
                    (try simp only [Act.put, List.setIfInBounds_toArray, List.set_cons_zero, List.set_cons_succ])
                    refine wpAnyH_ready (rs := [7]) (by kernel_rfl) (by simp) ?_
                    refine AllReadyH.cons rfl (fun K hK => ?_) AllReadyH.nil
                    go_simp
                    refine hK.out _ _ trivial (fun hHeld28 => ?_)
                    clear hK K hHeld27 d0 d1 d2 d3 f0 f1 f2 f3
                    (try simp only [Act.put, List.setIfInBounds_toArray, List.set_cons_zero, List.set_cons_succ])
                    refine wpAnyH_done (by kernel_rfl) ?_ _
                    have HNEW : Hid (Whole c' ⟨l.stations, l.points ++ [x], l.sections, l.links⟩ ⟨S, (many rdName (k + 1) (bs s) k5).1, [], []⟩) := fun _ => by rw [HL.out, HM.out]
                    have HSN : Hid (∃ v' l' B2', St w w.heap.size bb mm B1 B2' s (w7.setCell ⟨mm, 1, none⟩ (.slice (some ⟨gg, 0, none⟩) (n2 + 1) cap)) v' l' (many rdName (k + 1) (bs s) k5).2 ∧ B1 ≤ B2' ∧ (v'.n3 = 0 ∧ v'.n4 = 0) ∧ v'.n2 ≤ k + 1 ∧ Few v' ∧ Whole (many rdName (k + 1) (bs s) k5).2 l' ⟨S, (many rdName (k + 1) (bs s) k5).1, [], []⟩) := by
                      rw [Hid, HM.out]
                      have hnew := HNEW.out
                      rw [HM.out] at hnew
                      exact ⟨_, _, _, HPT.out, HBG.out, HZ.out, by show n2 + 1 ≤ k + 1; omega, ⟨HFW.out.1, by show n2 + 1 ≤ 255; omega, HFW.out.2.2⟩, hnew⟩
                    go_wp2_with fail
                    go_roundw
                    case rel =>
                      obtain ⟨v', l', B2', h1, h2, h3, h4, h5, h6⟩ := HSN.out
                      exact ⟨k + 1, v', l', B2', by omega, by go_num, h1, h2, h3, h4, h5, h6⟩
                    case measure => simp [intOf]; omega
            · have hkn : ¬ (k : Int) < (a2 : Int) := by omega
              have HF : Hid (∃ v l B2, St w w.heap.size bb mm B1 B2 s wr v l k6 ∧ B1 ≤ B2 ∧ (v.n3 = 0 ∧ v.n4 = 0) ∧ Few v ∧ Whole k6 l ⟨S, P, [], []⟩) := by
                have hst := HST.out; have hZ := HZ.out; have hwh := HWH.out
                have e : k = a2 := by omega
                rw [e, E2.out] at hst hwh
                exact ⟨v, l, B2, hst, hB, hZ, HFW.out, hwh⟩
              clear HST HZ HFW HWH
              go_wp2_with fail
              go_meet
              exact HF.out
        case rest =>
          obtain ⟨v, l, B2, hst, hB, hZ, hfew, hwh⟩ := hcut
          have HS2 := Lib.hid hst
          have HZ2 := Lib.hid hZ
          have HF2 := Lib.hid hfew
          have HW2 := Lib.hid hwh
          clear hst hZ hfew hwh
          have HBB2 := Lib.hid hB
          clear hB
          go_upto_block 4 with fail
          go_cut [13] from 82 to 115 (fun i wx => ∃ v l B2, St w w.heap.size bb mm B1 B2 s wx v l k7 ∧ B1 ≤ B2 ∧ (v.n4 = 0) ∧ Few v ∧ Whole k7 l ⟨S, P, X, []⟩)
          case first =>
            go_wp2_with fail
            go_loopw [13] (fun i wr => ∃ (k : Nat) (v : LV) (l : Lay) (B2 : Nat), k ≤ a3 ∧ i = .int .i64 k ∧ St w w.heap.size bb mm B1 B2 s wr v l (many rdSec k (bs s) k6).2 ∧ B1 ≤ B2 ∧ (v.n4 = 0) ∧ v.n3 ≤ k ∧ Few v ∧ Whole (many rdSec k (bs s) k6).2 l ⟨S, P, (many rdSec k (bs s) k6).1, []⟩) (fun i _ => a3 - (intOf i).toNat)
            case atStart => exact ⟨0, v, l, B2, Nat.zero_le _, rfl, HS2.out, HBB2.out, (by have hZ := HZ2.out; exact hZ.2), (by have hZ := HZ2.out; have : v.n3 = 0 := hZ.1; omega), HF2.out, HW2.out⟩
            case round =>
              obtain ⟨k, v, l, B2, hk, rfl, hst, hB, hZ, hnk, hfew, hwh⟩ := hrel
              clear HS2 HZ2 HF2 HW2 HBB2
              have HST := Lib.hid hst
              have HZ := Lib.hid hZ
              have HFW := Lib.hid hfew
              have HWH := Lib.hid hwh
              obtain ⟨c0, c1, c2⟩ := hst.cu.cells
              clear hst hZ hfew hwh
              by_cases hlt : k < a3
              · have hkn : (k : Int) < (a3 : Int) := by omega
                obtain ⟨tf, hct⟩ : ∃ tf, (many rdSec k (bs s) k6).2.2 = tf := ⟨_, rfl⟩
                cases tf with
                | true =>
                  rw [hct] at c2
                  have hKK := M3.out k (by omega) hct
                  have HF : Hid (∃ v l B2, St w w.heap.size bb mm B1 B2 s wr v l k7 ∧ B1 ≤ B2 ∧ (v.n4 = 0) ∧ Few v ∧ Whole k7 l ⟨S, P, X, []⟩) := by
                    have hst := HST.out; have hZ := HZ.out
                    rw [hKK] at hst
                    exact ⟨v, l, B2, hst, hB, hZ, HFW.out, fun h => by rw [← hKK, hct] at h; cases h⟩
                  clear hKK hct HST HZ HFW HWH
                  go_wp2_with fail
                  go_meet
                  exact HF.out
                | false =>
                  rw [hct] at c2
                  have HL := Lib.hid (HWH.out hct)
                  clear HWH hct
                  obtain ⟨⟨x1, e1⟩, g1⟩ : ∃ r, rdName (bs s) (many rdSec k (bs s) k6).2 = r := ⟨_, rfl⟩
                  obtain ⟨⟨x2, e2⟩, g2⟩ : ∃ r, rdNum 2 (bs s) e1 = r := ⟨_, rfl⟩
                  obtain ⟨⟨x3, e3⟩, g3⟩ : ∃ r, rdNum 3 (bs s) e2 = r := ⟨_, rfl⟩
                  obtain ⟨⟨x4, e4⟩, g4⟩ : ∃ r, rdNum 1 (bs s) e3 = r := ⟨_, rfl⟩
                  obtain ⟨⟨x5, c'⟩, g5⟩ : ∃ r, rdNum 1 (bs s) e4 = r := ⟨_, rfl⟩
                  have hxe : rdSec (bs s) (many rdSec k (bs s) k6).2 = (⟨x1, x2, x3, (x4 : Int) - 40, (x5 : Int) - 1⟩, c') := by revert g1; generalize (many rdSec k (bs s) k6).2 = cc; intro g1; simp only [rdSec, bnd, ret, g1, g2, g3, g4, g5]
                  have HM : Hid (many rdSec (k + 1) (bs s) k6 = ((many rdSec k (bs s) k6).1 ++ [⟨x1, x2, x3, (x4 : Int) - 40, (x5 : Int) - 1⟩], c')) := by rw [Hid, many_succ, hxe]
                  have hq := Q3.out k
                  have r1 := name_pos g1 hq
                  have r2 := num_pos g2 r1
                  have r3 := num_pos g3 r2
                  have r4 := num_pos g4 r3
                  have b4 := num_lt g4
                  have b5 := num_lt g5
                  simp only at r1 r2 r3 r4 b4 b5
                  have T1 := Lib.hid (fun wx hx => r_name_eq bb s _ _ wx g1 hx hq hs)
                  have T2 := Lib.hid (fun wx hx => r_number_eq bb 2 s e1 _ wx g2 hx r1 (by omega) hs)
                  have T3 := Lib.hid (fun wx hx => r_number_eq bb 3 s e2 _ wx g3 hx r2 (by omega) hs)
                  have T4 := Lib.hid (fun wx hx => r_number_eq bb 1 s e3 _ wx g4 hx r3 (by omega) hs)
                  have T5 := Lib.hid (fun wx hx => r_number_eq bb 1 s e4 _ wx g5 hx r4 (by omega) hs)
                  simp only at T1 T2 T3 T4 T5
                  clear g1 g2 g3 g4 g5 hxe hq r1 r2 r3 r4
                  obtain ⟨A1, n1, q1, A2, n2, q2, A3, n3, q3, A4, n4, q4⟩ := v
                  simp only at hnk
                  have HOR : Hid (Ord w w.heap.size bb mm B1 B2) := by have := HORD.out; exact ⟨this.o1, this.o2, this.o3, this.o4, hB⟩
                  have hn63 : n3 + 1 ≤ maxLen := by unfold maxLen; omega
                  have hby : (n3 + 1) * 48 ≤ 140737488355328 := by omega
                  have HBG : Hid (B1 ≤ B2) := hB
                  go_wp2_with fail
                  refine (T1.out _ HST.out.cu).mono ?_
                  rintro e y1 ⟨rfl, hcx, hgx⟩
                  have S1_ := Lib.hid (HST.out.read HOR.out hcx hgx)
                  clear c0 c1 c2 hcx hgx HST T1
                  go_wp2_with fail
                  refine (T2.out _ S1_.out.cu).mono ?_
                  rintro e y2 ⟨rfl, hcx, hgx⟩
                  have S2_ := Lib.hid (S1_.out.read HOR.out hcx hgx)
                  clear hcx hgx S1_ T2
                  go_wp2_with fail
                  refine (T3.out _ S2_.out.cu).mono ?_
                  rintro e y3 ⟨rfl, hcx, hgx⟩
                  have S3_ := Lib.hid (S2_.out.read HOR.out hcx hgx)
                  clear hcx hgx S2_ T3
                  obtain ⟨Ye, hYe⟩ : ∃ Ye, y3.alloc (.cells #[.string (str x1), .int .i64 x2, .int .i64 x3, .int .i64 0, .int .i64 0] 66) = Ye := ⟨_, rfl⟩
                  have S4_ : Hid (St w w.heap.size bb mm B1 B2 s Ye ⟨A1, n1, q1, A2, n2, q2, A3, n3, q3, A4, n4, q4⟩ l e3) := by rw [Hid, ← hYe]; exact S3_.out.alloc _
                  have hlow := S3_.out.low
                  have hme := S3_.out.mlt
                  have hze : y3.heap.size < Ye.heap.size := by rw [← hYe]; simp
                  have he4 : Ye.heap[y3.heap.size]? = some (.cells #[.string (str x1), .int .i64 x2, .int .i64 x3, .int .i64 0, .int .i64 0] 66 (0, 0)) := by rw [← hYe]; exact heap_alloc_new _ _
                  have hbe : bb ≠ y3.heap.size := by have := HORD.out.o3; omega
                  have HYe := Lib.hid hYe
                  have HE4 := Lib.hid he4
                  have HLOW := Lib.hid hlow
                  clear hYe he4 S3_ hlow
                  go_upto_region 19 with fail
                  rw [HYe.out]
                  clear HYe
                  go_wp2_with fail
                  refine (T4.out _ S4_.out.cu).mono ?_
                  rintro e y5 ⟨rfl, hcx, hgx⟩
                  have S5_ := Lib.hid (S4_.out.read HOR.out hcx hgx)
                  have HE5 := Lib.hid ((hgx.block _ hze (fun e => hbe (by injection e with e; exact e.symm))).trans HE4.out)
                  have hz5 := hgx.size
                  clear hcx hgx S4_ T4 HE4
                  go_wp2_with fail
                  refine (T5.out _ S5_.out.cu).mono ?_
                  rintro e y6 ⟨rfl, hcx, hgx⟩
                  have S6_ := Lib.hid (S5_.out.read HOR.out hcx hgx)
                  have he6 := (hgx.block _ (by omega) (fun e => hbe (by injection e with e; exact e.symm))).trans HE5.out
                  have hz6 := hgx.size
                  have HE6 := Lib.hid he6
                  clear hcx hgx S5_ T5 HE5
                  have d3 : y6.cell? ⟨y3.heap.size, 3, none⟩ = some (.int .i64 0) := by simp [World.cell?, he6]
                  have d4 : y6.cell? ⟨y3.heap.size, 4, none⟩ = some (.int .i64 0) := by simp [World.cell?, he6]
                  have f3 : y6.frozen? ⟨y3.heap.size, 3, none⟩ = false := by simp [World.frozen?, he6]
                  have f4 : y6.frozen? ⟨y3.heap.size, 4, none⟩ = false := by simp [World.frozen?, he6]
                  obtain ⟨Yf, hYf⟩ : ∃ Yf, (y6.setCell ⟨y3.heap.size, 3, none⟩ (.int .i64 ((x4 : Int) - 40))).setCell ⟨y3.heap.size, 4, none⟩ (.int .i64 ((x5 : Int) - 1)) = Yf := ⟨_, rfl⟩
                  have S7_ : Hid (St w w.heap.size bb mm B1 B2 s Yf ⟨A1, n1, q1, A2, n2, q2, A3, n3, q3, A4, n4, q4⟩ l c') := by rw [Hid, ← hYf]; exact St.setE (St.setE S6_.out HOR.out HLOW.out hme) HOR.out HLOW.out hme
                  have hef : Yf.heap[y3.heap.size]? = some (.cells #[.string (str x1), .int .i64 x2, .int .i64 x3, .int .i64 ((x4 : Int) - 40), .int .i64 ((x5 : Int) - 1)] 66 (0, 0)) := by rw [← hYf]; simp [World.setCell, Array.getElem?_modify, he6]
                  have HYf := Lib.hid hYf
                  clear hYf he6 S6_ HE6
                  go_upto_region 20 with fail
                  rw [HYf.out]
                  clear HYf d3 d4 f3 f4
                  obtain ⟨e0_, e1_, e2_, e3_, e4_⟩ : Yf.cell? ⟨y3.heap.size, 0, none⟩ = some (.string (str x1)) ∧ Yf.cell? ⟨y3.heap.size, 1, none⟩ = some (.int .i64 x2) ∧ Yf.cell? ⟨y3.heap.size, 2, none⟩ = some (.int .i64 x3) ∧ Yf.cell? ⟨y3.heap.size, 3, none⟩ = some (.int .i64 ((x4 : Int) - 40)) ∧ Yf.cell? ⟨y3.heap.size, 4, none⟩ = some (.int .i64 ((x5 : Int) - 1)) := by simp [World.cell?, hef]
                  have hcc := S7_.out.cells
                  simp only at hcc
                  obtain ⟨d0, d1, d2, d3⟩ := hcc
                  clear hef
                  have hbgf : B1 ≤ Yf.heap.size := by have := S7_.out.big; have := HBG.out; omega
                  go_wp2_with (at_builtin; refine wpList_append_own _ rfl _ _ 26 rfl B1 66 ih3 _ 5 48 Try.underlying26 hih3 hs0 hs1 hs2 rfl (by omega) (.slice A3 n3 q3) n3 (secR.cs l.sections) rfl (S7_.out.sec.2.alloc _) ⟨Yf.heap.size, 0, none⟩ 1 1 [.string (str x1), .int .i64 x2, .int .i64 x3, .int .i64 ((x4 : Int) - 40), .int .i64 ((x5 : Int) - 1)] rfl rfl (World.news_of_block (cs := #[.string (str x1), .int .i64 x2, .int .i64 x3, .int .i64 ((x4 : Int) - 40), .int .i64 ((x5 : Int) - 1)]) (t := 66) (fr := (0, 0)) (heap_alloc_new _ _)) (by simp [Value.oneCell']) hn63 hby (by simp; omega) ?_)
                  intro v7 w7 hown7 hgrow7 _
                  have hO7 := Own.push (R := secR) (a := ⟨x1, x2, x3, (x4 : Int) - 40, (x5 : Int) - 1⟩) S7_.out.sec.1 hown7
                  obtain ⟨A', c7, rfl, _⟩ := hO7.form
                  have hrow7 := rows_left S7_.out HOR.out hgrow7 (fun k' hk' => by have := (S7_.out.sec.2.lt k' hk').1; have := HBG.out; omega)
                  have HPT := Lib.hid (St.put3 S7_.out HOR.out hgrow7 hO7)
                  clear d0 d1 d2 d3
                  obtain ⟨d0, d1, d2, d3⟩ : w7.cell? ⟨mm, 0, none⟩ = some (.slice A1 n1 q1) ∧ w7.cell? ⟨mm, 1, none⟩ = some (.slice A2 n2 q2) ∧ w7.cell? ⟨mm, 2, none⟩ = some (.slice A3 n3 q3) ∧ w7.cell? ⟨mm, 3, none⟩ = some (.slice A4 n4 q4) := by simp [World.cell?, hrow7.2.2.1]
                  obtain ⟨f0, f1, f2, f3⟩ : w7.frozen? ⟨mm, 0, none⟩ = false ∧ w7.frozen? ⟨mm, 1, none⟩ = false ∧ w7.frozen? ⟨mm, 2, none⟩ = false ∧ w7.frozen? ⟨mm, 3, none⟩ = false := by simp [World.frozen?, hrow7.2.2.1]
                  clear hrow7 hown7 hgrow7 hO7
                  simp only at HPT
                  have HNEW : Hid (Whole c' ⟨l.stations, l.points, l.sections ++ [⟨x1, x2, x3, (x4 : Int) - 40, (x5 : Int) - 1⟩], l.links⟩ ⟨S, P, (many rdSec (k + 1) (bs s) k6).1, []⟩) := fun _ => by rw [HL.out, HM.out]
                  have HSN : Hid (∃ v' l' B2', St w w.heap.size bb mm B1 B2' s (w7.setCell ⟨mm, 2, none⟩ (.slice A' (n3 + 1) c7)) v' l' (many rdSec (k + 1) (bs s) k6).2 ∧ B1 ≤ B2' ∧ (v'.n4 = 0) ∧ v'.n3 ≤ k + 1 ∧ Few v' ∧ Whole (many rdSec (k + 1) (bs s) k6).2 l' ⟨S, P, (many rdSec (k + 1) (bs s) k6).1, []⟩) := by
                    rw [Hid, HM.out]
                    have hnew := HNEW.out
                    rw [HM.out] at hnew
                    exact ⟨_, _, _, HPT.out, HBG.out, HZ.out, by show n3 + 1 ≤ k + 1; omega, ⟨HFW.out.1, HFW.out.2.1, by show n3 + 1 ≤ 255; omega, HFW.out.2.2.2⟩, hnew⟩
                  go_wp2_with fail
                  go_roundw
                  case rel =>
                    obtain ⟨v', l', B2', h1, h2, h3, h4, h5, h6⟩ := HSN.out
                    exact ⟨k + 1, v', l', B2', by omega, by go_num, h1, h2, h3, h4, h5, h6⟩
                  case measure => simp [intOf]; omega
              · have hkn : ¬ (k : Int) < (a3 : Int) := by omega
                have HF : Hid (∃ v l B2, St w w.heap.size bb mm B1 B2 s wr v l k7 ∧ B1 ≤ B2 ∧ (v.n4 = 0) ∧ Few v ∧ Whole k7 l ⟨S, P, X, []⟩) := by
                  have hst := HST.out; have hZ := HZ.out; have hwh := HWH.out
                  have e : k = a3 := by omega
                  rw [e, E3.out] at hst hwh
                  exact ⟨v, l, B2, hst, hB, hZ, HFW.out, hwh⟩
                clear HST HZ HFW HWH
                go_wp2_with fail
                go_meet
                exact HF.out
          case rest =>
            obtain ⟨v, l, B2, hst, hB, hZ, hfew, hwh⟩ := hcut
            have HS3 := Lib.hid hst
            have HZ3 := Lib.hid hZ
            have HF3 := Lib.hid hfew
            have HW3 := Lib.hid hwh
            clear hst hZ hfew hwh
            have HBB3 := Lib.hid hB
            clear hB
            go_upto_block 6 with fail
            go_cut [15] from 115 to 153 (fun i wx => ∃ v l B2, St w w.heap.size bb mm B1 B2 s wx v l k8 ∧ B1 ≤ B2 ∧ (True) ∧ Few v ∧ Whole k8 l ⟨S, P, X, K⟩)
            case first =>
              go_wp2_with fail
              go_loopw [15] (fun i wr => ∃ (k : Nat) (v : LV) (l : Lay) (B2 : Nat), k ≤ a4 ∧ i = .int .i64 k ∧ St w w.heap.size bb mm B1 B2 s wr v l (many rdLnk k (bs s) k7).2 ∧ B1 ≤ B2 ∧ (True) ∧ v.n4 ≤ k ∧ Few v ∧ Whole (many rdLnk k (bs s) k7).2 l ⟨S, P, X, (many rdLnk k (bs s) k7).1⟩) (fun i _ => a4 - (intOf i).toNat)
              case atStart => exact ⟨0, v, l, B2, Nat.zero_le _, rfl, HS3.out, HBB3.out, (by have hZ := HZ3.out; exact trivial), (by have hZ := HZ3.out; have : v.n4 = 0 := hZ; omega), HF3.out, HW3.out⟩
              case round =>
                obtain ⟨k, v, l, B2, hk, rfl, hst, hB, hZ, hnk, hfew, hwh⟩ := hrel
                clear HS3 HZ3 HF3 HW3 HBB3
                have HST := Lib.hid hst
                have HZ := Lib.hid hZ
                have HFW := Lib.hid hfew
                have HWH := Lib.hid hwh
                obtain ⟨c0, c1, c2⟩ := hst.cu.cells
                clear hst hZ hfew hwh
                by_cases hlt : k < a4
                · have hkn : (k : Int) < (a4 : Int) := by omega
                  obtain ⟨tf, hct⟩ : ∃ tf, (many rdLnk k (bs s) k7).2.2 = tf := ⟨_, rfl⟩
                  cases tf with
                  | true =>
                    rw [hct] at c2
                    have hKK := M4.out k (by omega) hct
                    have HF : Hid (∃ v l B2, St w w.heap.size bb mm B1 B2 s wr v l k8 ∧ B1 ≤ B2 ∧ (True) ∧ Few v ∧ Whole k8 l ⟨S, P, X, K⟩) := by
                      have hst := HST.out; have hZ := HZ.out
                      rw [hKK] at hst
                      exact ⟨v, l, B2, hst, hB, trivial, HFW.out, fun h => by rw [← hKK, hct] at h; cases h⟩
                    clear hKK hct HST HZ HFW HWH
                    go_wp2_with fail
                    go_meet
                    exact HF.out
                  | false =>
                    rw [hct] at c2
                    have HL := Lib.hid (HWH.out hct)
                    clear HWH hct
                    obtain ⟨⟨x1, e1⟩, g1⟩ : ∃ r, rdNum 1 (bs s) (many rdLnk k (bs s) k7).2 = r := ⟨_, rfl⟩
                    obtain ⟨⟨x2, e2⟩, g2⟩ : ∃ r, rdNum 1 (bs s) e1 = r := ⟨_, rfl⟩
                    obtain ⟨⟨x3, e3⟩, g3⟩ : ∃ r, rdNum 1 (bs s) e2 = r := ⟨_, rfl⟩
                    obtain ⟨⟨x4, c'⟩, g4⟩ : ∃ r, rdNum 1 (bs s) e3 = r := ⟨_, rfl⟩
                    have hxe : rdLnk (bs s) (many rdLnk k (bs s) k7).2 = (⟨(x1 : Int) / 2, (x1 : Int) % 2, (x2 : Int) / 2, (x2 : Int) % 2, (x3 : Int) - 1, x4⟩, c') := by revert g1; generalize (many rdLnk k (bs s) k7).2 = cc; intro g1; simp only [rdLnk, bnd, ret, g1, g2, g3, g4]
                    have HM : Hid (many rdLnk (k + 1) (bs s) k7 = ((many rdLnk k (bs s) k7).1 ++ [⟨(x1 : Int) / 2, (x1 : Int) % 2, (x2 : Int) / 2, (x2 : Int) % 2, (x3 : Int) - 1, x4⟩], c')) := by rw [Hid, many_succ, hxe]
                    have hq := Q4.out k
                    have r1 := num_pos g1 hq
                    have r2 := num_pos g2 r1
                    have r3 := num_pos g3 r2
                    have b1 := num_lt g1
                    have b2 := num_lt g2
                    have b3 := num_lt g3
                    have b4 := num_lt g4
                    simp only at r1 r2 r3 b1 b2 b3 b4
                    have T1 := Lib.hid (fun wx hx => r_number_eq bb 1 s _ _ wx g1 hx hq (by omega) hs)
                    have T2 := Lib.hid (fun wx hx => r_number_eq bb 1 s e1 _ wx g2 hx r1 (by omega) hs)
                    have T3 := Lib.hid (fun wx hx => r_number_eq bb 1 s e2 _ wx g3 hx r2 (by omega) hs)
                    have T4 := Lib.hid (fun wx hx => r_number_eq bb 1 s e3 _ wx g4 hx r3 (by omega) hs)
                    simp only at T1 T2 T3 T4
                    clear g1 g2 g3 g4 hxe hq r1 r2 r3
                    obtain ⟨A1, n1, q1, A2, n2, q2, A3, n3, q3, A4, n4, q4⟩ := v
                    simp only at hnk
                    have HOR : Hid (Ord w w.heap.size bb mm B1 B2) := by have := HORD.out; exact ⟨this.o1, this.o2, this.o3, this.o4, hB⟩
                    have hn63 : n4 + 1 ≤ maxLen := by unfold maxLen; omega
                    have hby : (n4 + 1) * 48 ≤ 140737488355328 := by omega
                    have HBG : Hid (B1 ≤ B2) := hB
                    go_wp2_with fail
                    refine (T1.out _ HST.out.cu).mono ?_
                    rintro e y1 ⟨rfl, hcx, hgx⟩
                    have S1_ := Lib.hid (HST.out.read HOR.out hcx hgx)
                    clear c0 c1 c2 hcx hgx HST T1
                    go_wp2_with fail
                    refine (T2.out _ S1_.out.cu).mono ?_
                    rintro e y2 ⟨rfl, hcx, hgx⟩
                    have S2_ := Lib.hid (S1_.out.read HOR.out hcx hgx)
                    clear hcx hgx S1_ T2
                    obtain ⟨Ye, hYe⟩ : ∃ Ye, y2.alloc (.cells #[.int .i64 ((x1 : Int) / 2), .int .i64 ((x1 : Int) % 2), .int .i64 ((x2 : Int) / 2), .int .i64 ((x2 : Int) % 2), .int .i64 0, .int .i64 0] 70) = Ye := ⟨_, rfl⟩
                    have S4_ : Hid (St w w.heap.size bb mm B1 B2 s Ye ⟨A1, n1, q1, A2, n2, q2, A3, n3, q3, A4, n4, q4⟩ l e2) := by rw [Hid, ← hYe]; exact S2_.out.alloc _
                    have hlow := S2_.out.low
                    have hme := S2_.out.mlt
                    have hze : y2.heap.size < Ye.heap.size := by rw [← hYe]; simp
                    have he4 : Ye.heap[y2.heap.size]? = some (.cells #[.int .i64 ((x1 : Int) / 2), .int .i64 ((x1 : Int) % 2), .int .i64 ((x2 : Int) / 2), .int .i64 ((x2 : Int) % 2), .int .i64 0, .int .i64 0] 70 (0, 0)) := by rw [← hYe]; exact heap_alloc_new _ _
                    have hbe : bb ≠ y2.heap.size := by have := HORD.out.o3; omega
                    have HYe := Lib.hid hYe
                    have HE4 := Lib.hid he4
                    have HLOW := Lib.hid hlow
                    clear hYe he4 S2_ hlow
                    go_upto_region 26 with fail
                    rw [HYe.out]
                    clear HYe
                    go_wp2_with fail
                    refine (T3.out _ S4_.out.cu).mono ?_
                    rintro e y5 ⟨rfl, hcx, hgx⟩
                    have S5_ := Lib.hid (S4_.out.read HOR.out hcx hgx)
                    have HE5 := Lib.hid ((hgx.block _ hze (fun e => hbe (by injection e with e; exact e.symm))).trans HE4.out)
                    have hz5 := hgx.size
                    clear hcx hgx S4_ T3 HE4
                    go_wp2_with fail
                    refine (T4.out _ S5_.out.cu).mono ?_
                    rintro e y6 ⟨rfl, hcx, hgx⟩
                    have S6_ := Lib.hid (S5_.out.read HOR.out hcx hgx)
                    have he6 := (hgx.block _ (by omega) (fun e => hbe (by injection e with e; exact e.symm))).trans HE5.out
                    have hz6 := hgx.size
                    have HE6 := Lib.hid he6
                    clear hcx hgx S5_ T4 HE5
                    have d4 : y6.cell? ⟨y2.heap.size, 4, none⟩ = some (.int .i64 0) := by simp [World.cell?, he6]
                    have d5 : y6.cell? ⟨y2.heap.size, 5, none⟩ = some (.int .i64 0) := by simp [World.cell?, he6]
                    have f4 : y6.frozen? ⟨y2.heap.size, 4, none⟩ = false := by simp [World.frozen?, he6]
                    have f5 : y6.frozen? ⟨y2.heap.size, 5, none⟩ = false := by simp [World.frozen?, he6]
                    obtain ⟨Yf, hYf⟩ : ∃ Yf, (y6.setCell ⟨y2.heap.size, 4, none⟩ (.int .i64 ((x3 : Int) - 1))).setCell ⟨y2.heap.size, 5, none⟩ (.int .i64 x4) = Yf := ⟨_, rfl⟩
                    have S7_ : Hid (St w w.heap.size bb mm B1 B2 s Yf ⟨A1, n1, q1, A2, n2, q2, A3, n3, q3, A4, n4, q4⟩ l c') := by rw [Hid, ← hYf]; exact St.setE (St.setE S6_.out HOR.out HLOW.out hme) HOR.out HLOW.out hme
                    have hef : Yf.heap[y2.heap.size]? = some (.cells #[.int .i64 ((x1 : Int) / 2), .int .i64 ((x1 : Int) % 2), .int .i64 ((x2 : Int) / 2), .int .i64 ((x2 : Int) % 2), .int .i64 ((x3 : Int) - 1), .int .i64 x4] 70 (0, 0)) := by rw [← hYf]; simp [World.setCell, Array.getElem?_modify, he6]
                    have HYf := Lib.hid hYf
                    clear hYf he6 S6_ HE6
                    go_upto_region 27 with fail
                    rw [HYf.out]
                    clear HYf d4 d5 f4 f5
                    obtain ⟨e0_, e1_, e2_, e3_, e4_, e5_⟩ : Yf.cell? ⟨y2.heap.size, 0, none⟩ = some (.int .i64 ((x1 : Int) / 2)) ∧ Yf.cell? ⟨y2.heap.size, 1, none⟩ = some (.int .i64 ((x1 : Int) % 2)) ∧ Yf.cell? ⟨y2.heap.size, 2, none⟩ = some (.int .i64 ((x2 : Int) / 2)) ∧ Yf.cell? ⟨y2.heap.size, 3, none⟩ = some (.int .i64 ((x2 : Int) % 2)) ∧ Yf.cell? ⟨y2.heap.size, 4, none⟩ = some (.int .i64 ((x3 : Int) - 1)) ∧ Yf.cell? ⟨y2.heap.size, 5, none⟩ = some (.int .i64 x4) := by simp [World.cell?, hef]
                    have hcc := S7_.out.cells
                    simp only at hcc
                    obtain ⟨d0, d1, d2, d3⟩ := hcc
                    clear hef
                    have hbgf : B1 ≤ Yf.heap.size := by have := S7_.out.big; have := HBG.out; omega
                    go_wp2_with (at_builtin; refine wpList_append_own _ rfl _ _ 27 rfl B1 70 ih4 _ 6 48 Try.underlying27 hih4 hl0 hl1 hl2 rfl (by omega) (.slice A4 n4 q4) n4 (lnkR.cs l.links) rfl (S7_.out.lnk.2.alloc _) ⟨Yf.heap.size, 0, none⟩ 1 1 [.int .i64 ((x1 : Int) / 2), .int .i64 ((x1 : Int) % 2), .int .i64 ((x2 : Int) / 2), .int .i64 ((x2 : Int) % 2), .int .i64 ((x3 : Int) - 1), .int .i64 x4] rfl rfl (World.news_of_block (cs := #[.int .i64 ((x1 : Int) / 2), .int .i64 ((x1 : Int) % 2), .int .i64 ((x2 : Int) / 2), .int .i64 ((x2 : Int) % 2), .int .i64 ((x3 : Int) - 1), .int .i64 x4]) (t := 70) (fr := (0, 0)) (heap_alloc_new _ _)) (by simp [Value.oneCell']) hn63 hby (by simp; omega) ?_)
                    intro v7 w7 hown7 hgrow7 _
                    have hO7 := Own.push (R := lnkR) (a := ⟨(x1 : Int) / 2, (x1 : Int) % 2, (x2 : Int) / 2, (x2 : Int) % 2, (x3 : Int) - 1, x4⟩) S7_.out.lnk.1 hown7
                    obtain ⟨A', c7, rfl, _⟩ := hO7.form
                    have hrow7 := rows_left S7_.out HOR.out hgrow7 (fun k' hk' => by have := (S7_.out.lnk.2.lt k' hk').1; have := HBG.out; omega)
                    have HPT := Lib.hid (St.put4 S7_.out HOR.out hgrow7 hO7)
                    clear d0 d1 d2 d3
                    obtain ⟨d0, d1, d2, d3⟩ : w7.cell? ⟨mm, 0, none⟩ = some (.slice A1 n1 q1) ∧ w7.cell? ⟨mm, 1, none⟩ = some (.slice A2 n2 q2) ∧ w7.cell? ⟨mm, 2, none⟩ = some (.slice A3 n3 q3) ∧ w7.cell? ⟨mm, 3, none⟩ = some (.slice A4 n4 q4) := by simp [World.cell?, hrow7.2.2.1]
                    obtain ⟨f0, f1, f2, f3⟩ : w7.frozen? ⟨mm, 0, none⟩ = false ∧ w7.frozen? ⟨mm, 1, none⟩ = false ∧ w7.frozen? ⟨mm, 2, none⟩ = false ∧ w7.frozen? ⟨mm, 3, none⟩ = false := by simp [World.frozen?, hrow7.2.2.1]
                    clear hrow7 hown7 hgrow7 hO7
                    simp only at HPT
                    have HNEW : Hid (Whole c' ⟨l.stations, l.points, l.sections, l.links ++ [⟨(x1 : Int) / 2, (x1 : Int) % 2, (x2 : Int) / 2, (x2 : Int) % 2, (x3 : Int) - 1, x4⟩]⟩ ⟨S, P, X, (many rdLnk (k + 1) (bs s) k7).1⟩) := fun _ => by rw [HL.out, HM.out]
                    have HSN : Hid (∃ v' l' B2', St w w.heap.size bb mm B1 B2' s (w7.setCell ⟨mm, 3, none⟩ (.slice A' (n4 + 1) c7)) v' l' (many rdLnk (k + 1) (bs s) k7).2 ∧ B1 ≤ B2' ∧ (True) ∧ v'.n4 ≤ k + 1 ∧ Few v' ∧ Whole (many rdLnk (k + 1) (bs s) k7).2 l' ⟨S, P, X, (many rdLnk (k + 1) (bs s) k7).1⟩) := by
                      rw [Hid, HM.out]
                      have hnew := HNEW.out
                      rw [HM.out] at hnew
                      exact ⟨_, _, _, HPT.out, HBG.out, trivial, by show n4 + 1 ≤ k + 1; omega, ⟨HFW.out.1, HFW.out.2.1, HFW.out.2.2.1, by show n4 + 1 ≤ 255; omega⟩, hnew⟩
                    go_wp2_with fail
                    go_roundw
                    case rel =>
                      obtain ⟨v', l', B2', h1, h2, h3, h4, h5, h6⟩ := HSN.out
                      exact ⟨k + 1, v', l', B2', by omega, by go_num, h1, h2, h3, h4, h5, h6⟩
                    case measure => simp [intOf]; omega
                · have hkn : ¬ (k : Int) < (a4 : Int) := by omega
                  have HF : Hid (∃ v l B2, St w w.heap.size bb mm B1 B2 s wr v l k8 ∧ B1 ≤ B2 ∧ (True) ∧ Few v ∧ Whole k8 l ⟨S, P, X, K⟩) := by
                    have hst := HST.out; have hZ := HZ.out; have hwh := HWH.out
                    have e : k = a4 := by omega
                    rw [e, E4.out] at hst hwh
                    exact ⟨v, l, B2, hst, hB, trivial, HFW.out, hwh⟩
                  clear HST HZ HFW HWH
                  go_wp2_with fail
                  go_meet
                  exact HF.out
            case rest =>
              obtain ⟨v, l, B2, hst, hB, hZ, hfew, hwh⟩ := hcut
              have HS4 := Lib.hid hst
              have HZ4 := Lib.hid hZ
              have HF4 := Lib.hid hfew
              have HW4 := Lib.hid hwh
              clear hst hZ hfew hwh
              have HBB4 := Lib.hid hB
              clear hB
              obtain ⟨A1, n1, q1, A2, n2, q2, A3, n3, q3, A4, n4, q4⟩ := v
              obtain ⟨m1, m2, m3, m4⟩ := HF4.out
              simp only at m1 m2 m3 m4
              have HOR : Hid (Ord w w.heap.size bb mm B1 B2) := by have := HORD.out; exact ⟨this.o1, this.o2, this.o3, this.o4, HBB4.out⟩
              clear HF4 HZ4
              obtain ⟨c0, c1, c2⟩ := HS4.out.cu.cells
              go_wp2_with fail
              refine (N9.out bb _ HS4.out.cu).mono ?_
              rintro e w9 ⟨rfl, hc9, hg9⟩
              have HS9 := Lib.hid (HS4.out.read HOR.out hc9 hg9)
              clear hc9 hg9 c0 c1 c2 N9 HS4
              obtain ⟨c0, c1, c2⟩ := HS9.out.cu.cells
              obtain ⟨p9', t9⟩ := k9
              obtain ⟨p8', t8⟩ := k8
              simp only at c1 c2 p8 p9 HK9
              cases t9 with
              | true =>
                have HD2 : Hid (Bin.decode (bs s) = (zero, p9', 10)) := by rw [Hid, HD.out, if_pos rfl]
                obtain ⟨⟨d0, d1, d2, d3⟩, f0, f1, f2, f3⟩ := res_cells HS9.out.res
                obtain ⟨X0, hX, ⟨e0, e1, e2, e3⟩, hbX⟩ := zero_fin (Nat.le_refl w.heap.size) HS9.out.res HS9.out.blw
                have hne : bb ≠ w.heap.size := by have := HORD.out.o2; omega
                have hq := (Crd.Cu.past (g := w.heap.size) (j := 3) (Crd.Cu.past (g := w.heap.size) (j := 2) (Crd.Cu.past (g := w.heap.size) (j := 1) (Crd.Cu.past (g := w.heap.size) (j := 0) HS9.out.cu hne (.slice none 0 0)) hne (.slice none 0 0)) hne (.slice none 0 0)) hne (.slice none 0 0)).cells.2.1
                simp only at hq
                have HX := Lib.hid hX
                have HBX := Lib.hid hbX
                clear hX hbX
                go_upto_region 31 with fail
                go_region
                all_goals (
                  go_wp2_with fail
                  try rw [HX.out]
                  refine bodyPost_ret (v := .tuple #[.agg #[.slice none 0 0, .slice none 0 0, .slice none 0 0, .slice none 0 0], .int .i64 p9', .int .i64 10]) (by simp [results, Try.results40, go_sem, e0, e1, e2, e3]) rfl (dec_zero HD2.out HBX.out.drew))
              | false =>
                have ht8 : t8 = false := by cases t8 with | false => rfl | true => exact absurd (HK9.out rfl) (by simp)
                subst ht8
                have HLL := Lib.hid (HW4.out rfl)
                clear HW4 HK9
                obtain ⟨Y, hY⟩ : ∃ Y, s.extract 0 p8' = Y := ⟨_, rfl⟩
                have hYb : bs Y = (bs s).take p8' := by rw [← hY, bs_extract, List.drop_zero, Nat.sub_zero]
                have hYz : Y.size ≤ 9223372036854775807 := by rw [← hY, ByteArray.size_extract]; omega
                have HSU := Lib.hid (fun wx => r_crc Y wx hYz)
                rw [hYb] at HSU
                obtain ⟨cs, hcs⟩ : ∃ cs, crc ((bs s).take p8') = cs := ⟨_, rfl⟩
                have hcl : cs < 4294967296 := by rw [← hcs]; exact crc_lt _
                rw [hcs] at HSU
                have g0 : (0 : Int) ≤ p8' := by omega
                have g1 : (p8' : Int) ≤ (s.size : Int) := by omega
                have hwx : IntKind.u32.wrap (x : Int) = x := wraps_u32 _ (by omega) (by omega)
                have HD2 : Hid (Bin.decode (bs s) = if x ≠ cs then (zero, p8', 9) else if p9' ≠ s.size then (zero, p9', 2) else if check ⟨S, P, X, K⟩ ≠ 0 then (zero, 0, check ⟨S, P, X, K⟩) else (⟨S, P, X, K⟩, 0, 0)) := by
                  rw [Hid, HD.out, if_neg (by simp)]; simp only [hcs, bs_length]
                clear hYb hcs HD
                go_upto_region 32 with fail
                go_wp2_with fail
                refine (HSU.out _).mono ?_
                rintro e w5 ⟨rfl, rfl⟩
                clear HSU hY
                by_cases hxc : x = cs
                · have hx1 : ((x : Int) != (cs : Int)) = false := by simp [hxc]
                  have hx2 : ((x : Int) == (cs : Int)) = true := by simp [hxc]
                  rw [if_neg (by simpa using hxc)] at HD2
                  clear hxc
                  by_cases hpz : p9' = s.size
                  · have hp1 : ¬ ((p9' : Int) < (s.size : Int)) := by omega
                    rw [if_neg (by simpa using hpz)] at HD2
                    clear hpz
                    obtain ⟨b0, b1, b2, b3⟩ := HS9.out.cells
                    simp only at b0 b1 b2 b3
                    rw [HLL.out] at HS9
                    have HCK := Lib.hid (r_check ⟨A1, n1, q1, A2, n2, q2, A3, n3, q3, A4, n4, q4⟩ ⟨S, P, X, K⟩ w9 ((HS9.out.owns HBB4.out).rd ⟨by show n1 ≤ 100000; omega, by show n2 ≤ 100000; omega, by show n3 ≤ 100000; omega, by show n4 ≤ 100000; omega⟩ (fun a ha => Nat.le_trans (HSM.out.1 a ha) (by omega)) (fun a ha => Nat.le_trans (HSM.out.2.1 a ha) (by omega)) (fun a ha => Nat.le_trans (HSM.out.2.2 a ha) (by omega))))
                    simp only [LV.val] at HCK
                    obtain ⟨ck, hck0⟩ : ∃ ck, check ⟨S, P, X, K⟩ = ck := ⟨_, rfl⟩
                    rw [hck0] at HCK HD2
                    clear hck0
                    go_wp2_with fail
                    refine HCK.out.mono ?_
                    rintro e w6 ⟨rfl, hb6⟩
                    have HS6 := Lib.hid (HS9.out.same hb6)
                    clear hb6 HCK b0 b1 b2 b3 c0 c1 c2 HS9
                    obtain ⟨⟨d0, d1, d2, d3⟩, f0, f1, f2, f3⟩ := res_cells HS6.out.res
                    by_cases hck : ck = 0
                    · have hk1 : (ck != 0) = false := by simp [hck]
                      have hk2 : (ck == 0) = true := by simp [hck]
                      rw [if_neg (by simpa using hck)] at HD2
                      clear hck
                      obtain ⟨b0, b1, b2, b3⟩ := HS6.out.cells
                      simp only at b0 b1 b2 b3
                      have hwb : w.heap.size < B1 := by have := HOR.out; have := this.o1; have := HOR.out.o2; have := HOR.out.o3; have := HOR.out.o4; omega
                      have hfin := four_set (v0 := .slice A1 n1 q1) (v1 := .slice A2 n2 q2) (v2 := .slice A3 n3 q3) (v3 := .slice A4 n4 q4) HS6.out.res
                      have hbf := ((((HS6.out.blw.setCell (p := ⟨w.heap.size, 0, none⟩) (Nat.le_refl _) (.slice A1 n1 q1)).setCell (p := ⟨w.heap.size, 1, none⟩) (Nat.le_refl _) (.slice A2 n2 q2)).setCell (p := ⟨w.heap.size, 2, none⟩) (Nat.le_refl _) (.slice A3 n3 q3)).setCell (p := ⟨w.heap.size, 3, none⟩) (Nat.le_refl _) (.slice A4 n4 q4))
                      have hof := OwnL.put (OwnL.put (OwnL.put (OwnL.put (HS6.out.owns HBB4.out) hwb (j := 0) (u := .slice A1 n1 q1)) hwb (j := 1) (u := .slice A2 n2 q2)) hwb (j := 2) (u := .slice A3 n3 q3)) hwb (j := 3) (u := .slice A4 n4 q4)
                      obtain ⟨X0, hX, e0, e1, e2, e3, hbX, hoX⟩ : ∃ X0, (((w6.setCell ⟨w.heap.size, 0, none⟩ (.slice A1 n1 q1)).setCell ⟨w.heap.size, 1, none⟩ (.slice A2 n2 q2)).setCell ⟨w.heap.size, 2, none⟩ (.slice A3 n3 q3)).setCell ⟨w.heap.size, 3, none⟩ (.slice A4 n4 q4) = X0 ∧ X0.cell? ⟨w.heap.size, 0, none⟩ = some (.slice A1 n1 q1) ∧ X0.cell? ⟨w.heap.size, 1, none⟩ = some (.slice A2 n2 q2) ∧ X0.cell? ⟨w.heap.size, 2, none⟩ = some (.slice A3 n3 q3) ∧ X0.cell? ⟨w.heap.size, 3, none⟩ = some (.slice A4 n4 q4) ∧ Below w.heap.size w X0 ∧ OwnL X0 B1 ⟨A1, n1, q1, A2, n2, q2, A3, n3, q3, A4, n4, q4⟩ ⟨S, P, X, K⟩ :=
                        ⟨_, rfl, Lib.cell_of_heap hfin 0, Lib.cell_of_heap hfin 1, Lib.cell_of_heap hfin 2, Lib.cell_of_heap hfin 3, hbf, hof⟩
                      have HX := Lib.hid hX
                      have HBX := Lib.hid hbX
                      have HOX := Lib.hid hoX
                      clear hX hbX hoX hfin hbf hof
                      go_wp2_with fail
                      try rw [HX.out]
                      refine bodyPost_ret (v := .tuple #[.agg #[.slice A1 n1 q1, .slice A2 n2 q2, .slice A3 n3 q3, .slice A4 n4 q4], .int .i64 0, .int .i64 0]) (by simp [results, Try.results40, go_sem, e0, e1, e2, e3]) rfl ?_
                      rw [HD2.out]
                      exact ⟨⟨A1, n1, q1, A2, n2, q2, A3, n3, q3, A4, n4, q4⟩, rfl, HOX.out.rd ⟨by show n1 ≤ 100000; omega, by show n2 ≤ 100000; omega, by show n3 ≤ 100000; omega, by show n4 ≤ 100000; omega⟩ (fun a ha => Nat.le_trans (HSM.out.1 a ha) (by omega)) (fun a ha => Nat.le_trans (HSM.out.2.1 a ha) (by omega)) (fun a ha => Nat.le_trans (HSM.out.2.2 a ha) (by omega)), HBX.out⟩
                    · have hk1 : (ck != 0) = true := by simp [hck]
                      have hk2 : (ck == 0) = false := by simp [hck]
                      rw [if_pos (by simpa using hck)] at HD2
                      clear hck
                      obtain ⟨X0, hX, ⟨e0, e1, e2, e3⟩, hbX⟩ := zero_fin (Nat.le_refl w.heap.size) HS6.out.res HS6.out.blw
                      have HX := Lib.hid hX
                      have HBX := Lib.hid hbX
                      clear hX hbX
                      go_wp2_with fail
                      try rw [HX.out]
                      refine bodyPost_ret (v := .tuple #[.agg #[.slice none 0 0, .slice none 0 0, .slice none 0 0, .slice none 0 0], .int .i64 0, .int .i64 ck]) (by simp [results, Try.results40, go_sem, e0, e1, e2, e3]) rfl (dec_zero HD2.out HBX.out)
                  · have hp1 : (p9' : Int) < (s.size : Int) := by omega
                    rw [if_pos hpz] at HD2
                    clear hpz
                    obtain ⟨⟨d0, d1, d2, d3⟩, f0, f1, f2, f3⟩ := res_cells HS9.out.res
                    obtain ⟨X0, hX, ⟨e0, e1, e2, e3⟩, hbX⟩ := zero_fin (Nat.le_refl w.heap.size) HS9.out.res HS9.out.blw
                    have hne : bb ≠ w.heap.size := by have := HORD.out.o2; omega
                    have hq := (Crd.Cu.past (g := w.heap.size) (j := 3) (Crd.Cu.past (g := w.heap.size) (j := 2) (Crd.Cu.past (g := w.heap.size) (j := 1) (Crd.Cu.past (g := w.heap.size) (j := 0) HS9.out.cu hne (.slice none 0 0)) hne (.slice none 0 0)) hne (.slice none 0 0)) hne (.slice none 0 0)).cells.2.1
                    simp only at hq
                    have HX := Lib.hid hX
                    have HBX := Lib.hid hbX
                    clear hX hbX
                    go_upto_region 35 with fail
                    go_region
                    all_goals (
                      go_wp2_with fail
                      try rw [HX.out]
                      refine bodyPost_ret (v := .tuple #[.agg #[.slice none 0 0, .slice none 0 0, .slice none 0 0, .slice none 0 0], .int .i64 p9', .int .i64 2]) (by simp [results, Try.results40, go_sem, e0, e1, e2, e3]) rfl (dec_zero HD2.out HBX.out.drew))
                · have hx1 : ((x : Int) != (cs : Int)) = true := by simp; omega
                  have hx2 : ((x : Int) == (cs : Int)) = false := by simp; omega
                  rw [if_pos hxc] at HD2
                  clear hxc
                  obtain ⟨⟨d0, d1, d2, d3⟩, f0, f1, f2, f3⟩ := res_cells HS9.out.res
                  obtain ⟨X0, hX, ⟨e0, e1, e2, e3⟩, hbX⟩ := zero_fin (Nat.le_refl w.heap.size) HS9.out.res HS9.out.blw
                  have HX := Lib.hid hX
                  have HBX := Lib.hid hbX
                  clear hX hbX
                  go_wp2_with fail
                  try rw [HX.out]
                  refine bodyPost_ret (v := .tuple #[.agg #[.slice none 0 0, .slice none 0 0, .slice none 0 0, .slice none 0 0], .int .i64 p8', .int .i64 9]) (by simp [results, Try.results40, go_sem, e0, e1, e2, e3]) rfl (dec_zero HD2.out HBX.out)
end Go.Proofs.Ytepbdcnjhbaehaa.RDec
