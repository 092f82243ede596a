/-
  Contract of the program's function that checks a layout.
-/
import Derived.Test.YtkfobijgjdgbgaaDoorPLnk
namespace Go.Proofs.YtkfobijgjdgbgaaDoor.PCheck
open Go.ChangeShapes Go.WideShapes Go.ChangeAt Go.RowKit Wd Small Mem Lay LayT Recs Keep Names PNames PSecs PLinks PEnds PTab PLnk
set_option linter.unusedVariables false

/-- the check in its order, as a chain -/
def chain (z1 z2 z3 z4 z5 : Int) : Int := if z1 ≠ 0 then z1 else if z2 ≠ 0 then z2 else if z3 ≠ 0 then z3 else if z4 ≠ 0 then z4 else z5
theorem check_chain (l : Lay) : check l = chain (sizeErr l.stations.length l.points.length l.sections.length l.links.length) (namesErr [] l.stations) (namesErr [] l.points) (secsErr l.stations.length [] l.sections) (linksErr l.sections.length l.points.length [] l.links) := by
  unfold check chain sizeErr
  by_cases h1 : 24 < l.stations.length ∨ 48 < l.points.length ∨ 96 < l.sections.length ∨ 192 < l.links.length
  · rw [if_pos h1, if_pos h1, if_pos (by decide)]
  · rw [if_neg h1, if_neg h1]
    by_cases h2 : l.sections.length = 0
    · rw [if_pos h2, if_pos h2, if_pos (by decide)]
    · rw [if_neg h2, if_neg h2]; simp
theorem size_ok {n1 n2 n3 n4 : Nat} (h : sizeErr n1 n2 n3 n4 = 0) : n1 ≤ 24 ∧ n2 ≤ 48 ∧ n3 ≤ 96 ∧ n4 ≤ 192 ∧ 1 ≤ n3 := by
  unfold sizeErr at h
  split at h
  · cases h
  · split at h
    · cases h
    · omega
theorem ne_test {z : Int} (h : z ≠ 0) : (z != 0) = true := by rw [bne_iff_ne]; exact h

set_option maxRecDepth 100000 in
set_option maxHeartbeats 2000000 in
theorem p_check (v : LV) (l : Lay) (w : World) (hL : RdL w w.heap.size v l) : Calls Tryd.prog 10 #[v.val] w (ErrPost (check l) w) := by
  have e1 := hL.st.1
  have e2 := hL.pt.1
  have e3 := hL.sec.1
  have e4 := hL.lnk.1
  have hc := check_chain l
  rw [e1, e2, e3, e4] at hc
  have HC0 := Lib.hid hc
  clear hc e1 e2 e3 e4
  obtain ⟨W, hW, HZ, HB0, HBX⟩ := boxed v w
  have HC := Lib.hid HBX
  have hgW : w.heap.size < W.heap.size := by rw [HZ.out]; omega
  have HB := Lib.hid HB0
  have HLW := Lib.hid (hL.grow HB0 (show w.heap.size ≤ W.heap.size by omega))
  have hkeep : ∀ wr, Below W.heap.size W wr → _ := fun wr hb => box_kept hb hgW HC.out
  have HK := Lib.hid hkeep
  have HSZ := Lib.hid (check_sizes v W hL.m1 hL.m2 hL.m3 hL.m4)
  have HN : Hid (∀ wx, Below W.heap.size W wx → v.n1 ≤ 1000 → v.n2 ≤ 1000 → v.n3 ≤ 96 → v.n4 ≤ 1000 → Calls Tryd.prog 30 #[.slice v.A1 v.n1 v.c1] wx (ErrPost (namesErr [] l.stations) wx) ∧ Calls Tryd.prog 30 #[.slice v.A2 v.n2 v.c2] wx (ErrPost (namesErr [] l.points) wx) ∧
      Calls Tryd.prog 31 #[v.val] wx (ErrPost (secsErr v.n1 [] l.sections) wx) ∧ Calls Tryd.prog 32 #[v.val] wx (ErrPost (linksErr v.n3 v.n2 [] l.links) wx)) := fun wx hx h1 h2 h3 h4 => by
    have hl := HLW.out.grow hx hx.size
    exact ⟨check_names _ _ _ _ wx hl.st h1 hl.sz1, check_names _ _ _ _ wx hl.pt h2 hl.sz2, check_sections v l wx hl h3, check_links v l wx hl h4 h3⟩
  clear hL hkeep HB0 HBX
  obtain ⟨c0, c1', c2', c3'⟩ := HC.out
  obtain ⟨A1, n1, c1, A2, n2, c2, A3, n3, c3, A4, n4, c4⟩ := v
  simp only [LV.val] at *
  cases d1 : decide (sizeErr n1 n2 n3 n4 = 0) with
  | false =>
    have h1 := of_decide_eq_false d1
    have HX : Hid (check l = sizeErr n1 n2 n3 n4) := by rw [Hid, HC0.out]; unfold chain; rw [if_pos h1]
    have hne := ne_test h1
    clear d1 h1 HC0
    generalize sizeErr n1 n2 n3 n4 = z at *
    go_enter Tryd.func10, Tryd.ntmps10
    go_wp2_with fail
    refine HSZ.out.mono ?_
    rintro e w1 ⟨rfl, hb1⟩
    clear hW
    go_wp2_with fail
    go_ret
    exact ⟨ret1 HX.out.symm, HB.out.trans (hb1.mono (by omega))⟩
  | true =>
    have h1 := of_decide_eq_true d1
    obtain ⟨s1, s2, s3, s4, s5⟩ := size_ok h1
    rw [h1] at HSZ
    have H1 := Lib.hid h1
    clear d1 h1
    go_enter Tryd.func10, Tryd.ntmps10
    go_wp2_with fail
    refine HSZ.out.mono ?_
    rintro e w1 ⟨rfl, hb1⟩
    have hz1 := hb1.size
    obtain ⟨M1, -, -, -⟩ := HN.out w1 hb1 (by omega) (by omega) (by omega) (by omega)
    have HM1 := Lib.hid M1
    clear hW M1 c0 c1' c2' c3' HSZ
    obtain ⟨c0, c1', c2', c3'⟩ := HK.out w1 hb1
    cases d2 : decide (namesErr [] l.stations = 0) with
    | false =>
      have h2 := of_decide_eq_false d2
      have HX : Hid (check l = namesErr [] l.stations) := by rw [Hid, HC0.out, H1.out]; unfold chain; rw [if_neg (by decide), if_pos h2]
      have hne := ne_test h2
      clear d2 h2 HC0 HN
      generalize namesErr [] l.stations = z at *
      go_wp2_with fail
      refine HM1.out.mono ?_
      rintro e w2 ⟨rfl, hb2⟩
      clear c0 c1' c2' c3'
      go_wp2_with fail
      go_ret
      exact ⟨ret1 HX.out.symm, HB.out.trans ((hb1.trans (hb2.mono hz1)).mono (by omega))⟩
    | true =>
      have h2 := of_decide_eq_true d2
      rw [h2] at HM1
      have H2 := Lib.hid h2
      clear d2 h2
      go_wp2_with fail
      refine HM1.out.mono ?_
      rintro e w2 ⟨rfl, hb2⟩
      have hb2w := hb1.trans (hb2.mono hz1)
      have hz2 := hb2w.size
      obtain ⟨-, M2, -, -⟩ := HN.out w2 hb2w (by omega) (by omega) (by omega) (by omega)
      have HM2 := Lib.hid M2
      clear M2 c0 c1' c2' c3' HM1 hb1 hb2 hz1
      obtain ⟨c0, c1', c2', c3'⟩ := HK.out w2 hb2w
      cases d3 : decide (namesErr [] l.points = 0) with
      | false =>
        have h3 := of_decide_eq_false d3
        have HX : Hid (check l = namesErr [] l.points) := by rw [Hid, HC0.out, H1.out, H2.out]; unfold chain; rw [if_neg (by decide), if_neg (by decide), if_pos h3]
        have hne := ne_test h3
        clear d3 h3 HC0 HN
        generalize namesErr [] l.points = z at *
        go_wp2_with fail
        refine HM2.out.mono ?_
        rintro e w3 ⟨rfl, hb3⟩
        clear c0 c1' c2' c3'
        go_wp2_with fail
        go_ret
        exact ⟨ret1 HX.out.symm, HB.out.trans ((hb2w.trans (hb3.mono hz2)).mono (by omega))⟩
      | true =>
        have h3 := of_decide_eq_true d3
        rw [h3] at HM2
        have H3 := Lib.hid h3
        clear d3 h3
        go_wp2_with fail
        refine HM2.out.mono ?_
        rintro e w3 ⟨rfl, hb3⟩
        have hb3w := hb2w.trans (hb3.mono hz2)
        have hz3 := hb3w.size
        obtain ⟨-, -, M3, -⟩ := HN.out w3 hb3w (by omega) (by omega) (by omega) (by omega)
        have HM3 := Lib.hid M3
        clear M3 c0 c1' c2' c3' HM2 hb2w hb3 hz2
        obtain ⟨c0, c1', c2', c3'⟩ := HK.out w3 hb3w
        cases d4 : decide (secsErr n1 [] l.sections = 0) with
        | false =>
          have h4 := of_decide_eq_false d4
          have HX : Hid (check l = secsErr n1 [] l.sections) := by rw [Hid, HC0.out, H1.out, H2.out, H3.out]; unfold chain; rw [if_neg (by decide), if_neg (by decide), if_neg (by decide), if_pos h4]
          have hne := ne_test h4
          clear d4 h4 HC0 HN
          generalize secsErr n1 [] l.sections = z at *
          go_wp2_with fail
          refine HM3.out.mono ?_
          rintro e w4 ⟨rfl, hb4⟩
          clear c0 c1' c2' c3'
          go_wp2_with fail
          go_ret
          exact ⟨ret1 HX.out.symm, HB.out.trans ((hb3w.trans (hb4.mono hz3)).mono (by omega))⟩
        | true =>
          have h4 := of_decide_eq_true d4
          rw [h4] at HM3
          have HX : Hid (check l = linksErr n3 n2 [] l.links) := by rw [Hid, HC0.out, H1.out, H2.out, H3.out, h4]; unfold chain; rw [if_neg (by decide), if_neg (by decide), if_neg (by decide), if_neg (by decide)]
          clear d4 h4 HC0
          go_wp2_with fail
          refine HM3.out.mono ?_
          rintro e w4 ⟨rfl, hb4⟩
          have hb4w := hb3w.trans (hb4.mono hz3)
          have hz4 := hb4w.size
          obtain ⟨-, -, -, M4⟩ := HN.out w4 hb4w (by omega) (by omega) (by omega) (by omega)
          have HM4 := Lib.hid M4
          clear M4 c0 c1' c2' c3' HM3 hb3w hb4 hz3 HN
          obtain ⟨c0, c1', c2', c3'⟩ := HK.out w4 hb4w
          generalize linksErr n3 n2 [] l.links = z at *
          go_wp2_with fail
          refine HM4.out.mono ?_
          rintro e w5 ⟨rfl, hb5⟩
          clear c0 c1' c2' c3'
          go_wp2_with fail
          go_ret
          exact ⟨ret1 HX.out.symm, HB.out.trans ((hb4w.trans (hb5.mono hz4)).mono (by omega))⟩
end Go.Proofs.YtkfobijgjdgbgaaDoor.PCheck
