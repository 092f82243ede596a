/-
  Contract of the document's own function that checks a layout, and of those that ask it.
-/
import Derived.Test.YtkfobijgjdgbgaaDoorRLink
import Derived.Test.YtkfobijgjdgbgaaDoorPCheck
namespace Go.Proofs.YtkfobijgjdgbgaaDoor.RCheck
open Go.ChangeShapes Go.WideShapes Go.ChangeAt Go.RowKit Wd Small Mem Lay LayT Recs Keep Names PNames PSecs PLinks PEnds PTab PLnk PCheck RNames RFree RLink
set_option linter.unusedVariables false

/-- a section's numbers, as the document's function asks for them -/
theorem ins_eq (q : Nat) (s : Sec) : inS q s = (btw s.len 1 400 && (btw s.lim 1000 100000 && (btw s.grade (-40) 40 && btw s.st (-1) ((q : Int) - 1)))) := by
  unfold inS
  rw [Bool.eq_iff_iff]
  unfold btw nof
  simp only [Bool.and_eq_true, Bool.or_eq_true, decide_eq_true_eq, beq_iff_eq]
  omega

set_option maxRecDepth 100000 in
set_option maxHeartbeats 16000000 in
theorem r_check (v : LV) (l : Lay) (w : World) (hL : RdL w w.heap.size v l) : Calls Tryd.prog 17 #[v.val] w (ErrPost (check l) w) := by
  have e1 := hL.st.1
  have e2 := hL.pt.1
  have e3 := hL.sec.1
  have e4 := hL.lnk.1
  have hc := check_chain l
  rw [e1, e2, e3, e4] at hc
  have HC0 := Lib.hid hc
  have HE3 := Lib.hid e3
  have HE1 := Lib.hid e1
  have HE2 := Lib.hid e2
  have HE4 := Lib.hid e4
  clear hc e1 e2 e3 e4
  have hm1 := hL.m1
  have hm2 := hL.m2
  have hm3 := hL.m3
  have hm4 := hL.m4
  have HS1 := Lib.hid hL.sz1
  have HS2 := Lib.hid hL.sz2
  have HS3 := Lib.hid hL.sz3
  obtain ⟨W, hW, HZ, HB0, HBX⟩ := boxed v w
  have HC := Lib.hid HBX
  have hgW : w.heap.size < W.heap.size := by rw [HZ.out]; omega
  have HB := Lib.hid HB0
  have HLW := Lib.hid (hL.grow HB0 (show w.heap.size ≤ W.heap.size by omega))
  have hkeep : ∀ wr, Below W.heap.size W wr → _ := fun wr hb => box_kept hb hgW HC.out
  have HK := Lib.hid hkeep
  clear hL hkeep HB0 HBX
  obtain ⟨c0, c1', c2', c3'⟩ := HC.out
  obtain ⟨A1, n1, c1, A2, n2, c2, A3, n3, c3, A4, n4, c4⟩ := v
  simp only [LV.val] at *
  have E1 : Hid (namesErr [] l.stations = namesErr (l.stations.take 0) (l.stations.drop 0)) := rfl
  have E2 : Hid (namesErr [] l.points = namesErr (l.points.take 0) (l.points.drop 0)) := rfl
  have E3 : Hid (secsErr n1 [] l.sections = secsErr n1 ((l.sections.map Sec.name).take 0) (l.sections.drop 0)) := rfl
  have E4 : Hid (linksErr n3 n2 [] l.links = linksErr n3 n2 (l.links.take 0) (l.links.drop 0)) := rfl
  have HSZ : Hid (24 < n1 ∨ 48 < n2 ∨ 96 < n3 ∨ 192 < n4 → check l = 7) := fun h => by rw [HC0.out, chain, sizeErr, if_pos h]; rfl
  have HSA : Hid (¬ (24 < n1 ∨ 48 < n2 ∨ 96 < n3 ∨ 192 < n4) → n3 = 0 → check l = 1) := fun h h2 => by rw [HC0.out, chain, sizeErr, if_neg h, if_pos h2]; rfl
  have HSO : Hid (¬ (24 < n1 ∨ 48 < n2 ∨ 96 < n3 ∨ 192 < n4) → n3 ≠ 0 → check l = chain 0 (namesErr [] l.stations) (namesErr [] l.points) (secsErr n1 [] l.sections) (linksErr n3 n2 [] l.links)) := fun h h2 => by rw [HC0.out, sizeErr, if_neg h, if_neg h2]
  clear HC0
  go_enter Tryd.func17, Tryd.ntmps17
  go_upto_region 1 with fail
  try rw [hW]
  clear hW
  by_cases g1 : 24 < n1
  · have d1 : (24 : Int) < (n1 : Int) := by omega
    have HX2 := Lib.hid (HSZ.out (by omega))
    go_wp2_with fail
    go_ret
    exact ⟨ret1 HX2.out.symm, HB.out⟩
  · have d1 : ¬ (24 : Int) < (n1 : Int) := by omega
    by_cases g2 : 48 < n2
    · have d2 : (48 : Int) < (n2 : Int) := by omega
      have HX2 := Lib.hid (HSZ.out (by omega))
      go_wp2_with fail
      go_ret
      exact ⟨ret1 HX2.out.symm, HB.out⟩
    · have d2 : ¬ (48 : Int) < (n2 : Int) := by omega
      by_cases g3 : 96 < n3
      · have d3 : (96 : Int) < (n3 : Int) := by omega
        have HX2 := Lib.hid (HSZ.out (by omega))
        go_wp2_with fail
        go_ret
        exact ⟨ret1 HX2.out.symm, HB.out⟩
      · have d3 : ¬ (96 : Int) < (n3 : Int) := by omega
        by_cases g4 : 192 < n4
        · have d4 : (192 : Int) < (n4 : Int) := by omega
          have HX2 := Lib.hid (HSZ.out (by omega))
          go_wp2_with fail
          go_ret
          exact ⟨ret1 HX2.out.symm, HB.out⟩
        · have d4 : ¬ (192 : Int) < (n4 : Int) := by omega
          have hno : ¬ (24 < n1 ∨ 48 < n2 ∨ 96 < n3 ∨ 192 < n4) := by omega
          by_cases g5 : n3 = 0
          · have HX2 := Lib.hid (HSA.out hno g5)
            subst g5
            clear hno
            go_wp2_with fail
            go_ret
            exact ⟨ret1 HX2.out.symm, HB.out⟩
          · have HX0 := Lib.hid (HSO.out hno g5)
            have g5' : ((n3 : Int) == 0) = false := by simpa using g5
            clear hno HSO HSA HSZ g5
            go_wp2_with fail
            go_loopw [3] (fun i wr => ∃ (k : Nat), k ≤ n1 ∧ i = .int .i64 k ∧ Hid (namesErr [] l.stations = namesErr (l.stations.take k) (l.stations.drop k)) ∧ Below W.heap.size W wr) (fun i _ => n1 - (intOf i).toNat)
            case atStart => exact ⟨0, Nat.zero_le _, rfl, E1, Below.refl _ _⟩
            case round =>
              obtain ⟨k, hk, rfl, HE, hbw⟩ := hrel
              obtain ⟨wr1, rfl⟩ : ∃ wo : World, wo = wr := ⟨_, rfl⟩
              clear E1 c0 c1' c2' c3'
              have hzW := hbw.size
              obtain ⟨c0, c1', c2', c3'⟩ := HK.out wr1 hbw
              by_cases hlt : k < n1
              · obtain ⟨ad, s, hA, hab, hs, x0⟩ := loadS (HLW.out.grow hbw hzW).st hlt
                have HX := Lib.hid (HE.out.trans (names_step hs))
                have HN := Lib.hid (r_names A1 n1 c1 k l.stations s wr1 (HLW.out.grow hbw hzW).st hs hlt hm1 (HS1.out s (List.mem_of_getElem? hs)))
                have hki : (k : Int) < (n1 : Int) := by omega
                clear hA hs x0 HE hab
                cases hz0 : decide (nameErr (l.stations.take k) s = 0) with
                | true =>
                  have h0 := of_decide_eq_true hz0
                  have HX2 : Hid (namesErr [] l.stations = namesErr (l.stations.take (k + 1)) (l.stations.drop (k + 1))) := by rw [Hid, HX.out, if_pos h0]
                  rw [h0] at HN
                  clear HX hz0 h0
                  go_wp2_with fail
                  refine HN.out.mono ?_
                  rintro e w1 ⟨rfl, hb1⟩
                  have HBN := Lib.hid (hbw.trans (hb1.mono hzW))
                  clear hb1 c0 c1' c2' c3'
                  go_wp2_with fail
                  go_roundw
                  case rel => exact ⟨k + 1, by omega, by go_num, HX2, HBN.out⟩
                  case measure => simp [intOf]; omega
                | false =>
                  have h0 := of_decide_eq_false hz0
                  have HX2 : Hid (check l = nameErr (l.stations.take k) s) := by rw [Hid, HX0.out, chain, if_neg (by decide), HX.out, if_neg h0, if_pos h0]
                  have hne : ((nameErr (l.stations.take k) s : Int) != 0) = true := by rw [bne_iff_ne]; exact h0
                  clear HX hz0 h0
                  generalize nameErr (l.stations.take k) s = z at *
                  go_wp2_with fail
                  refine HN.out.mono ?_
                  rintro e w1 ⟨rfl, hb1⟩
                  have HBN := Lib.hid (HB.out.trans ((hbw.trans (hb1.mono hzW)).mono (by omega)))
                  clear hb1 c0 c1' c2' c3'
                  go_wp2_with fail
                  go_ret
                  exact ⟨ret1 HX2.out.symm, HBN.out⟩
              · have hki : ¬ (k : Int) < (n1 : Int) := by omega
                have HN1 : Hid (check l = chain 0 0 (namesErr [] l.points) (secsErr n1 [] l.sections) (linksErr n3 n2 [] l.links)) := by rw [Hid, HX0.out, HE.out, List.drop_of_length_le (by have := HE1.out; omega)]; rfl
                clear HE HX0
                go_wp2_with fail
                go_loopw [5] (fun i wr => ∃ (k : Nat), k ≤ n2 ∧ i = .int .i64 k ∧ Hid (namesErr [] l.points = namesErr (l.points.take k) (l.points.drop k)) ∧ Below W.heap.size W wr) (fun i _ => n2 - (intOf i).toNat)
                case atStart => exact ⟨0, Nat.zero_le _, rfl, E2, hbw⟩
                case round =>
                  clear hki hbw hk hlt hzW
                  obtain ⟨k, hk, rfl, HE, hbw⟩ := hrel
                  obtain ⟨wr2, rfl⟩ : ∃ wo : World, wo = wr := ⟨_, rfl⟩
                  clear E2 c0 c1' c2' c3'
                  have hzW := hbw.size
                  obtain ⟨c0, c1', c2', c3'⟩ := HK.out wr2 hbw
                  by_cases hlt : k < n2
                  · obtain ⟨ad, s, hA, hab, hs, x0⟩ := loadS (HLW.out.grow hbw hzW).pt hlt
                    have HX := Lib.hid (HE.out.trans (names_step hs))
                    have HN := Lib.hid (r_names A2 n2 c2 k l.points s wr2 (HLW.out.grow hbw hzW).pt hs hlt hm2 (HS2.out s (List.mem_of_getElem? hs)))
                    have hki : (k : Int) < (n2 : Int) := by omega
                    clear hA hs x0 HE hab
                    cases hz0 : decide (nameErr (l.points.take k) s = 0) with
                    | true =>
                      have h0 := of_decide_eq_true hz0
                      have HX2 : Hid (namesErr [] l.points = namesErr (l.points.take (k + 1)) (l.points.drop (k + 1))) := by rw [Hid, HX.out, if_pos h0]
                      rw [h0] at HN
                      clear HX hz0 h0
                      go_wp2_with fail
                      refine HN.out.mono ?_
                      rintro e w1 ⟨rfl, hb1⟩
                      have HBN := Lib.hid (hbw.trans (hb1.mono hzW))
                      clear hb1 c0 c1' c2' c3'
                      go_wp2_with fail
                      go_roundw
                      case rel => exact ⟨k + 1, by omega, by go_num, HX2, HBN.out⟩
                      case measure => simp [intOf]; omega
                    | false =>
                      have h0 := of_decide_eq_false hz0
                      have HX2 : Hid (check l = nameErr (l.points.take k) s) := by rw [Hid, HN1.out, chain, if_neg (by decide), if_neg (by decide), HX.out, if_neg h0, if_pos h0]
                      have hne : ((nameErr (l.points.take k) s : Int) != 0) = true := by rw [bne_iff_ne]; exact h0
                      clear HX hz0 h0
                      generalize nameErr (l.points.take k) s = z at *
                      go_wp2_with fail
                      refine HN.out.mono ?_
                      rintro e w1 ⟨rfl, hb1⟩
                      have HBN := Lib.hid (HB.out.trans ((hbw.trans (hb1.mono hzW)).mono (by omega)))
                      clear hb1 c0 c1' c2' c3'
                      go_wp2_with fail
                      go_ret
                      exact ⟨ret1 HX2.out.symm, HBN.out⟩
                  · have hki : ¬ (k : Int) < (n2 : Int) := by omega
                    have HN2 : Hid (check l = chain 0 0 0 (secsErr n1 [] l.sections) (linksErr n3 n2 [] l.links)) := by rw [Hid, HN1.out, HE.out, List.drop_of_length_le (by have := HE2.out; omega)]; rfl
                    clear HE HN1
                    have HSN := Lib.hid (sec_names ⟨A1, n1, c1, A2, n2, c2, A3, n3, c3, A4, n4, c4⟩ l.sections wr2 (HLW.out.grow hbw hzW).sec (by show n3 ≤ 100000; omega))
                    simp only [LV.val] at HSN
                    go_wp2_with fail
                    refine HSN.out.mono ?_
                    rintro e ws ⟨As, ns, cs, rfl, hOs, hbs⟩
                    have HBS := Lib.hid (hbw.trans (hbs.mono hzW))
                    have HRs := Lib.hid hOs.rd
                    have hns : ns = n3 := by have h1 := hOs.1; have h2 := HE3.out; simp only [List.length_map] at h1; omega
                    subst hns
                    have hzs := HBS.out.size
                    have HNM := Lib.hid HS3.out
                    clear hOs hbs HSN hbw c0 c1' c2' c3' hki hk hlt hzW
                    obtain ⟨c0, c1', c2', c3'⟩ := HK.out ws HBS.out
                    go_wp2_with fail
                    go_loopw [8] (fun i wr => ∃ (k : Nat), k ≤ ns ∧ i = .int .i64 k ∧ Hid (secsErr n1 [] l.sections = secsErr n1 ((l.sections.map Sec.name).take k) (l.sections.drop k)) ∧ Below ws.heap.size ws wr) (fun i _ => ns - (intOf i).toNat)
                    case atStart => exact ⟨0, Nat.zero_le _, rfl, E3, Below.refl _ _⟩
                    case round =>
                      obtain ⟨k, hk, rfl, HE, hbw0⟩ := hrel
                      obtain ⟨wr3, rfl⟩ : ∃ wo : World, wo = wr := ⟨_, rfl⟩
                      clear E3 c0 c1' c2' c3'
                      have hbw := HBS.out.trans (hbw0.mono hzs)
                      have hzW := hbw.size
                      have hzw0 := hbw0.size
                      have HBW0 := Lib.hid hbw0
                      obtain ⟨c0, c1', c2', c3'⟩ := HK.out wr3 hbw
                      by_cases hlt : k < ns
                      · obtain ⟨ad, s, hA, hab, hs, x0, x1, x2, x3, x4⟩ := loadSec (HLW.out.grow hbw hzW).sec hlt
                        have hs' : (l.sections.map Sec.name)[k]? = some s.name := by simp [hs]
                        have HX := Lib.hid (HE.out.trans (secs_step hs))
                        have HN := Lib.hid (r_names As ns cs k (l.sections.map Sec.name) s.name wr3 (HRs.out.grow hbw0 hzw0) hs' hlt hm3 (HS3.out s (List.mem_of_getElem? hs)))
                        have hki : (k : Int) < (ns : Int) := by omega
                        subst hA
                        clear hs hs' HE hbw0
                        cases hz0 : decide (nameErr ((l.sections.map Sec.name).take k) s.name = 0) with
                        | false =>
                          have h0 := of_decide_eq_false hz0
                          have HX2 : Hid (check l = nameErr ((l.sections.map Sec.name).take k) s.name) := by rw [Hid, HN2.out, chain, if_neg (by decide), if_neg (by decide), if_neg (by decide), HX.out, if_neg h0, if_pos h0]
                          have hne : ((nameErr ((l.sections.map Sec.name).take k) s.name : Int) != 0) = true := by rw [bne_iff_ne]; exact h0
                          clear HX hz0 h0 x0 x1 x2 x3 x4
                          generalize nameErr ((l.sections.map Sec.name).take k) s.name = z at *
                          go_wp2_with fail
                          refine HN.out.mono ?_
                          rintro e w1 ⟨rfl, hb1⟩
                          have HBN := Lib.hid (HB.out.trans ((hbw.trans (hb1.mono hzW)).mono (by omega)))
                          clear hb1 c0 c1' c2' c3'
                          go_wp2_with fail
                          go_ret
                          exact ⟨ret1 HX2.out.symm, HBN.out⟩
                        | true =>
                          have h0 := of_decide_eq_true hz0
                          have HX1 : Hid (secsErr n1 [] l.sections = (if inS n1 s = true then secsErr n1 ((l.sections.map Sec.name).take (k + 1)) (l.sections.drop (k + 1)) else 4)) := by rw [Hid, HX.out, if_pos h0]
                          rw [h0] at HN
                          clear HX hz0 h0
                          have HXS := Lib.hid (⟨x0, x1, x2, x3, x4⟩ : _ ∧ _ ∧ _ ∧ _ ∧ _)
                          clear x0 x1 x2 x3 x4
                          go_wp2_with fail
                          refine HN.out.mono ?_
                          rintro e w1 ⟨rfl, hb1⟩
                          have hz1 := hb1.size
                          have hbw1 := hbw.trans (hb1.mono hzW)
                          have hadk : (ad.add (k * 5)).block < wr3.heap.size := by rw [Mem.block_add]; omega
                          have x0 := (hb1.cell hadk).trans HXS.out.1
                          have x1 := (hb1.cell (p := ⟨_, _, none⟩) hadk).trans HXS.out.2.1
                          have x2 := (hb1.cell (p := ⟨_, _, none⟩) hadk).trans HXS.out.2.2.1
                          have x3 := (hb1.cell (p := ⟨_, _, none⟩) hadk).trans HXS.out.2.2.2.1
                          have x4 := (hb1.cell (p := ⟨_, _, none⟩) hadk).trans HXS.out.2.2.2.2
                          clear c0 c1' c2' c3'
                          obtain ⟨c0, c1', c2', c3'⟩ := HK.out w1 hbw1
                          obtain ⟨wa, hwa⟩ : ∃ wa, w1.alloc (.cells #[.string (str s.name), .int .i64 s.len, .int .i64 s.lim, .int .i64 s.grade, .int .i64 s.st] 45) = wa := ⟨_, rfl⟩
                          have hba : Below w1.heap.size w1 wa := by rw [← hwa]; exact (Below.refl _ _).alloc (Nat.le_refl _) _
                          have hza : w1.heap.size < wa.heap.size := by rw [← hwa]; simp
                          have HE5 := Lib.hid (show wa.cell? ⟨w1.heap.size, 1, none⟩ = some (.int .i64 s.len) ∧ wa.cell? ⟨w1.heap.size, 2, none⟩ = some (.int .i64 s.lim) ∧ wa.cell? ⟨w1.heap.size, 3, none⟩ = some (.int .i64 s.grade) ∧ wa.cell? ⟨w1.heap.size, 4, none⟩ = some (.int .i64 s.st) by rw [← hwa]; simp)
                          have HBA0 := Lib.hid (HBW0.out.trans ((hb1.trans (hba.mono hz1)).mono hzw0))
                          have HCA := Lib.hid (HK.out wa (hbw1.trans (hba.mono (by omega))))
                          have HBN := Lib.hid (HB.out.trans ((hbw1.trans (hba.mono (by omega))).mono (by omega)))
                          clear hb1 hba HXS HN hbw hbw1
                          go_upto_region 25 with fail
                          clear hwa c0 c1' c2' c3' x0 x1 x2 x3 x4
                          obtain ⟨c0, c1', c2', c3'⟩ := HCA.out
                          obtain ⟨y1, y2, y3, y4⟩ := HE5.out
                          have HIS : Hid (inS n1 s = (btw s.len 1 400 && (btw s.lim 1000 100000 && (btw s.grade (-40) 40 && btw s.st (-1) ((n1 : Int) - 1))))) := ins_eq n1 s
                          cases h1 : btw s.len 1 400 with
                          | false =>
                            have HX2 : Hid (check l = 4) := by rw [Hid, HN2.out, HX1.out, HIS.out, h1]; rfl
                            clear HX1 HIS
                            go_wp2_with (go_at_call 47; refine (r_in _ _ _ _).mono ?_; rintro e w' ⟨rfl, rfl⟩; (first | rw [h1]))
                            go_ret
                            exact ⟨ret1 HX2.out.symm, HBN.out⟩
                          | true =>
                            cases h2 : btw s.lim 1000 100000 with
                            | false =>
                              have HX2 : Hid (check l = 4) := by rw [Hid, HN2.out, HX1.out, HIS.out, h1, h2]; rfl
                              clear HX1 HIS
                              go_wp2_with (go_at_call 47; refine (r_in _ _ _ _).mono ?_; rintro e w' ⟨rfl, rfl⟩; (first | rw [h1] | rw [h2]))
                              go_ret
                              exact ⟨ret1 HX2.out.symm, HBN.out⟩
                            | true =>
                              cases h3 : btw s.grade (-40) 40 with
                              | false =>
                                have HX2 : Hid (check l = 4) := by rw [Hid, HN2.out, HX1.out, HIS.out, h1, h2, h3]; rfl
                                clear HX1 HIS
                                go_wp2_with (go_at_call 47; refine (r_in _ _ _ _).mono ?_; rintro e w' ⟨rfl, rfl⟩; (first | rw [h1] | rw [h2] | rw [h3]))
                                go_ret
                                exact ⟨ret1 HX2.out.symm, HBN.out⟩
                              | true =>
                                cases h4 : btw s.st (-1) ((n1 : Int) - 1) with
                                | false =>
                                  have HX2 : Hid (check l = 4) := by rw [Hid, HN2.out, HX1.out, HIS.out, h1, h2, h3, h4]; rfl
                                  clear HX1 HIS
                                  go_wp2_with (go_at_call 47; refine (r_in _ _ _ _).mono ?_; rintro e w' ⟨rfl, rfl⟩; (first | rw [h1] | rw [h2] | rw [h3] | rw [h4]))
                                  go_ret
                                  exact ⟨ret1 HX2.out.symm, HBN.out⟩
                                | true =>
                                  have HX2 : Hid (secsErr n1 [] l.sections = secsErr n1 ((l.sections.map Sec.name).take (k + 1)) (l.sections.drop (k + 1))) := by rw [Hid, HX1.out, HIS.out, h1, h2, h3, h4]; rfl
                                  clear HX1 HIS
                                  go_wp2_with (go_at_call 47; refine (r_in _ _ _ _).mono ?_; rintro e w' ⟨rfl, rfl⟩; (first | rw [h1] | rw [h2] | rw [h3] | rw [h4]))
                                  go_roundw
                                  case rel => exact ⟨k + 1, by omega, by go_num, HX2, HBA0.out⟩
                                  case measure => simp [intOf]; omega
                      · have hki : ¬ (k : Int) < (ns : Int) := by omega
                        have HN3 : Hid (check l = chain 0 0 0 0 (linksErr ns n2 [] l.links)) := by rw [Hid, HN2.out, HE.out, List.drop_of_length_le (by have := HE3.out; omega)]; rfl
                        clear HE HN2
                        go_wp2_with fail
                        go_loopw [11] (fun i wr => ∃ (k : Nat), k ≤ n4 ∧ i = .int .i64 k ∧ Hid (linksErr ns n2 [] l.links = linksErr ns n2 (l.links.take k) (l.links.drop k)) ∧ Below W.heap.size W wr) (fun i _ => n4 - (intOf i).toNat)
                        case atStart => exact ⟨0, Nat.zero_le _, rfl, E4, hbw⟩
                        case round =>
                          clear hki hbw hk hlt hzW hbw0 HBW0 hzw0
                          obtain ⟨k, hk, rfl, HE, hbw⟩ := hrel
                          obtain ⟨wr4, rfl⟩ : ∃ wo : World, wo = wr := ⟨_, rfl⟩
                          clear E4 c0 c1' c2' c3'
                          have hzW := hbw.size
                          obtain ⟨c0, c1', c2', c3'⟩ := HK.out wr4 hbw
                          by_cases hlt : k < n4
                          · obtain ⟨ad, s, hA, hab, hs, x0, x1, x2, x3, x4, x5⟩ := loadLnk (HLW.out.grow hbw hzW).lnk hlt
                            have HX := Lib.hid (HE.out.trans (links_step hs))
                            have HN := Lib.hid (r_link ⟨A1, n1, c1, A2, n2, c2, A3, ns, c3, A4, n4, c4⟩ l.links k s wr4 (HLW.out.grow hbw hzW).lnk hs hlt hm4 hm2 hm3)
                            simp only [LV.val] at HN
                            have hki : (k : Int) < (n4 : Int) := by omega
                            clear hA hs x0 x1 x2 x3 x4 x5 HE hab
                            cases hz0 : decide (linkErr ns n2 (l.links.take k) s = 0) with
                            | true =>
                              have h0 := of_decide_eq_true hz0
                              have HX2 : Hid (linksErr ns n2 [] l.links = linksErr ns n2 (l.links.take (k + 1)) (l.links.drop (k + 1))) := by rw [Hid, HX.out, if_pos h0]
                              rw [h0] at HN
                              clear HX hz0 h0
                              go_wp2_with fail
                              refine HN.out.mono ?_
                              rintro e w1 ⟨rfl, hb1⟩
                              have HBN := Lib.hid (hbw.trans (hb1.mono hzW))
                              clear hb1 c0 c1' c2' c3'
                              go_wp2_with fail
                              go_roundw
                              case rel => exact ⟨k + 1, by omega, by go_num, HX2, HBN.out⟩
                              case measure => simp [intOf]; omega
                            | false =>
                              have h0 := of_decide_eq_false hz0
                              have HX2 : Hid (check l = linkErr ns n2 (l.links.take k) s) := by rw [Hid, HN3.out, chain, if_neg (by decide), if_neg (by decide), if_neg (by decide), if_neg (by decide), HX.out, if_neg h0]
                              have hne : ((linkErr ns n2 (l.links.take k) s : Int) != 0) = true := by rw [bne_iff_ne]; exact h0
                              clear HX hz0 h0
                              generalize linkErr ns n2 (l.links.take k) s = z at *
                              go_wp2_with fail
                              refine HN.out.mono ?_
                              rintro e w1 ⟨rfl, hb1⟩
                              have HBN := Lib.hid (HB.out.trans ((hbw.trans (hb1.mono hzW)).mono (by omega)))
                              clear hb1 c0 c1' c2' c3'
                              go_wp2_with fail
                              go_ret
                              exact ⟨ret1 HX2.out.symm, HBN.out⟩
                          · have hki : ¬ (k : Int) < (n4 : Int) := by omega
                            have HN4 : Hid (check l = 0) := by rw [Hid, HN3.out, HE.out, List.drop_of_length_le (by have := HE4.out; omega)]; rfl
                            have HBN := Lib.hid (HB.out.trans (hbw.mono (by omega)))
                            clear HE HN3 hbw
                            go_wp2_with fail
                            go_ret
                            exact ⟨ret1 HN4.out.symm, HBN.out⟩
end Go.Proofs.YtkfobijgjdgbgaaDoor.RCheck
