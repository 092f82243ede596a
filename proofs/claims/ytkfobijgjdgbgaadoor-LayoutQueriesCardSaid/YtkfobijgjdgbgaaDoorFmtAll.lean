/-
  Contract of the program's word for an end.
  Contract of the program's line for a section.
  Contract of the program's line for a link.
  Lists of rows of words that a call makes itself, row by row: what the memory holds, and what an append does to it. The rows that were appended are only read afterwards.
  Contract of the program's function that writes the text of a layout.
-/
import Derived.Test.YtkfobijgjdgbgaaDoorPCheck
import Derived.Test.YtkfobijgjdgbgaaDoorItoa
import Derived.Test.YtkfobijgjdgbgaaDoorRNames
import Derived.Test.YtkfobijgjdgbgaaDoorMan
import Derived.Test.YtkfobijgjdgbgaaDoorLayT
import Derived.Laws.OwnMore
import Derived.Deep.DeepCutAuto
import Derived.Test.YtkfobijgjdgbgaaDoorStrs
import Derived.Test.YtkfobijgjdgbgaaDoorBack
import Derived.Test.YtkfobijgjdgbgaaDoorPJoin
namespace Go.Proofs.YtkfobijgjdgbgaaDoor.EndW
open Go.ChangeShapes Go.WideShapes Go.ChangeAt Go.RowKit Wd Small Mem Lay LayT Recs
set_option linter.unusedVariables false

/-- the word for an end -/
def endW (k : Int) : Bs := if (k == 0) = true then [65] else [66]
theorem end_word (k : Int) (w : World) : Calls Tryd.prog 73 #[.int .i64 k] w fun e w' => e = .returned (.string (str (endW k))) ∧ w = w' := by
  cases h : (k == 0) with
  | true =>
    have E : Hid (str (endW k) = ⟨#[65]⟩) := by unfold endW; rw [Hid, if_pos h]; rfl
    go_enter Tryd.func73, Tryd.ntmps73
    go_wp2_with fail
    go_ret
    exact ⟨by rw [E.out]; rfl, rfl⟩
  | false =>
    have E : Hid (str (endW k) = ⟨#[66]⟩) := by unfold endW; rw [Hid, if_neg (by rw [h]; decide)]; rfl
    go_enter Tryd.func73, Tryd.ntmps73
    go_wp2_with fail
    go_ret
    exact ⟨by rw [E.out]; rfl, rfl⟩
end Go.Proofs.YtkfobijgjdgbgaaDoor.EndW

namespace Go.Proofs.YtkfobijgjdgbgaaDoor.SecLine
open Go.ChangeShapes Go.WideShapes Go.ChangeAt Go.RowKit Wd Small Mem Lay LayT Recs PNames PSecs PEnds PCheck RNames Man Itoa Dec
set_option linter.unusedVariables false

/-- what a call leaves that answers a list of words of its own -/
def RowPost (L : List Bs) (w : World) (e : Ending) (w' : World) : Prop := ∃ A n c, e = .returned (.slice A n c) ∧ Own sR w' w.heap.size (.slice A n c) n L ∧ Below w.heap.size w w'

set_option maxRecDepth 100000 in
set_option maxHeartbeats 4000000 in
theorem section_line (v : LV) (l : Lay) (s : Sec) (w : World) (hL : RdL w w.heap.size v l) (ht : Tab w) (b1 : -9223372036854775808 ≤ s.len ∧ s.len ≤ 9223372036854775807) (b2 : -9223372036854775808 ≤ s.lim ∧ s.lim ≤ 9223372036854775807) (b3 : -9223372036854775808 ≤ s.grade ∧ s.grade ≤ 9223372036854775807) (b4 : -1 ≤ s.st ∧ s.st < v.n1) :
    Calls Tryd.prog 38 #[v.val, .agg #[.string (str s.name), .int .i64 s.len, .int .i64 s.lim, .int .i64 s.grade, .int .i64 s.st]] w (RowPost (secLine l s) w) := by
  obtain ⟨ih1, hih1, hy0, hy1, hy2⟩ := info_parts RNames.infoS
  obtain ⟨W, hW⟩ : ∃ W, (w.alloc (.cells #[.slice v.A1 v.n1 v.c1, .slice v.A2 v.n2 v.c2, .slice v.A3 v.n3 v.c3, .slice v.A4 v.n4 v.c4] 26)).alloc (.cells #[.string (str s.name), .int .i64 s.len, .int .i64 s.lim, .int .i64 s.grade, .int .i64 s.st] 45) = W := ⟨_, rfl⟩
  have hbW : Below w.heap.size w W := by rw [← hW]; exact ((Below.refl _ _).alloc (Nat.le_refl _) _).alloc (by simp) _
  have hzW : w.heap.size + 1 < W.heap.size := by rw [← hW]; simp
  have hB : W.heap[w.heap.size]? = some (.cells #[.slice v.A1 v.n1 v.c1, .slice v.A2 v.n2 v.c2, .slice v.A3 v.n3 v.c3, .slice v.A4 v.n4 v.c4] 26 (0, 0)) := by
    rw [← hW]
    exact ((Below.refl (w.heap.size + 1) _).alloc (by simp) _).block w.heap.size (by omega) |>.trans (heap_alloc_new _ _)
  have hS : W.heap[w.heap.size + 1]? = some (.cells #[.string (str s.name), .int .i64 s.len, .int .i64 s.lim, .int .i64 s.grade, .int .i64 s.st] 45 (0, 0)) := by
    rw [← hW]
    have := heap_alloc_new (w.alloc (.cells #[.slice v.A1 v.n1 v.c1, .slice v.A2 v.n2 v.c2, .slice v.A3 v.n3 v.c3, .slice v.A4 v.n4 v.c4] 26)) (.cells #[.string (str s.name), .int .i64 s.len, .int .i64 s.lim, .int .i64 s.grade, .int .i64 s.st] 45)
    simpa using this
  have HK : Hid (∀ w', Below W.heap.size W w' → w'.cell? ⟨w.heap.size + 1, 0, none⟩ = some (.string (str s.name)) ∧ w'.cell? ⟨w.heap.size + 1, 1, none⟩ = some (.int .i64 s.len) ∧ w'.cell? ⟨w.heap.size + 1, 2, none⟩ = some (.int .i64 s.lim) ∧ w'.cell? ⟨w.heap.size + 1, 3, none⟩ = some (.int .i64 s.grade) ∧ w'.cell? ⟨w.heap.size + 1, 4, none⟩ = some (.int .i64 s.st) ∧ w'.cell? ⟨w.heap.size, 0, none⟩ = some (.slice v.A1 v.n1 v.c1)) := fun w' hb => by
    have e1 := (hb.block _ hzW).trans hS
    have e2 := (hb.block w.heap.size (by omega)).trans hB
    simp [World.cell?, e1, e2]
  have HT : Hid (∀ w', Below W.heap.size W w' → Tab w') := fun w' hb => Tab.keep ht (hbW.trans (hb.mono hbW.size))
  have HI1 : Hid (∀ w', Below W.heap.size W w' → _) := fun w' hb => itoa_any s.len b1.1 b1.2 w' (HT.out w' hb)
  have HI2 : Hid (∀ w', Below W.heap.size W w' → _) := fun w' hb => itoa_any s.lim b2.1 b2.2 w' (HT.out w' hb)
  have HI3 : Hid (∀ w', Below W.heap.size W w' → _) := fun w' hb => itoa_any s.grade b3.1 b3.2 w' (HT.out w' hb)
  have HR := Lib.hid (fun w' (hb : Below W.heap.size W w') => hL.st.grow (hbW.trans (hb.mono hbW.size)) (Nat.le_trans hbW.size hb.size))
  have HBW := Lib.hid hbW
  have HW := Lib.hid hW
  have HB0 : Hid (Below W.heap.size W W.drew) := (Below.refl _ _).drew
  have hlw : w.heap.size ≤ W.heap.size := hbW.size
  have hls : secLine l s = [kwSection, s.name, dec s.len, dec s.lim, dec s.grade] ++ if 0 ≤ s.st then [kwAt, (l.stations[s.st.toNat]?).getD []] else [] := rfl
  have hlen : l.stations.length = v.n1 := hL.st.1
  have HLS := Lib.hid hls
  clear hL ht b1 b2 b3 hbW hW hB hS hls
  obtain ⟨A1, n1, c1, A2, n2, c2, A3, n3, c3, A4, n4, c4⟩ := v
  obtain ⟨nm, ln, li, gr, st⟩ := s
  simp only [LV.val] at *
  obtain ⟨d1, hd1⟩ : ∃ d, str (dec ln) = d := ⟨_, rfl⟩
  obtain ⟨d2, hd2⟩ : ∃ d, str (dec li) = d := ⟨_, rfl⟩
  obtain ⟨d3, hd3⟩ : ∃ d, str (dec gr) = d := ⟨_, rfl⟩
  rw [hd1] at HI1
  rw [hd2] at HI2
  rw [hd3] at HI3
  have HD1 := Lib.hid hd1
  have HD2 := Lib.hid hd2
  have HD3 := Lib.hid hd3
  clear hd1 hd2 hd3
  go_enter Tryd.func38, Tryd.ntmps38
  go_upto_region 1 with fail
  rw [HW.out]
  clear HW
  refine wp_region_held_drew (S := (fun w' => w'.cell? ⟨w.heap.size + 1, 0, none⟩ = some (.string (str nm)) ∧ w'.cell? ⟨w.heap.size + 1, 1, none⟩ = some (.int .i64 ln) ∧ w'.cell? ⟨w.heap.size + 1, 2, none⟩ = some (.int .i64 li) ∧ w'.cell? ⟨w.heap.size + 1, 3, none⟩ = some (.int .i64 gr) ∧ w'.cell? ⟨w.heap.size + 1, 4, none⟩ = some (.int .i64 st) ∧ w'.cell? ⟨w.heap.size, 0, none⟩ = some (.slice A1 n1 c1))) (by kernel_rfl) (HK.out _ HB0.out) (fun hHeld => ?_)
  generalize W.drew = y0 at *
  refine take_yes 0 (some 6) (v := ?v0_1) rfl rfl (by kernel_rfl) (by kernel_rfl) (by kernel_rfl) (fun _ _ _ h => h) (by kernel_rfl) ?h0_1 (by assumption) ?_
  case h0_1 =>
    intro w hSw
    (try dsimp only at hSw)
    (try go_split_ands)
    go_simp
    try with_reducible rfl
  (try simp only [Act.put, List.setIfInBounds_toArray, List.set_cons_zero, List.set_cons_succ])
  refine take_yes 1 (some 7) (v := ?v1_2) rfl rfl (by kernel_rfl) (by kernel_rfl) (by kernel_rfl) (fun _ _ _ h => h) (by kernel_rfl) ?h1_2 (by assumption) ?_
  case h1_2 =>
    intro w hSw
    (try dsimp only at hSw)
    (try go_split_ands)
    go_simp
    try with_reducible rfl
  (try simp only [Act.put, List.setIfInBounds_toArray, List.set_cons_zero, List.set_cons_succ])
  refine take_yes 2 (some 8) (v := ?v2_3) rfl rfl (by kernel_rfl) (by kernel_rfl) (by kernel_rfl) (fun _ _ _ h => h) (by kernel_rfl) ?h2_3 (by assumption) ?_
  case h2_3 =>
    intro w hSw
    (try dsimp only at hSw)
    (try go_split_ands)
    go_simp
    try with_reducible rfl
  (try simp only [Act.put, List.setIfInBounds_toArray, List.set_cons_zero, List.set_cons_succ])
  refine take_yes 3 (some 9) (v := ?v3_4) rfl rfl (by kernel_rfl) (by kernel_rfl) (by kernel_rfl) (fun _ _ _ h => h) (by kernel_rfl) ?h3_4 (by assumption) ?_
  case h3_4 =>
    intro w hSw
    (try dsimp only at hSw)
    (try go_split_ands)
    go_simp
    try with_reducible rfl
  (try simp only [Act.put, List.setIfInBounds_toArray, List.set_cons_zero, List.set_cons_succ])
  refine take_yes 5 (some 11) (v := ?v5_5) rfl rfl (by kernel_rfl) (by kernel_rfl) (by kernel_rfl) (fun _ _ _ h => h) (by kernel_rfl) ?h5_5 (by assumption) ?_
  case h5_5 =>
    intro w hSw
    (try dsimp only at hSw)
    (try go_split_ands)
    go_simp
    try with_reducible rfl
  (try simp only [Act.put, List.setIfInBounds_toArray, List.set_cons_zero, List.set_cons_succ])
  refine take_yes 6 (some 12) (v := ?v6_6) rfl rfl (by kernel_rfl) (by kernel_rfl) (by kernel_rfl) (fun _ _ _ h => h) (by kernel_rfl) ?h6_6 (by assumption) ?_
  case h6_6 =>
    intro w hSw
    (try dsimp only at hSw)
    (try go_split_ands)
    go_simp
    try with_reducible rfl
  (try simp only [Act.put, List.setIfInBounds_toArray, List.set_cons_zero, List.set_cons_succ])
  refine take_yes 8 (some 14) (v := ?v8_7) rfl rfl (by kernel_rfl) (by kernel_rfl) (by kernel_rfl) (fun _ _ _ h => h) (by kernel_rfl) ?h8_7 (by assumption) ?_
  case h8_7 =>
    intro w hSw
    (try dsimp only at hSw)
    (try go_split_ands)
    go_simp
    try with_reducible rfl
  (try simp only [Act.put, List.setIfInBounds_toArray, List.set_cons_zero, List.set_cons_succ])
  refine take_yes 9 (some 15) (v := ?v9_8) rfl rfl (by kernel_rfl) (by kernel_rfl) (by kernel_rfl) (fun _ _ _ h => h) (by kernel_rfl) ?h9_8 (by assumption) ?_
  case h9_8 =>
    intro w hSw
    (try dsimp only at hSw)
    (try go_split_ands)
    go_simp
    try with_reducible rfl
  (try simp only [Act.put, List.setIfInBounds_toArray, List.set_cons_zero, List.set_cons_succ])
  refine wpAnyH_ready (rs := [4]) (by kernel_rfl) (by simp) ?_
  refine AllReadyH.cons rfl (fun K hK => ?_) AllReadyH.nil
  go_simp
  go_at_call 72
  (with_reducible refine (HI1.out _ HB0.out).mono ?_)
  rintro e y1 ⟨rfl, hb1⟩
  have HB1 := Lib.hid (HB0.out.trans (hb1.mono HB0.out.size))
  clear hb1
  go_wp2_with fail
  refine hK.out _ _ (HK.out _ HB1.out) (fun hHeld1 => ?_)
  clear hK K hHeld
  (try simp only [Act.put, List.setIfInBounds_toArray, List.set_cons_zero, List.set_cons_succ])
  refine wpAnyH_ready (rs := [7]) (by kernel_rfl) (by simp) ?_
  refine AllReadyH.cons rfl (fun K hK => ?_) AllReadyH.nil
  go_simp
  go_at_call 72
  (with_reducible refine (HI2.out _ HB1.out).mono ?_)
  rintro e y2 ⟨rfl, hb2⟩
  have HB2 := Lib.hid (HB1.out.trans (hb2.mono HB1.out.size))
  clear hb2
  go_wp2_with fail
  refine hK.out _ _ (HK.out _ HB2.out) (fun hHeld2 => ?_)
  clear hK K hHeld1
  (try simp only [Act.put, List.setIfInBounds_toArray, List.set_cons_zero, List.set_cons_succ])
  refine wpAnyH_ready (rs := [10]) (by kernel_rfl) (by simp) ?_
  refine AllReadyH.cons rfl (fun K hK => ?_) AllReadyH.nil
  go_simp
  go_at_call 72
  (with_reducible refine (HI3.out _ HB2.out).mono ?_)
  rintro e y3 ⟨rfl, hb3⟩
  have HB3 := Lib.hid (HB2.out.trans (hb3.mono HB2.out.size))
  clear hb3
  go_wp2_with fail
  refine hK.out _ _ (HK.out _ HB3.out) (fun hHeld3 => ?_)
  clear hK K hHeld2
  (try simp only [Act.put, List.setIfInBounds_toArray, List.set_cons_zero, List.set_cons_succ])
  refine wpAnyH_ready (rs := [11]) (by kernel_rfl) (by simp) ?_
  refine AllReadyH.cons rfl (fun K hK => ?_) AllReadyH.nil
  have HB4 := Lib.hid (HB3.out.alloc HB3.out.size (.cells #[.string ⟨#[115, 101, 99, 116, 105, 111, 110]⟩, .string (str nm), .string d1, .string d2, .string d3] 9))
  go_simp
  refine hK.out _ _ (HK.out _ HB4.out) (fun hHeld4 => ?_)
  clear hK K hHeld3
  (try simp only [Act.put, List.setIfInBounds_toArray, List.set_cons_zero, List.set_cons_succ])
  refine take_yes 12 (some 5) (v := ?v12_9) rfl rfl (by kernel_rfl) (by kernel_rfl) (by kernel_rfl) (fun _ _ _ h => h) (by kernel_rfl) ?h12_9 (by assumption) ?_
  case h12_9 =>
    intro w hSw
    (try dsimp only at hSw)
    (try go_split_ands)
    go_simp
    try with_reducible rfl
  (try simp only [Act.put, List.setIfInBounds_toArray, List.set_cons_zero, List.set_cons_succ])
  refine wpAnyH_done (by kernel_rfl) ?_ _
  obtain ⟨Z, hZ⟩ : ∃ Z, y3.alloc (.cells #[.string ⟨#[115, 101, 99, 116, 105, 111, 110]⟩, .string (str nm), .string d1, .string d2, .string d3] 9) = Z := ⟨_, rfl⟩
  have ecs : sR.cs [kwSection, nm, dec ln, dec li, dec gr] = [.string ⟨#[115, 101, 99, 116, 105, 111, 110]⟩, .string (str nm), .string d1, .string d2, .string d3] := by
    rw [← HD1.out, ← HD2.out, ← HD3.out]; rfl
  have hO : Own sR Z W.heap.size (.slice (some ⟨y3.heap.size, 0, none⟩) 5 5) 5 [kwSection, nm, dec ln, dec li, dec gr] := by
    rw [← hZ]
    refine ⟨rfl, ?_⟩
    rw [ecs]
    exact World.ownsRow_lit (base := W.heap.size) (e := 9) (size := 1) y3 #[.string ⟨#[115, 101, 99, 116, 105, 111, 110]⟩, .string (str nm), .string d1, .string d2, .string d3] 5 HB3.out.size (by unfold maxLen; omega) rfl
  have HBZ : Hid (Below W.heap.size W Z) := by rw [Hid, ← hZ]; exact HB4.out
  rw [hZ]
  generalize y3.heap.size = yb at *
  clear hZ HB4
  obtain ⟨q0, q1, q2, q3, q4, q5⟩ := HK.out Z HBZ.out
  clear q0 q1 q2 q3
  have HO := Lib.hid hO
  have HBw := Lib.hid (HBW.out.trans (HBZ.out.mono HBW.out.size))
  by_cases hst : 0 ≤ st
  · obtain ⟨i, rfl⟩ : ∃ i : Nat, st = (i : Int) := ⟨st.toNat, by omega⟩
    have hne : ((i : Int) != -1) = true := by rw [bne_iff_ne]; omega
    have hne2 : ((i : Int) == -1) = false := by rw [beq_eq_false_iff_ne]; omega
    obtain ⟨ad, sN, rfl, hab, hsN, hcell⟩ := loadS (HR.out Z HBZ.out) (show i < n1 by omega)
    have hE : Hid (secLine l ⟨nm, ln, li, gr, (i : Int)⟩ = [kwSection, nm, dec ln, dec li, dec gr] ++ [kwAt, sN]) := by
      rw [Hid, HLS.out, if_pos hst]
      rw [show ((i : Int)).toNat = i from rfl, hsN]; rfl
    have hi0 : (0 : Int) ≤ (i : Int) := hst
    have hi1 : (i : Int) < (n1 : Int) := by omega
    have hn63 : 5 + 2 ≤ maxLen := by unfold maxLen; omega
    have hby : (5 + 2) * 16 ≤ 140737488355328 := by omega
    have hbz := HBZ.out.size
    clear hst HLS hO
    go_wp2_with (at_builtin; refine wpList_append_own _ rfl _ _ 22 rfl W.heap.size 9 ih1 _ 1 16 Tryd.underlying22 hih1 hy0 hy1 hy2 rfl (by omega) (.slice (some ⟨yb, 0, none⟩) 5 5) 5 (sR.cs [kwSection, nm, dec ln, dec li, dec gr]) rfl (HO.out.2.alloc _) ⟨Z.heap.size, 0, none⟩ 2 2 [.string ⟨#[97, 116]⟩, .string (str sN)] rfl rfl (World.news_of_block (cs := #[.string ⟨#[97, 116]⟩, .string (str sN)]) (t := 9) (fr := (0, 0)) (heap_alloc_new _ _)) (by simp [Value.oneCell']) hn63 hby (by simp; omega) ?_)
    intro v7 w7 hown7 hgrow7 _
    have hO7 : Own sR w7 W.heap.size v7 7 ([kwSection, nm, dec ln, dec li, dec gr] ++ [kwAt, sN]) := ⟨rfl, by rw [Recs.cs_append, ecs]; exact hown7⟩
    have hb7 := (HBw.out.alloc HBw.out.size (.cells #[.string ⟨#[97, 116]⟩, .string (str sN)] 9)).grown hgrow7 (by have := HBw.out.size; simp; omega) (fun k hk => by have := (HO.out.2.lt k hk).1; omega)
    obtain ⟨A', c7, rfl, _⟩ := hO7.form
    have HO7 := Lib.hid (hO7.base_ hlw)
    have HB7 := Lib.hid hb7
    clear hown7 hgrow7 hO7 hb7
    go_wp2_with fail
    go_ret
    exact ⟨A', 7, c7, rfl, by rw [hE.out]; exact HO7.out, HB7.out⟩
  · have hne : (st != -1) = false := by
      have : st = -1 := by omega
      subst this; rfl
    have hne2 : (st == -1) = true := by
      have : st = -1 := by omega
      subst this; rfl
    have hE : Hid (secLine l ⟨nm, ln, li, gr, st⟩ = [kwSection, nm, dec ln, dec li, dec gr]) := by rw [Hid, HLS.out, if_neg hst, List.append_nil]
    clear hst HLS hO
    go_wp2_with fail
    go_ret
    exact ⟨_, 5, 5, rfl, by rw [hE.out]; exact HO.out.base_ hlw, HBw.out⟩
end Go.Proofs.YtkfobijgjdgbgaaDoor.SecLine

namespace Go.Proofs.YtkfobijgjdgbgaaDoor.LnkLine
open Go.ChangeShapes Go.WideShapes Go.ChangeAt Go.RowKit Wd Small Mem Lay LayT Recs PNames PSecs PEnds PCheck RNames Man Itoa Dec SecLine EndW
set_option linter.unusedVariables false
set_option linter.unusedSimpArgs false

set_option maxRecDepth 100000 in
set_option maxHeartbeats 4000000 in
theorem link_line (v : LV) (l : Lay) (s : Lnk) (w : World) (hL : RdL w w.heap.size v l) (ht : Tab w) (b1 : 0 ≤ s.a ∧ s.a < v.n3) (b2 : 0 ≤ s.b ∧ s.b < v.n3) (b3 : -9223372036854775808 ≤ s.ps ∧ s.ps ≤ 9223372036854775807) (b4 : -1 ≤ s.pt ∧ s.pt < v.n2) (e1 : s.ae = 0 ∨ s.ae = 1) (e2 : s.be = 0 ∨ s.be = 1) :
    Calls Tryd.prog 39 #[v.val, .agg #[.int .i64 s.a, .int .i64 s.ae, .int .i64 s.b, .int .i64 s.be, .int .i64 s.pt, .int .i64 s.ps]] w (RowPost (linkLine l s) w) := by
  obtain ⟨ih1, hih1, hy0, hy1, hy2⟩ := info_parts RNames.infoS
  obtain ⟨W, hW⟩ : ∃ W, (w.alloc (.cells #[.slice v.A1 v.n1 v.c1, .slice v.A2 v.n2 v.c2, .slice v.A3 v.n3 v.c3, .slice v.A4 v.n4 v.c4] 26)).alloc (.cells #[.int .i64 s.a, .int .i64 s.ae, .int .i64 s.b, .int .i64 s.be, .int .i64 s.pt, .int .i64 s.ps] 64) = W := ⟨_, rfl⟩
  have hbW : Below w.heap.size w W := by rw [← hW]; exact ((Below.refl _ _).alloc (Nat.le_refl _) _).alloc (by simp) _
  have hzW : w.heap.size + 1 < W.heap.size := by rw [← hW]; simp
  have hB : W.heap[w.heap.size]? = some (.cells #[.slice v.A1 v.n1 v.c1, .slice v.A2 v.n2 v.c2, .slice v.A3 v.n3 v.c3, .slice v.A4 v.n4 v.c4] 26 (0, 0)) := by
    rw [← hW]
    exact ((Below.refl (w.heap.size + 1) _).alloc (by simp) _).block w.heap.size (by omega) |>.trans (heap_alloc_new _ _)
  have hS : W.heap[w.heap.size + 1]? = some (.cells #[.int .i64 s.a, .int .i64 s.ae, .int .i64 s.b, .int .i64 s.be, .int .i64 s.pt, .int .i64 s.ps] 64 (0, 0)) := by
    rw [← hW]
    have := heap_alloc_new (w.alloc (.cells #[.slice v.A1 v.n1 v.c1, .slice v.A2 v.n2 v.c2, .slice v.A3 v.n3 v.c3, .slice v.A4 v.n4 v.c4] 26)) (.cells #[.int .i64 s.a, .int .i64 s.ae, .int .i64 s.b, .int .i64 s.be, .int .i64 s.pt, .int .i64 s.ps] 64)
    simpa using this
  have hRS := hL.sec.grow hbW hbW.size
  have HRP := Lib.hid (fun w' (hb : Below W.heap.size W w') => hL.pt.grow (hbW.trans (hb.mono hbW.size)) (Nat.le_trans hbW.size hb.size))
  have HT : Hid (∀ w', Below W.heap.size W w' → Tab w') := fun w' hb => Tab.keep ht (hbW.trans (hb.mono hbW.size))
  have HI1 : Hid (∀ w', Below W.heap.size W w' → _) := fun w' hb => itoa_any s.ps b3.1 b3.2 w' (HT.out w' hb)
  have hls : linkLine l s = [kwLink, nameOf l s.a, endBs s.ae, nameOf l s.b, endBs s.be] ++ if 0 ≤ s.pt then [(l.points[s.pt.toNat]?).getD [], dec s.ps] else [] := rfl
  have HLS := Lib.hid hls
  have hE1 : endBs s.ae = endW s.ae := by rcases e1 with e | e <;> rw [e] <;> rfl
  have hE2 : endBs s.be = endW s.be := by rcases e2 with e | e <;> rw [e] <;> rfl
  have HE1 := Lib.hid hE1
  have HE2 := Lib.hid hE2
  have HBW := Lib.hid hbW
  have HW := Lib.hid hW
  have HB0 : Hid (Below W.heap.size W W.drew) := (Below.refl _ _).drew
  have hlw : w.heap.size ≤ W.heap.size := hbW.size
  obtain ⟨A1, n1, c1, A2, n2, c2, A3, n3, c3, A4, n4, c4⟩ := v
  obtain ⟨ka, kae, kb, kbe, kpt, kps⟩ := s
  simp only [LV.val] at *
  obtain ⟨a, rfl⟩ : ∃ a : Nat, ka = (a : Int) := ⟨ka.toNat, by omega⟩
  obtain ⟨b, rfl⟩ : ∃ b : Nat, kb = (b : Int) := ⟨kb.toNat, by omega⟩
  obtain ⟨ad, sa, rfl, hab, hsa, na, -⟩ := loadSec hRS (show a < n3 by omega)
  obtain ⟨ad', sb, hadd, hab', hsb, nb, -⟩ := loadSec hRS (show b < n3 by omega)
  injection hadd with hadd
  subst hadd
  have hna : nameOf l (a : Int) = sa.name := by unfold nameOf; rw [show ((a : Int)).toNat = a from rfl, List.getElem?_map, hsa]; rfl
  have hnb : nameOf l (b : Int) = sb.name := by unfold nameOf; rw [show ((b : Int)).toNat = b from rfl, List.getElem?_map, hsb]; rfl
  have HNA := Lib.hid hna
  have HNB := Lib.hid hnb
  have HK : Hid (∀ w', Below W.heap.size W w' → w'.cell? ⟨w.heap.size + 1, 0, none⟩ = some (.int .i64 a) ∧ w'.cell? ⟨w.heap.size + 1, 1, none⟩ = some (.int .i64 kae) ∧ w'.cell? ⟨w.heap.size + 1, 2, none⟩ = some (.int .i64 b) ∧ w'.cell? ⟨w.heap.size + 1, 3, none⟩ = some (.int .i64 kbe) ∧ w'.cell? ⟨w.heap.size + 1, 4, none⟩ = some (.int .i64 kpt) ∧ w'.cell? ⟨w.heap.size + 1, 5, none⟩ = some (.int .i64 kps) ∧ w'.cell? ⟨w.heap.size, 1, none⟩ = some (.slice A2 n2 c2) ∧ w'.cell? ⟨w.heap.size, 2, none⟩ = some (.slice (some ad) n3 c3) ∧ w'.cell? (ad.add (a * 5)) = some (.string (str sa.name)) ∧ w'.cell? (ad.add (b * 5)) = some (.string (str sb.name))) := fun w' hb => by
    have e1 := (hb.block _ hzW).trans hS
    have e2 := (hb.block w.heap.size (by omega)).trans hB
    have e3 := (hb.cell (p := ad.add (a * 5)) (by rw [Mem.block_add]; exact hab)).trans na
    have e4 := (hb.cell (p := ad.add (b * 5)) (by rw [Mem.block_add]; exact hab)).trans nb
    simp [World.cell?, e1, e2]
    exact ⟨e3, e4⟩
  have ia0 : (0 : Int) ≤ (a : Int) := by omega
  have ia1 : (a : Int) < (n3 : Int) := by omega
  have ib0 : (0 : Int) ≤ (b : Int) := by omega
  have ib1 : (b : Int) < (n3 : Int) := by omega
  clear hL ht b1 b2 b3 hbW hW hB hS hls e1 e2 hE1 hE2 hna hnb hRS na nb
  obtain ⟨d1, hd1⟩ : ∃ d, str (dec kps) = d := ⟨_, rfl⟩
  rw [hd1] at HI1
  have HD1 := Lib.hid hd1
  clear hd1
  have HW1 := Lib.hid (fun wx => end_word kae wx)
  have HW2 := Lib.hid (fun wx => end_word kbe wx)
  obtain ⟨x1, hx1⟩ : ∃ d, str (endW kae) = d := ⟨_, rfl⟩
  obtain ⟨x2, hx2⟩ : ∃ d, str (endW kbe) = d := ⟨_, rfl⟩
  rw [hx1] at HW1
  rw [hx2] at HW2
  have HX1 := Lib.hid hx1
  have HX2 := Lib.hid hx2
  clear hx1 hx2
  go_enter Tryd.func39, Tryd.ntmps39
  go_upto_region 1 with fail
  rw [HW.out]
  clear HW
  refine wp_region_held_drew (S := (fun w' => w'.cell? ⟨w.heap.size + 1, 0, none⟩ = some (.int .i64 a) ∧ w'.cell? ⟨w.heap.size + 1, 1, none⟩ = some (.int .i64 kae) ∧ w'.cell? ⟨w.heap.size + 1, 2, none⟩ = some (.int .i64 b) ∧ w'.cell? ⟨w.heap.size + 1, 3, none⟩ = some (.int .i64 kbe) ∧ w'.cell? ⟨w.heap.size + 1, 4, none⟩ = some (.int .i64 kpt) ∧ w'.cell? ⟨w.heap.size + 1, 5, none⟩ = some (.int .i64 kps) ∧ w'.cell? ⟨w.heap.size, 1, none⟩ = some (.slice A2 n2 c2) ∧ w'.cell? ⟨w.heap.size, 2, none⟩ = some (.slice (some ad) n3 c3) ∧ w'.cell? (ad.add (a * 5)) = some (.string (str sa.name)) ∧ w'.cell? (ad.add (b * 5)) = some (.string (str sb.name)))) (by kernel_rfl) (HK.out _ HB0.out) (fun hHeld => ?_)
  generalize W.drew = y0 at *
  refine take_yes 0 (some 6) (v := ?v0_1) rfl rfl (by kernel_rfl) (by kernel_rfl) (by kernel_rfl) (fun _ _ _ h => h) (by kernel_rfl) ?h0_1 (by assumption) ?_
  case h0_1 =>
    intro w hSw
    (try dsimp only at hSw)
    (try go_split_ands)
    go_simp
    try with_reducible rfl
  (try simp only [Act.put, List.setIfInBounds_toArray, List.set_cons_zero, List.set_cons_succ])
  refine take_yes 1 (some 7) (v := ?v1_2) rfl rfl (by kernel_rfl) (by kernel_rfl) (by kernel_rfl) (fun _ _ _ h => h) (by kernel_rfl) ?h1_2 (by assumption) ?_
  case h1_2 =>
    intro w hSw
    (try dsimp only at hSw)
    (try go_split_ands)
    go_simp
    try with_reducible rfl
  (try simp only [Act.put, List.setIfInBounds_toArray, List.set_cons_zero, List.set_cons_succ])
  refine take_yes 2 (some 8) (v := ?v2_3) rfl rfl (by kernel_rfl) (by kernel_rfl) (by kernel_rfl) (fun _ _ _ h => h) (by kernel_rfl) ?h2_3 (by assumption) ?_
  case h2_3 =>
    intro w hSw
    (try dsimp only at hSw)
    (try go_split_ands)
    go_simp
    try with_reducible rfl
  (try simp only [Act.put, List.setIfInBounds_toArray, List.set_cons_zero, List.set_cons_succ])
  refine take_yes 3 (some 9) (v := ?v3_4) rfl rfl (by kernel_rfl) (by kernel_rfl) (by kernel_rfl) (fun _ _ _ h => h) (by kernel_rfl) ?h3_4 (by assumption) ?_
  case h3_4 =>
    intro w hSw
    (try dsimp only at hSw)
    (try go_split_ands)
    go_simp
    try with_reducible rfl
  (try simp only [Act.put, List.setIfInBounds_toArray, List.set_cons_zero, List.set_cons_succ])
  refine take_yes 4 (some 10) (v := ?v4_5) rfl rfl (by kernel_rfl) (by kernel_rfl) (by kernel_rfl) (fun _ _ _ h => h) (by kernel_rfl) ?h4_5 (by assumption) ?_
  case h4_5 =>
    intro w hSw
    (try dsimp only at hSw)
    (try go_split_ands)
    go_simp
    try with_reducible rfl
  (try simp only [Act.put, List.setIfInBounds_toArray, List.set_cons_zero, List.set_cons_succ])
  refine take_yes 5 (some 11) (v := ?v5_6) rfl rfl (by kernel_rfl) (by kernel_rfl) (by kernel_rfl) (fun _ _ _ h => h) (by kernel_rfl) ?h5_6 (by assumption) ?_
  case h5_6 =>
    intro w hSw
    (try dsimp only at hSw)
    (try go_split_ands)
    go_simp
    try with_reducible rfl
  (try simp only [Act.put, List.setIfInBounds_toArray, List.set_cons_zero, List.set_cons_succ])
  refine take_yes 6 (some 12) (v := ?v6_7) rfl rfl (by kernel_rfl) (by kernel_rfl) (by kernel_rfl) (fun _ _ _ h => h) (by kernel_rfl) ?h6_7 (by assumption) ?_
  case h6_7 =>
    intro w hSw
    (try dsimp only at hSw)
    (try go_split_ands)
    go_simp
    try with_reducible rfl
  (try simp only [Act.put, List.setIfInBounds_toArray, List.set_cons_zero, List.set_cons_succ])
  refine take_yes 7 (some 13) (v := ?v7_8) rfl rfl (by kernel_rfl) (by kernel_rfl) (by kernel_rfl) (fun _ _ _ h => h) (by kernel_rfl) ?h7_8 (by assumption) ?_
  case h7_8 =>
    intro w hSw
    (try dsimp only at hSw)
    (try go_split_ands)
    go_simp
    try with_reducible rfl
  (try simp only [Act.put, List.setIfInBounds_toArray, List.set_cons_zero, List.set_cons_succ])
  refine take_yes 8 (some 14) (v := ?v8_9) rfl rfl (by kernel_rfl) (by kernel_rfl) (by kernel_rfl) (fun _ _ _ h => h) (by kernel_rfl) ?h8_9 (by assumption) ?_
  case h8_9 =>
    intro w hSw
    (try dsimp only at hSw)
    (try go_split_ands)
    go_simp
    try with_reducible rfl
  (try simp only [Act.put, List.setIfInBounds_toArray, List.set_cons_zero, List.set_cons_succ])
  refine take_yes 10 (some 16) (v := ?v10_10) rfl rfl (by kernel_rfl) (by kernel_rfl) (by kernel_rfl) (fun _ _ _ h => h) (by kernel_rfl) ?h10_10 (by assumption) ?_
  case h10_10 =>
    intro w hSw
    (try dsimp only at hSw)
    (try go_split_ands)
    go_simp
    try with_reducible rfl
  (try simp only [Act.put, List.setIfInBounds_toArray, List.set_cons_zero, List.set_cons_succ])
  refine take_yes 11 (some 17) (v := ?v11_11) rfl rfl (by kernel_rfl) (by kernel_rfl) (by kernel_rfl) (fun _ _ _ h => h) (by kernel_rfl) ?h11_11 (by assumption) ?_
  case h11_11 =>
    intro w hSw
    (try dsimp only at hSw)
    (try go_split_ands)
    go_simp
    try with_reducible rfl
  (try simp only [Act.put, List.setIfInBounds_toArray, List.set_cons_zero, List.set_cons_succ])
  refine take_yes 12 (some 18) (v := ?v12_12) rfl rfl (by kernel_rfl) (by kernel_rfl) (by kernel_rfl) (fun _ _ _ h => h) (by kernel_rfl) ?h12_12 (by assumption) ?_
  case h12_12 =>
    intro w hSw
    (try dsimp only at hSw)
    (try go_split_ands)
    go_simp
    try with_reducible rfl
  (try simp only [Act.put, List.setIfInBounds_toArray, List.set_cons_zero, List.set_cons_succ])
  refine take_yes 13 (some 19) (v := ?v13_13) rfl rfl (by kernel_rfl) (by kernel_rfl) (by kernel_rfl) (fun _ _ _ h => h) (by kernel_rfl) ?h13_13 (by assumption) ?_
  case h13_13 =>
    intro w hSw
    (try dsimp only at hSw)
    (try go_split_ands)
    go_simp
    try with_reducible rfl
  (try simp only [Act.put, List.setIfInBounds_toArray, List.set_cons_zero, List.set_cons_succ])
  refine take_yes 14 (some 20) (v := ?v14_14) rfl rfl (by kernel_rfl) (by kernel_rfl) (by kernel_rfl) (fun _ _ _ h => h) (by kernel_rfl) ?h14_14 (by assumption) ?_
  case h14_14 =>
    intro w hSw
    (try dsimp only at hSw)
    (try go_split_ands)
    go_simp
    try with_reducible rfl
  (try simp only [Act.put, List.setIfInBounds_toArray, List.set_cons_zero, List.set_cons_succ])
  refine take_yes 15 (some 21) (v := ?v15_15) rfl rfl (by kernel_rfl) (by kernel_rfl) (by kernel_rfl) (fun _ _ _ h => h) (by kernel_rfl) ?h15_15 (by assumption) ?_
  case h15_15 =>
    intro w hSw
    (try dsimp only at hSw)
    (try go_split_ands)
    go_simp
    try with_reducible rfl
  (try simp only [Act.put, List.setIfInBounds_toArray, List.set_cons_zero, List.set_cons_succ])
  refine take_yes 16 (some 22) (v := ?v16_16) rfl rfl (by kernel_rfl) (by kernel_rfl) (by kernel_rfl) (fun _ _ _ h => h) (by kernel_rfl) ?h16_16 (by assumption) ?_
  case h16_16 =>
    intro w hSw
    (try dsimp only at hSw)
    (try go_split_ands)
    go_simp
    try with_reducible rfl
  (try simp only [Act.put, List.setIfInBounds_toArray, List.set_cons_zero, List.set_cons_succ])
  refine take_yes 17 (some 23) (v := ?v17_17) rfl rfl (by kernel_rfl) (by kernel_rfl) (by kernel_rfl) (fun _ _ _ h => h) (by kernel_rfl) ?h17_17 (by assumption) ?_
  case h17_17 =>
    intro w hSw
    (try dsimp only at hSw)
    (try go_split_ands)
    go_simp
    try with_reducible rfl
  (try simp only [Act.put, List.setIfInBounds_toArray, List.set_cons_zero, List.set_cons_succ])
  refine take_yes 18 (some 24) (v := ?v18_18) rfl rfl (by kernel_rfl) (by kernel_rfl) (by kernel_rfl) (fun _ _ _ h => h) (by kernel_rfl) ?h18_18 (by assumption) ?_
  case h18_18 =>
    intro w hSw
    (try dsimp only at hSw)
    (try go_split_ands)
    go_simp
    try with_reducible rfl
  (try simp only [Act.put, List.setIfInBounds_toArray, List.set_cons_zero, List.set_cons_succ])
  refine wpAnyH_ready (rs := [9]) (by kernel_rfl) (by simp) ?_
  refine AllReadyH.cons rfl (fun K hK => ?_) AllReadyH.nil
  go_simp
  go_at_call 73
  (with_reducible refine (HW1.out _).mono ?_)
  rintro e y1 ⟨rfl, rfl⟩
  go_wp2_with fail
  refine hK.out _ _ (HK.out _ HB0.out) (fun hHeld1 => ?_)
  clear hK K hHeld
  (try simp only [Act.put, List.setIfInBounds_toArray, List.set_cons_zero, List.set_cons_succ])
  refine wpAnyH_ready (rs := [19]) (by kernel_rfl) (by simp) ?_
  refine AllReadyH.cons rfl (fun K hK => ?_) AllReadyH.nil
  go_simp
  go_at_call 73
  (with_reducible refine (HW2.out _).mono ?_)
  rintro e y2 ⟨rfl, rfl⟩
  go_wp2_with fail
  refine hK.out _ _ (HK.out _ HB0.out) (fun hHeld2 => ?_)
  clear hK K hHeld1
  (try simp only [Act.put, List.setIfInBounds_toArray, List.set_cons_zero, List.set_cons_succ])
  refine wpAnyH_ready (rs := [20]) (by kernel_rfl) (by simp) ?_
  refine AllReadyH.cons rfl (fun K hK => ?_) AllReadyH.nil
  have HB3 := Lib.hid (HB0.out.alloc HB0.out.size (.cells #[.string ⟨#[108, 105, 110, 107]⟩, .string (str sa.name), .string x1, .string (str sb.name), .string x2] 9))
  go_simp
  refine hK.out _ _ (HK.out _ HB3.out) (fun hHeld3 => ?_)
  clear hK K hHeld2
  (try simp only [Act.put, List.setIfInBounds_toArray, List.set_cons_zero, List.set_cons_succ])
  refine take_yes 21 (some 5) (v := ?v21_19) rfl rfl (by kernel_rfl) (by kernel_rfl) (by kernel_rfl) (fun _ _ _ h => h) (by kernel_rfl) ?h21_19 (by assumption) ?_
  case h21_19 =>
    intro w hSw
    (try dsimp only at hSw)
    (try go_split_ands)
    go_simp
    try with_reducible rfl
  (try simp only [Act.put, List.setIfInBounds_toArray, List.set_cons_zero, List.set_cons_succ])
  refine wpAnyH_done (by kernel_rfl) ?_ _
  obtain ⟨Z, hZ⟩ : ∃ Z, y0.alloc (.cells #[.string ⟨#[108, 105, 110, 107]⟩, .string (str sa.name), .string x1, .string (str sb.name), .string x2] 9) = Z := ⟨_, rfl⟩
  have ecs : sR.cs [kwLink, sa.name, endW kae, sb.name, endW kbe] = [.string ⟨#[108, 105, 110, 107]⟩, .string (str sa.name), .string x1, .string (str sb.name), .string x2] := by
    rw [← HX1.out, ← HX2.out]; rfl
  have hO : Own sR Z W.heap.size (.slice (some ⟨y0.heap.size, 0, none⟩) 5 5) 5 [kwLink, sa.name, endW kae, sb.name, endW kbe] := by
    rw [← hZ]
    refine ⟨rfl, ?_⟩
    rw [ecs]
    exact World.ownsRow_lit (base := W.heap.size) (e := 9) (size := 1) y0 #[.string ⟨#[108, 105, 110, 107]⟩, .string (str sa.name), .string x1, .string (str sb.name), .string x2] 5 HB0.out.size (by unfold maxLen; omega) rfl
  have HBZ : Hid (Below W.heap.size W Z) := by rw [Hid, ← hZ]; exact HB3.out
  rw [hZ]
  generalize y0.heap.size = yb at *
  clear hZ HB3
  obtain ⟨-, -, -, -, q4, -⟩ := HK.out Z HBZ.out
  have HO := Lib.hid hO
  have HBw := Lib.hid (HBW.out.trans (HBZ.out.mono HBW.out.size))
  by_cases hst : 0 ≤ kpt
  · obtain ⟨i, rfl⟩ : ∃ i : Nat, kpt = (i : Int) := ⟨kpt.toNat, by omega⟩
    have hne : ((i : Int) != -1) = true := by rw [bne_iff_ne]; omega
    have hne2 : ((i : Int) == -1) = false := by rw [beq_eq_false_iff_ne]; omega
    obtain ⟨ap, sN, rfl, hap, hsN, hcell⟩ := loadS (HRP.out W (Below.refl _ _)) (show i < n2 by omega)
    have hE : Hid (linkLine l ⟨(a : Int), kae, (b : Int), kbe, (i : Int), kps⟩ = [kwLink, sa.name, endW kae, sb.name, endW kbe] ++ [sN, dec kps]) := by
      rw [Hid, HLS.out, if_pos hst, HE1.out, HE2.out, HNA.out, HNB.out]
      rw [show ((i : Int)).toNat = i from rfl, hsN]; rfl
    have HK3 : Hid (∀ w', Below W.heap.size W w' → _ ∧ w'.cell? (ap.add i) = some (.string (str sN))) := fun w' hb => ⟨HK.out w' hb, (hb.cell (p := ap.add i) (by rw [Mem.block_add]; exact hap)).trans hcell⟩
    have hi0 : (0 : Int) ≤ (i : Int) := hst
    have hi1 : (i : Int) < (n2 : Int) := by omega
    have hn63 : 5 + 2 ≤ maxLen := by unfold maxLen; omega
    have hby : (5 + 2) * 16 ≤ 140737488355328 := by omega
    have hbz := HBZ.out.size
    clear hst HLS hO
    go_upto_region 3 with fail
    clear q4
    refine wp_region_held_drew (S := (fun w' => (w'.cell? ⟨w.heap.size + 1, 0, none⟩ = some (.int .i64 a) ∧ w'.cell? ⟨w.heap.size + 1, 1, none⟩ = some (.int .i64 kae) ∧ w'.cell? ⟨w.heap.size + 1, 2, none⟩ = some (.int .i64 b) ∧ w'.cell? ⟨w.heap.size + 1, 3, none⟩ = some (.int .i64 kbe) ∧ w'.cell? ⟨w.heap.size + 1, 4, none⟩ = some (.int .i64 (i : Int)) ∧ w'.cell? ⟨w.heap.size + 1, 5, none⟩ = some (.int .i64 kps) ∧ w'.cell? ⟨w.heap.size, 1, none⟩ = some (.slice (some ap) n2 c2) ∧ w'.cell? ⟨w.heap.size, 2, none⟩ = some (.slice (some ad) n3 c3) ∧ w'.cell? (ad.add (a * 5)) = some (.string (str sa.name)) ∧ w'.cell? (ad.add (b * 5)) = some (.string (str sb.name))) ∧ w'.cell? (ap.add i) = some (.string (str sN)))) (by kernel_rfl) (HK3.out _ HBZ.out.drew) (fun hHeld => ?_)
    have HBZ0 := Lib.hid HBZ.out.drew
    have HOZ0 : Hid (Own sR Z.drew W.heap.size (.slice (some ⟨yb, 0, none⟩) 5 5) 5 [kwLink, sa.name, endW kae, sb.name, endW kbe]) := HO.out
    generalize Z.drew = z0 at *
    refine take_yes 0 (some 30) (v := ?v0_20) rfl rfl (by kernel_rfl) (by kernel_rfl) (by kernel_rfl) (fun _ _ _ h => h) (by kernel_rfl) ?h0_20 (by assumption) ?_
    case h0_20 =>
      intro w hSw
      (try dsimp only at hSw)
      (try go_split_ands)
      go_simp
      try with_reducible rfl
    (try simp only [Act.put, List.setIfInBounds_toArray, List.set_cons_zero, List.set_cons_succ])
    refine take_yes 1 (some 31) (v := ?v1_21) rfl rfl (by kernel_rfl) (by kernel_rfl) (by kernel_rfl) (fun _ _ _ h => h) (by kernel_rfl) ?h1_21 (by assumption) ?_
    case h1_21 =>
      intro w hSw
      (try dsimp only at hSw)
      (try go_split_ands)
      go_simp
      try with_reducible rfl
    (try simp only [Act.put, List.setIfInBounds_toArray, List.set_cons_zero, List.set_cons_succ])
    refine take_yes 2 (some 32) (v := ?v2_22) rfl rfl (by kernel_rfl) (by kernel_rfl) (by kernel_rfl) (fun _ _ _ h => h) (by kernel_rfl) ?h2_22 (by assumption) ?_
    case h2_22 =>
      intro w hSw
      (try dsimp only at hSw)
      (try go_split_ands)
      go_simp
      try with_reducible rfl
    (try simp only [Act.put, List.setIfInBounds_toArray, List.set_cons_zero, List.set_cons_succ])
    refine take_yes 3 (some 33) (v := ?v3_23) rfl rfl (by kernel_rfl) (by kernel_rfl) (by kernel_rfl) (fun _ _ _ h => h) (by kernel_rfl) ?h3_23 (by assumption) ?_
    case h3_23 =>
      intro w hSw
      (try dsimp only at hSw)
      (try go_split_ands)
      go_simp
      try with_reducible rfl
    (try simp only [Act.put, List.setIfInBounds_toArray, List.set_cons_zero, List.set_cons_succ])
    refine take_yes 4 (some 34) (v := ?v4_24) rfl rfl (by kernel_rfl) (by kernel_rfl) (by kernel_rfl) (fun _ _ _ h => h) (by kernel_rfl) ?h4_24 (by assumption) ?_
    case h4_24 =>
      intro w hSw
      (try dsimp only at hSw)
      (try go_split_ands)
      go_simp
      try with_reducible rfl
    (try simp only [Act.put, List.setIfInBounds_toArray, List.set_cons_zero, List.set_cons_succ])
    refine take_yes 5 (some 35) (v := ?v5_25) rfl rfl (by kernel_rfl) (by kernel_rfl) (by kernel_rfl) (fun _ _ _ h => h) (by kernel_rfl) ?h5_25 (by assumption) ?_
    case h5_25 =>
      intro w hSw
      (try dsimp only at hSw)
      (try go_split_ands)
      go_simp
      try with_reducible rfl
    (try simp only [Act.put, List.setIfInBounds_toArray, List.set_cons_zero, List.set_cons_succ])
    refine take_yes 6 (some 36) (v := ?v6_26) rfl rfl (by kernel_rfl) (by kernel_rfl) (by kernel_rfl) (fun _ _ _ h => h) (by kernel_rfl) ?h6_26 (by assumption) ?_
    case h6_26 =>
      intro w hSw
      (try dsimp only at hSw)
      (try go_split_ands)
      go_simp
      try with_reducible rfl
    (try simp only [Act.put, List.setIfInBounds_toArray, List.set_cons_zero, List.set_cons_succ])
    refine take_yes 7 (some 37) (v := ?v7_27) rfl rfl (by kernel_rfl) (by kernel_rfl) (by kernel_rfl) (fun _ _ _ h => h) (by kernel_rfl) ?h7_27 (by assumption) ?_
    case h7_27 =>
      intro w hSw
      (try dsimp only at hSw)
      (try go_split_ands)
      go_simp
      try with_reducible rfl
    (try simp only [Act.put, List.setIfInBounds_toArray, List.set_cons_zero, List.set_cons_succ])
    refine take_yes 8 (some 38) (v := ?v8_28) rfl rfl (by kernel_rfl) (by kernel_rfl) (by kernel_rfl) (fun _ _ _ h => h) (by kernel_rfl) ?h8_28 (by assumption) ?_
    case h8_28 =>
      intro w hSw
      (try dsimp only at hSw)
      (try go_split_ands)
      go_simp
      try with_reducible rfl
    (try simp only [Act.put, List.setIfInBounds_toArray, List.set_cons_zero, List.set_cons_succ])
    refine wpAnyH_ready (rs := [9]) (by kernel_rfl) (by simp) ?_
    refine AllReadyH.cons rfl (fun K hK => ?_) AllReadyH.nil
    go_simp
    go_at_call 72
    (with_reducible refine (HI1.out _ HBZ0.out).mono ?_)
    rintro e y4 ⟨rfl, hb4⟩
    have HB4 := Lib.hid (HBZ0.out.trans (hb4.mono HBZ0.out.size))
    have HO4 := Lib.hid (HOZ0.out.below (hb4) (Nat.le_refl _))
    clear hb4
    go_wp2_with fail
    refine hK.out _ _ (HK3.out _ HB4.out) (fun hHeld4 => ?_)
    clear hK K hHeld
    (try simp only [Act.put, List.setIfInBounds_toArray, List.set_cons_zero, List.set_cons_succ])
    refine wpAnyH_ready (rs := [10]) (by kernel_rfl) (by simp) ?_
    refine AllReadyH.cons rfl (fun K hK => ?_) AllReadyH.nil
    have HB5 := Lib.hid (HB4.out.alloc HB4.out.size (.cells #[.string (str sN), .string d1] 9))
    go_simp
    refine hK.out _ _ (HK3.out _ HB5.out) (fun hHeld5 => ?_)
    clear hK K hHeld4
    (try simp only [Act.put, List.setIfInBounds_toArray, List.set_cons_zero, List.set_cons_succ])
    refine wpAnyH_ready (rs := [11]) (by kernel_rfl) (by simp) ?_
    refine AllReadyH.cons rfl (fun K hK => ?_) AllReadyH.nil
    have hbig6 : W.heap.size ≤ y4.heap.size := HB4.out.size
    refine step_append_lies _ (by rfl) _ _ _ (by rfl) W.heap.size 9 ih1 _ 1 16 Tryd.underlying22 hih1 hy0 hy1 hy2 rfl (by omega) (.slice (some ⟨yb, 0, none⟩) 5 5) 5 (sR.cs [kwLink, sa.name, endW kae, sb.name, endW kbe]) (by rfl) (HO4.out.2.alloc _) ⟨y4.heap.size, 0, none⟩ 2 2 [.string (str sN), .string d1] (by rfl) (by rfl) (World.news_of_block (cs := #[.string (str sN), .string d1]) (t := 9) (fr := (0, 0)) (heap_alloc_new y4 _)) (by simp [Value.oneCell']) (by omega) hn63 hby (by simp; omega) (y4.heap.size + 1) (by simp) ?_
    intro gg cap w7 hown7 hgrow7 hat7 hlt7
    have hbel : Below W.heap.size W w7 := HB5.out.grown hgrow7 (by have := HB5.out.size; omega) (fun k hk => (HO4.out.2.lt k hk).1)
    refine hK.out _ _ (HK3.out _ hbel) (fun hHeld6 => ?_)
    clear hK K hHeld5 hbig6 hat7 hlt7
    (try simp only [Act.put, List.setIfInBounds_toArray, List.set_cons_zero, List.set_cons_succ])
    refine take_yes 12 (some 5) (v := ?v12_29) rfl rfl (by kernel_rfl) (by kernel_rfl) (by kernel_rfl) (fun _ _ _ h => h) (by kernel_rfl) ?h12_29 (by assumption) ?_
    case h12_29 =>
      intro w hSw
      (try dsimp only at hSw)
      (try go_split_ands)
      go_simp
      try with_reducible rfl
    (try simp only [Act.put, List.setIfInBounds_toArray, List.set_cons_zero, List.set_cons_succ])
    refine wpAnyH_done (by kernel_rfl) ?_ _
    have hO7 : Own sR w7 W.heap.size (.slice (some ⟨gg, 0, none⟩) 7 cap) 7 ([kwLink, sa.name, endW kae, sb.name, endW kbe] ++ [sN, dec kps]) := ⟨rfl, by
      rw [Recs.cs_append, ecs, show sR.cs [sN, dec kps] = [.string (str sN), .string d1] from by rw [← HD1.out]; rfl]; first | exact hown7 | (rw [ecs] at hown7; exact hown7)⟩
    have HO7 := Lib.hid (hO7.base_ hlw)
    have HB7 := Lib.hid (HBW.out.trans (hbel.mono HBW.out.size))
    clear hO7 hown7 hgrow7 hbel
    go_wp2_with fail
    go_ret
    exact ⟨some ⟨gg, 0, none⟩, 7, cap, rfl, by rw [hE.out]; exact HO7.out, HB7.out⟩
  · have hne : (kpt != -1) = false := by
      have : kpt = -1 := by omega
      subst this; rfl
    have hne2 : (kpt == -1) = true := by
      have : kpt = -1 := by omega
      subst this; rfl
    have hE : Hid (linkLine l ⟨(a : Int), kae, (b : Int), kbe, kpt, kps⟩ = [kwLink, sa.name, endW kae, sb.name, endW kbe]) := by
      rw [Hid, HLS.out, if_neg hst, List.append_nil, HE1.out, HE2.out, HNA.out, HNB.out]
    clear hst HLS hO
    go_wp2_with fail
    go_ret
    exact ⟨_, 5, 5, rfl, by rw [hE.out]; exact HO.out.base_ hlw, HBw.out⟩
end Go.Proofs.YtkfobijgjdgbgaaDoor.LnkLine

namespace Go.Proofs.YtkfobijgjdgbgaaDoor.Grid
open Go.RowKit Wd Small Lin Lay LayT Recs Strs
set_option linter.unusedVariables false

theorem infoG : (Tryd.prog.info? 22).map (fun i => (i.zero, i.size, i.bytes)) = some (some (.slice none 0 0), 1, 24) := by kernel_rfl
/-- the value u is a slice of the call's own that reads as the row L -/
def GRow (w : World) (base : Nat) (u : Value) (L : List Bs) : Prop := Recs.Own sR w base u L.length L
/-- the values us are such slices -/
def GRows (w : World) (base : Nat) : List Value → List (List Bs) → Prop
  | [], [] => True
  | u :: us, L :: T => GRow w base u L ∧ GRows w base us T
  | _, _ => False
/-- the slice value v of n elements is the call's own, and reads as the list of rows T -/
def OwnG (w : World) (base : Nat) (v : Value) (n : Nat) (T : List (List Bs)) : Prop := ∃ us, T.length = n ∧ w.ownsRow base 22 1 v n us ∧ GRows w base us T

theorem GRows.imp {w w' : World} {base base' : Nat} (h : ∀ u L, GRow w base u L → GRow w' base' u L) : ∀ {us : List Value} {T : List (List Bs)}, GRows w base us T → GRows w' base' us T
  | [], [], _ => trivial
  | _ :: _, _ :: _, hr => ⟨h _ _ hr.1, GRows.imp h hr.2⟩
theorem GRows.snoc {w : World} {base : Nat} {u : Value} {L : List Bs} (hu : GRow w base u L) : ∀ {us : List Value} {T : List (List Bs)}, GRows w base us T → GRows w base (us ++ [u]) (T ++ [L])
  | [], [], _ => ⟨hu, trivial⟩
  | _ :: _, _ :: _, hr => ⟨hr.1, GRows.snoc hu hr.2⟩
theorem GRows.get {w : World} {base : Nat} {us : List Value} {T : List (List Bs)} (hr : GRows w base us T) {k : Nat} {L : List Bs} (h : T[k]? = some L) : ∃ u, us[k]? = some u ∧ GRow w base u L := by
  induction us generalizing T k with
  | nil =>
    cases T with
    | nil => simp at h
    | cons M T => exact hr.elim
  | cons u us ih =>
    cases T with
    | nil => exact hr.elim
    | cons M T =>
      cases k with
      | zero => simp at h; subst h; exact ⟨u, rfl, hr.1⟩
      | succ k => simp at h; obtain ⟨x, h1, h2⟩ := ih hr.2 h; exact ⟨x, by simpa using h1, h2⟩
section
variable {w w' : World} {B n : Nat} {T : List (List Bs)}
theorem OwnG.nil (w : World) (base : Nat) : OwnG w base (.slice none 0 0) 0 [] := ⟨[], rfl, World.ownsRow_nil _ _ _ _, trivial⟩
theorem OwnG.alloc {base : Nat} {v : Value} (h : OwnG w base v n T) (o : Obj) : OwnG (w.alloc o) base v n T := by
  obtain ⟨us, h1, h2, h3⟩ := h
  exact ⟨us, h1, h2.alloc o, GRows.imp (fun u L hr => Recs.Own.alloc hr o) h3⟩
theorem OwnG.below {base : Nat} {v : Value} (h : OwnG w base v n T) (hb : Below B w w') (hB : w.heap.size ≤ B) : OwnG w' base v n T := by
  obtain ⟨us, h1, h2, h3⟩ := h
  refine ⟨us, h1, h2.kept (row := none) ⟨hb.os, hb.tape, hb.output, hb.size, fun k hk _ => hb.block k (by omega)⟩ (by
    cases hv : v.ownBlock with
    | none => exact .inl rfl
    | some g => exact .inr (by simp)), GRows.imp (fun u L hr => Recs.Own.below hr hb hB) h3⟩
theorem OwnG.form {base : Nat} {v : Value} (h : OwnG w base v n T) : ∃ A c, v = .slice A n c ∧ n ≤ c ∧ c ≤ maxLen := by
  obtain ⟨us, h1, h2, h3⟩ := h
  rcases h2.2 with ⟨rfl, rfl⟩ | ⟨g, cap, cur, rfl, _, _, hc, hm, _⟩
  · exact ⟨none, 0, rfl, Nat.le_refl _, Nat.zero_le _⟩
  · exact ⟨_, cap, rfl, hc, hm⟩
theorem OwnG.drewN {base : Nat} {v : Value} (h : OwnG w base v n T) (k : Nat) : OwnG (w.drewN k) base v n T := by
  obtain ⟨us, h1, h2, h3⟩ := h
  exact ⟨us, h1, h2, GRows.imp (w := w) (w' := w.drewN k) (fun u L hr => Recs.Own.drewN (n := L.length) hr k) h3⟩

theorem own_ne {base base' n m : Nat} {v u : Value} {xs ys : List Value} {g : Nat} (h : w.ownsRow base 22 1 v n xs) (h' : w.ownsRow base' 9 1 u m ys) (hg : u.ownBlock = some g) : v.ownBlock ≠ some g := by
  rcases h.2 with ⟨rfl, _⟩ | ⟨g1, cap, cur, rfl, _, hh, _⟩
  · simp [Value.ownBlock]
  · rcases h'.2 with ⟨rfl, _⟩ | ⟨g2, cap2, cur2, rfl, _, hh2, _⟩
    · simp [Value.ownBlock] at hg
    · simp [Value.ownBlock] at hg ⊢
      rintro rfl
      subst hg
      rw [hh] at hh2
      injection hh2 with hh2
      injection hh2 with _ ht
      exact absurd ht (by decide)
theorem kept {base n m : Nat} {v u : Value} {L : List Bs} {xs : List Value} {base' : Nat} (h : Recs.Own sR w base' u m L) (hv : w.ownsRow base 22 1 v n xs) (hg : w.grownBy w' v.ownBlock) : Recs.Own sR w' base' u m L := by
  refine ⟨h.1, h.2.kept (row := v.ownBlock) hg ?_⟩
  cases hu : u.ownBlock with
  | none => exact .inl rfl
  | some g => exact .inr (fun e => own_ne hv h.2 hu (by rw [← e]))
/-- behind the append of one row to a list of the call's own -/
theorem appendedG {cc m : Nat} {w0 w1 w2 : World} {v : Value} {L : List Bs} {A A1 : Option Addr} {c1 : Nat} {us : List Value} {o : Obj} (hbw : Below B w0 w1) (hB : B ≤ w1.heap.size) (hl : T.length = n) (hown : w1.ownsRow B 22 1 (.slice A n cc) n us) (hR : GRows w1 B us T)
    (hL : Recs.Own sR w1 B (.slice A1 m c1) m L) (hown' : w2.ownsRow B 22 1 v (n + 1) (us ++ [.slice A1 m c1])) (hgrow : (w1.alloc o).grownBy w2 (Value.slice A n cc).ownBlock) :
    ∃ A' c', v = .slice A' (n + 1) c' ∧ OwnG w2 B (.slice A' (n + 1) c') (n + 1) (T ++ [L]) ∧ Below B w0 w2 := by
  have hk : ∀ u M, GRow w1 B u M → GRow w2 B u M := fun u M hr => kept (Recs.Own.alloc hr o) (hown.alloc o) hgrow
  have hml : m = L.length := hL.1.symm
  subst hml
  have h : OwnG w2 B v (n + 1) (T ++ [L]) := ⟨_, by simp [hl], hown', GRows.snoc (hk _ _ hL) (GRows.imp hk hR)⟩
  obtain ⟨A', c', rfl, _⟩ := h.form
  exact ⟨A', c', rfl, h, (hbw.alloc hB _).grown hgrow (by simp; omega) (fun k hk => (hown.lt k hk).1)⟩
/-- a row of the call's own, as the joining function reads it -/
theorem row_of {base c : Nat} {A : Option Addr} {L : List Bs} (h : Recs.Own sR w base (.slice A n c) n L) : Strs.Row w w.heap.size A n (L.map str) := by
  have hr := h.rd
  refine ⟨by rw [List.length_map]; exact h.1, fun j s hs => ?_⟩
  have hj : j < n := by have := (List.getElem?_eq_some_iff.1 hs).1; rw [List.length_map, h.1] at this; exact this
  obtain ⟨ad, s', rfl, hb, hs', hc⟩ := loadS hr hj
  refine ⟨ad, rfl, hb, ?_⟩
  rw [List.getElem?_map, hs'] at hs
  simp at hs
  rw [← hs]; exact hc
/-- what was made reads as the list of rows -/
theorem OwnG.grid {base c : Nat} {A : Option Addr} (h : OwnG w base (.slice A n c) n T) : Strs.Grid w w.heap.size A n (LayT.strs T) := by
  obtain ⟨us, h1, h2, h3⟩ := h
  refine ⟨by rw [LayT.strs, List.length_map]; exact h1, fun j X hX => ?_⟩
  rw [LayT.strs, List.getElem?_map] at hX
  cases hT : T[j]? with
  | none => rw [hT] at hX; simp at hX
  | some L =>
    rw [hT] at hX
    simp at hX
    subst hX
    obtain ⟨u, hu, hr⟩ := h3.get hT
    obtain ⟨A1, c1, rfl, q1, q2⟩ := Recs.Own.form hr
    have hlen := h2.1
    have hj := (List.getElem?_eq_some_iff.1 hT).1
    rcases h2.2 with ⟨e2, e3⟩ | ⟨g, cap, cur, e2, _, hh, _⟩
    · rw [e3] at hlen; simp at hlen; omega
    · have hA : A = some ⟨g, 0, none⟩ := by injection e2
      subst hA
      have hrow := row_of hr
      have hlm : (L.map str).length = L.length := List.length_map _
      refine ⟨_, A1, c1, rfl, lt_of_block hh, ?_, ?_, by omega, by unfold maxLen at q2; omega⟩
      · rw [hlm]; exact h2.cells (g := g) rfl j _ hu
      · rw [hlm]; exact hrow
end
/-- the lines of a valid layout are lists of words -/
theorem joinT_lines (l : Lay) (h : check l = 0) : joinT (LayT.strs (lines l)) = format l := by
  have hf : (LayT.strs (lines l)).all okL = true := by
    rw [List.all_eq_true]
    intro L hL
    obtain ⟨M, hM, rfl⟩ := List.mem_map.1 hL
    obtain ⟨h1, h2, h3⟩ := lines_fine l h M hM
    unfold okL
    rw [List.length_map, decide_eq_true h2, decide_eq_true (show M.length ≤ 64 by omega), Bool.true_and, Bool.true_and, List.all_eq_true]
    intro s hs
    obtain ⟨w, hw, rfl⟩ := List.mem_map.1 hs
    rw [bs_str]
    exact Back.fine_word (h1 w hw).1
  rw [joinT, if_pos hf, format, if_pos h]
theorem lines_wt (l : Lay) (h : check l = 0) : wtL (LayT.strs (lines l)) ≤ 140737488355328 := by
  have h2 := wtL_short (lines l) (fun x hx => ⟨(lines_fine l h x hx).1, (lines_fine l h x hx).2.2⟩)
  have h3 : (lines l).length = l.stations.length + (l.points.length + (l.sections.length + l.links.length)) := by simp [lines]
  have := limits h
  omega
def LS (l : Lay) : List (List Bs) := l.stations.map fun s => [kwStation, s]
def LP (l : Lay) : List (List Bs) := l.points.map fun s => [kwPoint, s]
theorem lines_eq (l : Lay) : lines l = LS l ++ LP l ++ l.sections.map (secLine l) ++ l.links.map (linkLine l) := by
  simp [lines, LS, LP]
end Go.Proofs.YtkfobijgjdgbgaaDoor.Grid

namespace Go.Proofs.YtkfobijgjdgbgaaDoor.PFmt
open Go.ChangeShapes Go.WideShapes Go.ChangeAt Go.RowKit Wd Small Lay LayT Recs PNames PSecs PEnds PCheck RNames Itoa SecLine Grid
set_option linter.unusedVariables false

/-- what a call leaves that answers the text of a layout -/
def FmtPost (l : Lay) (w : World) (e : Ending) (w' : World) : Prop := e = .returned (.string (str (format l))) ∧ Below w.heap.size w w'
theorem new_row (w : World) (v : Value) (e : TypeId) : ∀ (j : Nat) (u : Value), [v][j]? = some u → (w.alloc (.cells #[v] e)).cell? ((⟨w.heap.size, 0, none⟩ : Addr).add j) = some u := by
  intro j u hu
  match j, hu with
  | 0, hu => simp at hu; subst hu; simp [Addr.add]
theorem one_row (A : Option Addr) (n c : Nat) : ∀ u ∈ [Value.slice A n c], u.oneCell' = true := by
  intro u hu
  simp only [List.mem_cons, List.not_mem_nil, or_false] at hu
  subst hu; rfl
/-- a row of two words, as a literal makes it -/
theorem two_row (w : World) (B : Nat) (a b : Bs) (hB : B ≤ w.heap.size) : Recs.Own sR (w.alloc (.cells #[.string (str a), .string (str b)] 9)) B (.slice (some ⟨w.heap.size, 0, none⟩) 2 2) 2 [a, b] := by
  refine ⟨rfl, ?_⟩
  exact World.ownsRow_lit (base := B) (e := 9) (size := 1) w #[.string (str a), .string (str b)] 2 hB (by unfold maxLen; omega) rfl

set_option maxRecDepth 100000 in
set_option maxHeartbeats 16000000 in
theorem p_format (v : LV) (l : Lay) (w : World) (hL : RdL w w.heap.size v l) (hv : check l = 0) (ht : Tab w) : Calls Tryd.prog 14 #[v.val] w (FmtPost l w) := by
  obtain ⟨i0, hi, hz0, hz1, hz2⟩ := info_parts infoG
  have hval := valid_of hv
  have e1 := hL.st.1
  have e2 := hL.pt.1
  have e3 := hL.sec.1
  have e4 := hL.lnk.1
  have lim := LayT.limits hv
  have m1 : v.n1 ≤ 24 := by omega
  have m2 : v.n2 ≤ 48 := by omega
  have m3 : v.n3 ≤ 96 := by omega
  have m4 : v.n4 ≤ 192 := by omega
  have HVAL := Lib.hid hval
  have HJ : Hid (Strs.joinT (LayT.strs (lines l)) = format l) := joinT_lines l hv
  have HJW := Lib.hid (lines_wt l hv)
  obtain ⟨W, hW, HZ, HB0, HBX⟩ := boxed v w
  have hgW : w.heap.size < W.heap.size := by rw [HZ.out]; omega
  have HC := Lib.hid HBX
  have HK0 : ∀ wr, Below W.heap.size W wr → _ := fun wr hb => box_kept hb hgW HC.out
  have HK := Lib.hid HK0
  have HLW := Lib.hid (hL.grow HB0 HB0.size)
  have HB := Lib.hid HB0
  have HT : Hid (∀ w', Below W.heap.size W w' → Tab w') := fun w' hb => Tab.keep ht (HB.out.trans (hb.mono HB.out.size))
  have HCK0 := p_check v l W HLW.out
  rw [hv] at HCK0
  have HCK := Lib.hid HCK0
  have HE1 := Lib.hid e1
  have HE2 := Lib.hid e2
  have HE3 := Lib.hid e3
  have HE4 := Lib.hid e4
  have hBW := HB0.size
  obtain ⟨c0, c1', c2', c3'⟩ := HC.out
  clear hL hv hval HB0 HBX HK0 HCK0 e1 e2 e3 e4 lim ht
  obtain ⟨A1, n1, c1, A2, n2, c2, A3, n3, c3, A4, n4, c4⟩ := v
  simp only [LV.val] at *
  go_enter Tryd.func14, Tryd.ntmps14
  go_upto_region 1 with fail
  try rw [hW]
  clear hW
  go_wp2_with fail
  refine HCK.out.mono ?_
  rintro e w1 ⟨rfl, hb1⟩
  have HB1 := Lib.hid hb1
  clear hb1 c0 c1' c2' c3' HCK
  obtain ⟨c0, c1', c2', c3'⟩ := HK.out w1 HB1.out
  go_wp2_with fail
  go_loopw [3, 18] (fun x i wr => ∃ (k cc : Nat) (A : Option Addr) (T : List (List Bs)), k ≤ n1 ∧ i = .int .i64 k ∧ x = .slice A k cc ∧ OwnG wr W.heap.size (.slice A k cc) k T ∧ Hid (T = (l.stations.take k).map fun s => [kwStation, s]) ∧ Below W.heap.size W wr) (fun _ i _ => n1 - (intOf i).toNat)
  case atStart => exact ⟨0, 0, none, [], Nat.zero_le _, rfl, rfl, OwnG.nil _ _, rfl, HB1.out⟩
  case round =>
    obtain ⟨k, cc, A, T, hk, rfl, rfl, hO, HE, hbr⟩ := hrel
    have hzr := hbr.size
    by_cases hlt : k < n1
    · obtain ⟨ad, s, rfl, hab, hs, x0⟩ := loadS (HLW.out.grow hbr hbr.size).st hlt
      have hkx : (k : Int) < (n1 : Int) := by omega
      obtain ⟨V, hV⟩ : ∃ V, wr.alloc (.cells #[.string ⟨#[115, 116, 97, 116, 105, 111, 110]⟩, .string (str s)] 9) = V := ⟨_, rfl⟩
      have HR0 : Hid (Recs.Own sR V W.heap.size (.slice (some ⟨wr.heap.size, 0, none⟩) 2 2) 2 [kwStation, s]) := by rw [Hid, ← hV]; exact two_row wr W.heap.size kwStation s hzr
      have hO2 : OwnG V W.heap.size (.slice A k cc) k T := by rw [← hV]; exact hO.alloc _
      have hbV : Below W.heap.size W V := by rw [← hV]; exact hbr.alloc hzr _
      have hzV := hbV.size
      have HQ : Hid (T ++ [[kwStation, s]] = (l.stations.take (k + 1)).map fun s => [kwStation, s]) := by
        rw [Hid, PNames.take_succ hs, List.map_append, ← HE.out]; rfl
      obtain ⟨us, hl, hown, hR⟩ := hO2
      clear hs hO HE
      go_wp2_with (at_builtin; refine wpList_append_own _ rfl _ _ 78 rfl W.heap.size 22 i0 _ 1 24 Tryd.underlying78 hi hz0 hz1 hz2 rfl (by omega) (.slice A k cc) k us rfl (hown.alloc _) ⟨V.heap.size, 0, none⟩ 1 1 [.slice (some ⟨wr.heap.size, 0, none⟩) 2 2] rfl rfl (new_row _ _ _) (one_row _ _ _) (by unfold maxLen; omega) (by omega) (by simp; omega) ?_)
      intro v w3 hown' hgrow _
      obtain ⟨A', c', rfl, hO', hb'⟩ := appendedG hbV hzV hl hown hR HR0.out hown' hgrow
      clear hown hown' hgrow hR HR0
      go_wp2
      go_roundw
      case rel => exact ⟨k + 1, c', A', _, by omega, by go_num, rfl, hO', HQ, hb'⟩
      case measure => simp [intOf]; omega
    · have hkx : ¬ (k : Int) < (n1 : Int) := by omega
      have hq0 : k ≤ 24 := by omega
      have HQ1 : Hid (T = LS l) := by
        rw [Hid, HE.out, List.take_of_length_le (by have := HE1.out; omega)]; rfl
      clear c0 c1' c2' c3' HE
      obtain ⟨c0, c1', c2', c3'⟩ := HK.out wr hbr
      go_wp2_with fail
      clear hkx hlt hk
      generalize k = q0 at *
      go_loopw [3, 31] (fun x i wr => ∃ (k q cc : Nat) (A : Option Addr) (T : List (List Bs)), k ≤ n2 ∧ Hid (q = q0 + k) ∧ i = .int .i64 k ∧ x = .slice A q cc ∧ OwnG wr W.heap.size (.slice A q cc) q T ∧ Hid (T = LS l ++ (l.points.take k).map fun s => [kwPoint, s]) ∧ Below W.heap.size W wr) (fun _ i _ => n2 - (intOf i).toNat)
      case atStart => exact ⟨0, q0, cc, A, T, Nat.zero_le _, rfl, rfl, rfl, hO, by rw [Hid, HQ1.out]; simp, hbr⟩
      case round =>
        clear hO hbr hzr HQ1
        obtain ⟨k, q, cc, A, T, hk, HQK, rfl, rfl, hO, HE, hbr⟩ := hrel
        have hzr := hbr.size
        have hqb : q ≤ 72 := by have := HQK.out; omega
        have HQK2 : Hid (q + 1 = q0 + (k + 1)) := by rw [Hid, HQK.out]; omega
        by_cases hlt : k < n2
        · obtain ⟨ad, s, rfl, hab, hs, x0⟩ := loadS (HLW.out.grow hbr hbr.size).pt hlt
          have hkx : (k : Int) < (n2 : Int) := by omega
          obtain ⟨V, hV⟩ : ∃ V, wr.alloc (.cells #[.string ⟨#[112, 111, 105, 110, 116]⟩, .string (str s)] 9) = V := ⟨_, rfl⟩
          have HR0 : Hid (Recs.Own sR V W.heap.size (.slice (some ⟨wr.heap.size, 0, none⟩) 2 2) 2 [kwPoint, s]) := by rw [Hid, ← hV]; exact two_row wr W.heap.size kwPoint s hzr
          have hO2 : OwnG V W.heap.size (.slice A q cc) q T := by rw [← hV]; exact hO.alloc _
          have hbV : Below W.heap.size W V := by rw [← hV]; exact hbr.alloc hzr _
          have hzV := hbV.size
          have HQ : Hid (T ++ [[kwPoint, s]] = LS l ++ (l.points.take (k + 1)).map fun s => [kwPoint, s]) := by
            rw [Hid, PNames.take_succ hs, List.map_append, ← List.append_assoc, ← HE.out]; rfl
          obtain ⟨us, hl, hown, hR⟩ := hO2
          clear hs hO HE
          go_wp2_with (at_builtin; refine wpList_append_own _ rfl _ _ 78 rfl W.heap.size 22 i0 _ 1 24 Tryd.underlying78 hi hz0 hz1 hz2 rfl (by omega) (.slice A q cc) q us rfl (hown.alloc _) ⟨V.heap.size, 0, none⟩ 1 1 [.slice (some ⟨wr.heap.size, 0, none⟩) 2 2] rfl rfl (new_row _ _ _) (one_row _ _ _) (by unfold maxLen; omega) (by omega) (by simp; omega) ?_)
          intro v w3 hown' hgrow _
          obtain ⟨A', c', rfl, hO', hb'⟩ := appendedG hbV hzV hl hown hR HR0.out hown' hgrow
          clear hown hown' hgrow hR HR0
          go_wp2
          go_roundw
          case rel => exact ⟨k + 1, q + 1, c', A', _, by omega, HQK2, by go_num, rfl, hO', HQ, hb'⟩
          case measure => simp [intOf]; omega
        · have hkx : ¬ (k : Int) < (n2 : Int) := by omega
          have HQ1 : Hid (T = LS l ++ LP l) := by
            rw [Hid, HE.out, List.take_of_length_le (by have := HE2.out; omega)]; rfl
          clear c0 c1' c2' c3' HE
          obtain ⟨c0, c1', c2', c3'⟩ := HK.out wr hbr
          go_wp2_with fail
          clear hkx hlt hk HQK HQK2 hq0
          generalize q = q1 at *
          go_loopw [3, 44] (fun x i wr => ∃ (k q cc : Nat) (A : Option Addr) (T : List (List Bs)), k ≤ n3 ∧ Hid (q = q1 + k) ∧ i = .int .i64 k ∧ x = .slice A q cc ∧ OwnG wr W.heap.size (.slice A q cc) q T ∧ Hid (T = LS l ++ LP l ++ (l.sections.take k).map (secLine l)) ∧ Below W.heap.size W wr) (fun _ i _ => n3 - (intOf i).toNat)
          case atStart => exact ⟨0, q1, cc, A, T, Nat.zero_le _, rfl, rfl, rfl, hO, by rw [Hid, HQ1.out]; simp, hbr⟩
          case round =>
            clear hO hbr hzr HQ1
            obtain ⟨k, q, cc, A, T, hk, HQK, rfl, rfl, hO, HE, hbr⟩ := hrel
            have hzr := hbr.size
            have hqb : q ≤ 168 := by have := HQK.out; omega
            have HQK2 : Hid (q + 1 = q1 + (k + 1)) := by rw [Hid, HQK.out]; omega
            clear c0 c1' c2' c3'
            by_cases hlt : k < n3
            · obtain ⟨ad, s, rfl, hab, hs, x0, x1, x2, x3, x4⟩ := loadSec (HLW.out.grow hbr hbr.size).sec hlt
              have hv2 := HVAL.out.sec s (List.mem_of_getElem? hs)
              obtain ⟨r1, r2, r3, r4, r5, r6, r7, r8⟩ := sec_range hv2.2
              have hqn : s.st < n1 := by have := HE1.out; omega
              have hkx : (k : Int) < (n3 : Int) := by omega
              obtain ⟨V, hV⟩ : ∃ V, wr.alloc (.cells #[.string (str s.name), .int .i64 s.len, .int .i64 s.lim, .int .i64 s.grade, .int .i64 s.st] 45) = V := ⟨_, rfl⟩
              have hb2 : Below wr.heap.size wr V := by rw [← hV]; exact (Below.refl _ _).alloc (Nat.le_refl _) _
              have HE5 := Lib.hid (show V.cell? ⟨wr.heap.size, 0, none⟩ = some (.string (str s.name)) ∧ V.cell? ⟨wr.heap.size, 1, none⟩ = some (.int .i64 s.len) ∧ V.cell? ⟨wr.heap.size, 2, none⟩ = some (.int .i64 s.lim) ∧ V.cell? ⟨wr.heap.size, 3, none⟩ = some (.int .i64 s.grade) ∧ V.cell? ⟨wr.heap.size, 4, none⟩ = some (.int .i64 s.st) by rw [← hV]; simp)
              have hO2 : OwnG V W.heap.size (.slice A q cc) q T := by rw [← hV]; exact hO.alloc _
              have hbV : Below W.heap.size W V := hbr.trans (hb2.mono hzr)
              have HSL := section_line ⟨A1, n1, c1, A2, n2, c2, some ad, n3, c3, A4, n4, c4⟩ l s V (HLW.out.grow hbV hbV.size) (HT.out V hbV) ⟨by omega, by omega⟩ ⟨by omega, by omega⟩ ⟨by omega, by omega⟩ ⟨by omega, hqn⟩
              have HQ : Hid (T ++ [secLine l s] = LS l ++ LP l ++ (l.sections.take (k + 1)).map (secLine l)) := by
                rw [Hid, PNames.take_succ hs, List.map_append, ← List.append_assoc, ← HE.out]; rfl
              have HBV := Lib.hid hbV
              have HO2 := Lib.hid hO2
              have HSL := Lib.hid HSL
              clear hs hO HE hv2 hb2 hbV hO2
              go_upto_region 17 with fail
              try rw [hV]
              clear hV x0 x1 x2 x3 x4 r1 r2 r3 r4 r5 r6 r7 r8 hqn
              obtain ⟨y0, y1, y2, y3, y4⟩ := HE5.out
              obtain ⟨c0, c1', c2', c3'⟩ := HK.out V HBV.out
              go_wp2_with fail
              refine HSL.out.mono ?_
              rintro e w3 ⟨A6, n6, c6, rfl, hO6, hb6⟩
              have hO7 := HO2.out.below hb6 (Nat.le_refl _)
              have hO8 := hO6.base_ HBV.out.size
              have hb7 := HBV.out.trans (hb6.mono HBV.out.size)
              have hz7 := hb7.size
              clear hO6 hb6 y0 y1 y2 y3 y4 c0 c1' c2' c3'
              obtain ⟨us, hl, hown, hR⟩ := hO7
              go_wp2_with (at_builtin; refine wpList_append_own _ rfl _ _ 78 rfl W.heap.size 22 i0 _ 1 24 Tryd.underlying78 hi hz0 hz1 hz2 rfl (by omega) (.slice A q cc) q us rfl (hown.alloc _) ⟨w3.heap.size, 0, none⟩ 1 1 [.slice A6 n6 c6] rfl rfl (new_row _ _ _) (one_row _ _ _) (by unfold maxLen; omega) (by omega) (by simp; omega) ?_)
              intro v w4 hown' hgrow _
              obtain ⟨A', c', rfl, hO', hb'⟩ := appendedG hb7 hz7 hl hown hR hO8 hown' hgrow
              clear hown hown' hgrow hR hO8
              go_wp2
              go_roundw
              case rel => exact ⟨k + 1, q + 1, c', A', _, by omega, HQK2, by go_num, rfl, hO', HQ, hb'⟩
              case measure => simp [intOf]; omega
            · have hkx : ¬ (k : Int) < (n3 : Int) := by omega
              have HQ1 : Hid (T = LS l ++ LP l ++ l.sections.map (secLine l)) := by
                rw [Hid, HE.out, List.take_of_length_le (by have := HE3.out; omega)]
              clear HE
              obtain ⟨c0, c1', c2', c3'⟩ := HK.out wr hbr
              go_wp2_with fail
              clear hkx hlt hk HQK HQK2
              generalize q = q2 at *
              go_loopw [3, 58] (fun x i wr => ∃ (k q cc : Nat) (A : Option Addr) (T : List (List Bs)), k ≤ n4 ∧ Hid (q = q2 + k) ∧ i = .int .i64 k ∧ x = .slice A q cc ∧ OwnG wr W.heap.size (.slice A q cc) q T ∧ Hid (T = LS l ++ LP l ++ l.sections.map (secLine l) ++ (l.links.take k).map (linkLine l)) ∧ Below W.heap.size W wr) (fun _ i _ => n4 - (intOf i).toNat)
              case atStart => exact ⟨0, q2, cc, A, T, Nat.zero_le _, rfl, rfl, rfl, hO, by rw [Hid, HQ1.out]; simp, hbr⟩
              case round =>
                clear hO hbr hzr HQ1
                obtain ⟨k, q, cc, A, T, hk, HQK, rfl, rfl, hO, HE, hbr⟩ := hrel
                have hzr := hbr.size
                have hqc : q ≤ 360 := by have := HQK.out; omega
                have HQK2 : Hid (q + 1 = q2 + (k + 1)) := by rw [Hid, HQK.out]; omega
                clear c0 c1' c2' c3'
                by_cases hlt : k < n4
                · obtain ⟨ad, s, rfl, hab, hs, x0, x1, x2, x3, x4, x5⟩ := loadLnk (HLW.out.grow hbr hbr.size).lnk hlt
                  obtain ⟨g1, g2, g3, g4, g5, g6, g7, g8, g9, g10, g11, g12, -⟩ := LayT.inr_range (HVAL.out.lnk s (List.mem_of_getElem? hs))
                  have hqa : s.a < n3 := by have := HE3.out; omega
                  have hqb2 : s.b < n3 := by have := HE3.out; omega
                  have hqp : s.pt < n2 := by have := HE2.out; omega
                  have hkx : (k : Int) < (n4 : Int) := by omega
                  obtain ⟨V, hV⟩ : ∃ V, wr.alloc (.cells #[.int .i64 s.a, .int .i64 s.ae, .int .i64 s.b, .int .i64 s.be, .int .i64 s.pt, .int .i64 s.ps] 64) = V := ⟨_, rfl⟩
                  have hb2 : Below wr.heap.size wr V := by rw [← hV]; exact (Below.refl _ _).alloc (Nat.le_refl _) _
                  have HE5 := Lib.hid (show V.cell? ⟨wr.heap.size, 0, none⟩ = some (.int .i64 s.a) ∧ V.cell? ⟨wr.heap.size, 1, none⟩ = some (.int .i64 s.ae) ∧ V.cell? ⟨wr.heap.size, 2, none⟩ = some (.int .i64 s.b) ∧ V.cell? ⟨wr.heap.size, 3, none⟩ = some (.int .i64 s.be) ∧ V.cell? ⟨wr.heap.size, 4, none⟩ = some (.int .i64 s.pt) ∧ V.cell? ⟨wr.heap.size, 5, none⟩ = some (.int .i64 s.ps) by rw [← hV]; simp)
                  have hO2 : OwnG V W.heap.size (.slice A q cc) q T := by rw [← hV]; exact hO.alloc _
                  have hbV : Below W.heap.size W V := hbr.trans (hb2.mono hzr)
                  have HSL := LnkLine.link_line ⟨A1, n1, c1, A2, n2, c2, A3, n3, c3, some ad, n4, c4⟩ l s V (HLW.out.grow hbV hbV.size) (HT.out V hbV) ⟨g1, hqa⟩ ⟨g3, hqb2⟩ ⟨by omega, by omega⟩ ⟨by omega, hqp⟩ (by omega) (by omega)
                  have HQ : Hid (T ++ [linkLine l s] = LS l ++ LP l ++ l.sections.map (secLine l) ++ (l.links.take (k + 1)).map (linkLine l)) := by
                    rw [Hid, PNames.take_succ hs, List.map_append, ← List.append_assoc, ← HE.out]; rfl
                  have HBV := Lib.hid hbV
                  have HO2 := Lib.hid hO2
                  have HSL := Lib.hid HSL
                  clear hs hO HE hb2 hbV hO2
                  go_upto_region 22 with fail
                  try rw [hV]
                  clear hV x0 x1 x2 x3 x4 x5 g1 g2 g3 g4 g5 g6 g7 g8 g9 g10 g11 g12 hqa hqb2 hqp
                  obtain ⟨y0, y1, y2, y3, y4, y5⟩ := HE5.out
                  obtain ⟨c0, c1', c2', c3'⟩ := HK.out V HBV.out
                  go_wp2_with fail
                  refine HSL.out.mono ?_
                  rintro e w3 ⟨A6, n6, c6, rfl, hO6, hb6⟩
                  have hO7 := HO2.out.below hb6 (Nat.le_refl _)
                  have hO8 := hO6.base_ HBV.out.size
                  have hb7 := HBV.out.trans (hb6.mono HBV.out.size)
                  have hz7 := hb7.size
                  clear hO6 hb6 y0 y1 y2 y3 y4 y5 c0 c1' c2' c3'
                  obtain ⟨us, hl, hown, hR⟩ := hO7
                  go_wp2_with (at_builtin; refine wpList_append_own _ rfl _ _ 78 rfl W.heap.size 22 i0 _ 1 24 Tryd.underlying78 hi hz0 hz1 hz2 rfl (by omega) (.slice A q cc) q us rfl (hown.alloc _) ⟨w3.heap.size, 0, none⟩ 1 1 [.slice A6 n6 c6] rfl rfl (new_row _ _ _) (one_row _ _ _) (by unfold maxLen; omega) (by omega) (by simp; omega) ?_)
                  intro v w4 hown' hgrow _
                  obtain ⟨A', c', rfl, hO', hb'⟩ := appendedG hb7 hz7 hl hown hR hO8 hown' hgrow
                  clear hown hown' hgrow hR hO8
                  go_wp2
                  go_roundw
                  case rel => exact ⟨k + 1, q + 1, c', A', _, by omega, HQK2, by go_num, rfl, hO', HQ, hb'⟩
                  case measure => simp [intOf]; omega
                · have hkx : ¬ (k : Int) < (n4 : Int) := by omega
                  have hT : T = lines l := by
                    rw [lines_eq, HE.out, List.take_of_length_le (by have := HE4.out; omega)]
                  subst hT
                  have HP := Lib.hid (PJoin.p_join A q cc (LayT.strs (lines l)) wr hO.grid (by omega) HJW.out)
                  have HBF := Lib.hid (HB.out.trans (hbr.mono HB.out.size))
                  have hzF := HBF.out.size
                  clear hO HE
                  go_wp2_with fail
                  refine HP.out.mono ?_
                  rintro e w3 ⟨rfl, hb3⟩
                  have HB9 := Lib.hid (HBF.out.trans (hb3.mono hzF))
                  clear hb3
                  go_wp2_with fail
                  go_ret
                  exact ⟨by rw [HJ.out]; rfl, HB9.out⟩
end Go.Proofs.YtkfobijgjdgbgaaDoor.PFmt
