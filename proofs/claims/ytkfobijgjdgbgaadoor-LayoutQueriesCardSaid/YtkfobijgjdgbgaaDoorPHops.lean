/-
  Contract of the program's function that finds the hops of a step.
-/
import Derived.Test.YtkfobijgjdgbgaaDoorPStep
import Derived.Deep.RegionHeld3
import Derived.Deep.AppendLies
namespace Go.Proofs.YtkfobijgjdgbgaaDoor.PHops
open Go.ChangeShapes Go.WideShapes Go.ChangeAt Go.RowKit Wd Small Mem Lay LayT Recs Keep Names PNames PSecs PLinks PEnds PTab PLnk PCheck PStep
set_option linter.unusedVariables false

theorem infoHop : (Tryd.prog.info? 49).map (fun i => (i.zero, i.size, i.bytes)) = some (some (.agg #[.int .i64 0, .int .i64 0, .int .i64 0, .int .i64 0]), 4, 32) := by kernel_rfl
/-- the hops, as the call answers them -/
def hopsOf (l : Lay) (s : Lay.Step) : List Hop := if hasB l s = true then hops l.links s else []
/-- what a call leaves that answers a list of hops of its own -/
def HopsPost (L : List Hop) (w : World) (e : Ending) (w' : World) : Prop := ∃ A n c, e = .returned (.slice A n c) ∧ Own hopR w' w.heap.size (.slice A n c) n L ∧ Below w.heap.size w w'

theorem run_eq_end (a b c d : Int) (w : World) : (binOp .eql 91 (.agg #[.int .i64 a, .int .i64 b]) (.agg #[.int .i64 c, .int .i64 d])).run Tryd.prog w = .ok (.bool (a == c && b == d)) w := by
  cases h1 : (a == c) <;> cases h2 : (b == d)
  all_goals simp at h1 h2
  all_goals simp [go_sem, run_equalIn_struct, Program.fieldsOf, Tryd.underlying91, h1, h2]

/-- the comparison of two ends, for the walk: one test, whose answer is known -/
theorem wpList_eq_end (w : World) {ops : Array Oper} {rest : List Oper} {o : Oper} {act : Act} {Q : Exit → Act → World → Prop} (hg : o.guard = none) (m x : Operand) (hop : o.op = Op.binOp BinOp.eql 91 m x 91) (a b c d : Int) (r : Bool) (hr : (a == c && b == d) = r)
    (hm : act.eval m = .agg #[.int .i64 a, .int .i64 b]) (hx : act.eval x = .agg #[.int .i64 c, .int .i64 d]) (hK : wpList Tryd.prog ops Q rest (act.put o.dst (.bool r)) w) : wpList Tryd.prog ops Q (o :: rest) act w := by
  refine wpList_plain hg fun K' hK' => ?_
  have hrun := run_eq_end a b c d w
  rw [hr] at hrun
  unfold Oper.wp execOp
  rw [hop]
  dsimp only
  rw [hm, hx]
  have hgd : (eqGuard BinOp.eql 91 m x (.agg #[.int .i64 a, .int .i64 b]) (.agg #[.int .i64 c, .int .i64 d])).run Tryd.prog w = .ok () w := by
    simp [go_sem, eqGuard]
  simp only [Sem.run_bind, hgd, Result.andThen_ok, hrun, Sem.run_pure]
  exact hK' _ _ hK

theorem hops_step {L : List Lnk} {k : Nat} {x : Lnk} (s : Lay.Step) (h : L[k]? = some x) : hops (L.take (k + 1)) s = hops (L.take k) s ++ if has x (out s) = true then [hopOf (out s) x] else [] := by
  rw [take_succ h]
  unfold hops
  rw [List.filter_append, List.map_append]
  by_cases hx : has x (out s) = true
  · rw [if_pos hx]; simp [hx]
  · rw [if_neg hx]; simp [hx]

theorem pinto_into {a b : Int} (h : b = 0 ∨ b = 1) : pinto a b = into (a, b) := by
  rcases h with rfl | rfl <;> rfl
/-- one more link: it leaves at its first end -/
theorem hops_a {L : List Lnk} {k : Nat} {ka kae kb kbe kpt kps o1 o2 : Int} {s : Lay.Step} {n p : Nat} (h : hops (L.take (k + 1)) s = hops (L.take k) s ++ if has ⟨ka, kae, kb, kbe, kpt, kps⟩ (out s) = true then [hopOf (out s) ⟨ka, kae, kb, kbe, kpt, kps⟩] else []) (ho : out s = (o1, o2)) (hq : (o1 == ka && o2 == kae) = true)
    (hi : inr n p ⟨ka, kae, kb, kbe, kpt, kps⟩ = true) : hops (L.take k) s ++ [⟨pinto kb kbe, kpt, kps⟩] = hops (L.take (k + 1)) s := by
  obtain ⟨g1, g2, g3, g4, g5, g6, g7, g8, g9, g10, g11, g12, g13⟩ := inr_range hi
  simp only at g7 g8
  simp only [Bool.and_eq_true, beq_iff_eq] at hq
  rw [h, ho, pinto_into (by omega)]
  have hx : (⟨ka, kae, kb, kbe, kpt, kps⟩ : Lnk).x = (o1, o2) := by simp only [Lnk.x, hq.1, hq.2]
  rw [if_pos (by rw [has_iff]; exact .inl hx)]
  unfold hopOf other
  rw [if_pos hx]
  rfl
/-- one more link: it leaves at its second end -/
theorem hops_b {L : List Lnk} {k : Nat} {ka kae kb kbe kpt kps o1 o2 : Int} {s : Lay.Step} {n p : Nat} (h : hops (L.take (k + 1)) s = hops (L.take k) s ++ if has ⟨ka, kae, kb, kbe, kpt, kps⟩ (out s) = true then [hopOf (out s) ⟨ka, kae, kb, kbe, kpt, kps⟩] else []) (ho : out s = (o1, o2)) (hq0 : (o1 == ka && o2 == kae) = false) (hq : (o1 == kb && o2 == kbe) = true)
    (hi : inr n p ⟨ka, kae, kb, kbe, kpt, kps⟩ = true) : hops (L.take k) s ++ [⟨pinto ka kae, kpt, kps⟩] = hops (L.take (k + 1)) s := by
  obtain ⟨g1, g2, g3, g4, g5, g6, g7, g8, g9, g10, g11, g12, g13⟩ := inr_range hi
  simp only at g5 g6
  simp only [Bool.and_eq_true, beq_iff_eq] at hq
  rw [h, ho, pinto_into (by omega)]
  have hy : (⟨ka, kae, kb, kbe, kpt, kps⟩ : Lnk).y = (o1, o2) := by simp only [Lnk.y, hq.1, hq.2]
  have hx : (⟨ka, kae, kb, kbe, kpt, kps⟩ : Lnk).x ≠ (o1, o2) := by
    intro e
    simp only [Lnk.x, Prod.mk.injEq] at e
    rw [e.1, e.2] at hq0
    simp at hq0
  rw [if_pos (by rw [has_iff]; exact .inr hy)]
  unfold hopOf other
  rw [if_neg hx]
  rfl
/-- one more link: it has another end -/
theorem hops_c {L : List Lnk} {k : Nat} {ka kae kb kbe kpt kps o1 o2 : Int} {s : Lay.Step} (h : hops (L.take (k + 1)) s = hops (L.take k) s ++ if has ⟨ka, kae, kb, kbe, kpt, kps⟩ (out s) = true then [hopOf (out s) ⟨ka, kae, kb, kbe, kpt, kps⟩] else []) (ho : out s = (o1, o2)) (hq0 : (o1 == ka && o2 == kae) = false) (hq : (o1 == kb && o2 == kbe) = false) :
    hops (L.take k) s = hops (L.take (k + 1)) s := by
  rw [h, ho, if_neg, List.append_nil]
  rw [has_iff]
  rintro (e | e)
  · simp only [Lnk.x, Prod.mk.injEq] at e
    rw [e.1, e.2] at hq0; simp at hq0
  · simp only [Lnk.y, Prod.mk.injEq] at e
    rw [e.1, e.2] at hq; simp at hq

set_option maxRecDepth 100000 in
set_option maxHeartbeats 2000000 in
theorem p_hops (v : LV) (l : Lay) (s : Lay.Step) (w : World) (hL : RdL w w.heap.size v l) : Calls Tryd.prog 22 #[v.val, .agg #[.int .i64 s.1, .int .i64 s.2]] w (HopsPost (hopsOf l s) w) := by
  obtain ⟨ih, hih, hz0, hz1, hz2⟩ := info_parts infoHop
  obtain ⟨W, hW⟩ : ∃ W, (w.alloc (.cells #[.slice v.A1 v.n1 v.c1, .slice v.A2 v.n2 v.c2, .slice v.A3 v.n3 v.c3, .slice v.A4 v.n4 v.c4] 26)).alloc (.cells #[.int .i64 s.1, .int .i64 s.2] 28) = W := ⟨_, rfl⟩
  have HB : Hid (Below w.heap.size w W ∧ w.heap.size + 1 < W.heap.size) := by rw [Hid, ← hW]; exact ⟨((Below.refl _ _).alloc (Nat.le_refl _) _).alloc (by simp) _, by simp⟩
  have HSt : Hid (Row2 W (w.heap.size + 1) s.1 s.2) := by rw [Hid, ← hW]; unfold Row2; simp
  have HBX : Hid (W.cell? ⟨w.heap.size, 3, none⟩ = some (.slice v.A4 v.n4 v.c4)) := by rw [Hid, ← hW]; simp
  have c0 : W.cell? ⟨w.heap.size, 0, none⟩ = some (.slice v.A1 v.n1 v.c1) := by rw [← hW]; simp
  have c1' : W.cell? ⟨w.heap.size, 1, none⟩ = some (.slice v.A2 v.n2 v.c2) := by rw [← hW]; simp
  have c2' : W.cell? ⟨w.heap.size, 2, none⟩ = some (.slice v.A3 v.n3 v.c3) := by rw [← hW]; simp
  have HHS := Lib.hid (p_has v l s W (hL.grow HB.out.1 (by have := HB.out.2; omega)))
  have HR := Lib.hid (hL.lnk.grow HB.out.1 (show w.heap.size ≤ W.heap.size by have := HB.out.2; omega))
  have HM : Hid (check l = 0 → v.n4 ≤ 192) := fun h => by have := LayT.limits h; have := hL.lnk.1; omega
  have HGood : Hid (check l = 0 → Lay.Good l.sections.length l.points.length l.links) := fun h => good_links l h
  clear hL
  obtain ⟨q0, q1⟩ := HSt.out
  have c3' := HBX.out
  obtain ⟨A1, n1, c1, A2, n2, c2, A3, n3, c3, A4, n4, c4⟩ := v
  obtain ⟨x, y⟩ := s
  simp only [LV.val] at *
  have hwz := HB.out.2
  cases hh : hasB l (x, y) with
  | false =>
    have E : Hid (hopsOf l (x, y) = []) := by unfold hopsOf; rw [Hid, if_neg (by rw [hh]; decide)]
    rw [hh] at HHS
    clear hh
    go_enter Tryd.func22, Tryd.ntmps22
    go_wp2_with fail
    refine HHS.out.mono ?_
    rintro e w1 ⟨rfl, hb1⟩
    clear hW q0 q1 c0 c1' c2' c3'
    go_wp2_with fail
    go_ret
    exact ⟨none, 0, 0, rfl, by rw [E.out]; exact Own.nil _ _, HB.out.1.trans (hb1.mono (by omega))⟩
  | true =>
    have E : Hid (hopsOf l (x, y) = hops l.links (x, y)) := by unfold hopsOf; rw [Hid, if_pos hh]
    rw [hh] at HHS
    have hc : check l = 0 ∧ (y = 0 ∨ y = 1) := by
      simp only [hasB, stepOK, Bool.and_eq_true, Bool.or_eq_true, beq_iff_eq] at hh
      exact ⟨hh.2, hh.1.2⟩
    have HC0 := Lib.hid hc.1
    have hn4 := HM.out hc.1
    have HGd := Lib.hid (HGood.out hc.1)
    have HPO : Hid (pout x y = out (x, y)) := by
      rcases hc.2 with rfl | rfl
      · rfl
      · rfl
    have hend := out_ok (x, y)
    obtain ⟨o1, o2, ho⟩ : ∃ o1 o2, out (x, y) = (o1, o2) := ⟨_, _, rfl⟩
    rw [ho] at HPO hend
    have HO := Lib.hid ho
    have hend' : o2 = 0 ∨ o2 = 1 := hend
    clear hh hc HM HGood hend ho
    go_enter Tryd.func22, Tryd.ntmps22
    go_wp2_with fail
    refine HHS.out.mono ?_
    rintro e w1 ⟨rfl, hb1⟩
    clear hW q0 q1 c0 c1' c2' c3'
    have hz1' := hb1.size
    have HSt1 := Lib.hid (HSt.out.below hb1 (by omega))
    obtain ⟨q0, q1⟩ := HSt1.out
    have hbw1 := HB.out.1.trans (hb1.mono (by omega))
    have HBX1 : Hid (w1.cell? ⟨w.heap.size, 3, none⟩ = some (.slice A4 n4 c4)) := (hb1.cell (p := ⟨w.heap.size, 3, none⟩) (by simp; omega)).trans HBX.out
    have HR1 := Lib.hid (HR.out.grow hb1 hz1')
    clear hb1 HR HBX HSt
    go_wp2_with fail
    refine (exit_of x y _).mono ?_
    rintro e w2 ⟨rfl, hb2⟩
    rw [HPO.out]
    have hz2' := hb2.size
    have hbw2 := hbw1.trans (hb2.mono (by omega))
    have c3' : w2.cell? ⟨w.heap.size, 3, none⟩ = some (.slice A4 n4 c4) := (hb2.cell (p := ⟨w.heap.size, 3, none⟩) (by simp; omega)).trans HBX1.out
    have HR2 := Lib.hid (HR1.out.grow hb2 hz2')
    clear q0 q1 hb2 HR1 HBX1 HSt1 hbw1
    obtain ⟨w3, hw3⟩ : ∃ w3, w2.alloc (.cells #[.int .i64 o1, .int .i64 o2] 91) = w3 := ⟨_, rfl⟩
    have hb3 : Below w2.heap.size w2 w3 := by rw [← hw3]; exact (Below.refl _ _).alloc (Nat.le_refl _) _
    have hz3 : w2.heap.size < w3.heap.size := by rw [← hw3]; simp
    have HE3 : Hid (Row2 w3 w2.heap.size o1 o2) := by rw [Hid, ← hw3]; unfold Row2; simp
    have HBX3 : Hid (w3.cell? ⟨w.heap.size, 3, none⟩ = some (.slice A4 n4 c4)) := (hb3.cell (p := ⟨w.heap.size, 3, none⟩) (by simp; omega)).trans c3'
    have HR3 := Lib.hid (HR2.out.grow hb3 (show w2.heap.size ≤ w3.heap.size by omega))
    have hbw3 := hbw2.trans (hb3.mono (by omega))
    clear c3' HR2 hbw2 hb3
    go_upto_region 5 with fail
    clear hw3
    have c3' := HBX3.out
    have HS0 : Hid (hops (l.links.take 0) (x, y) = []) := rfl
    go_wp2_with fail
    clear c3' HBX3
    go_loopw [5, 20] (fun h i wr => ∃ (k n c : Nat) (A : Option Addr) (L : List Hop), k ≤ n4 ∧ n ≤ k ∧ i = .int .i64 k ∧ h = .slice A n c ∧ Own hopR wr w3.heap.size (.slice A n c) n L ∧ Hid (L = hops (l.links.take k) (x, y)) ∧ Below w3.heap.size w3 wr) (fun _ i _ => n4 - (intOf i).toNat)
    case atStart => exact ⟨0, 0, 0, none, [], by omega, by omega, rfl, rfl, Own.nil _ _, HS0.out.symm, Below.refl _ _⟩
    case round =>
      obtain ⟨k, n, c, A, L, hk, hnk, rfl, rfl, hO, HL, hbr⟩ := hrel
      clear HS0
      have hzr := hbr.size
      by_cases hlt : k < n4
      · obtain ⟨ad, kk, rfl, hab, hkk, d0, d1, d2, d3, d4, d5⟩ := loadLnk (HR3.out.below hbr) hlt
        have HST := Lib.hid (hops_step (x, y) hkk)
        have hin := HGd.out.range kk (List.mem_of_getElem? hkk)
        obtain ⟨ka, kae, kb, kbe, kpt, kps⟩ := kk
        obtain ⟨wa, hwa⟩ : ∃ wa, wr.alloc (.cells #[.int .i64 ka, .int .i64 kae, .int .i64 kb, .int .i64 kbe, .int .i64 kpt, .int .i64 kps] 64) = wa := ⟨_, rfl⟩
        have hba : Below wr.heap.size wr wa := by rw [← hwa]; exact (Below.refl _ _).alloc (Nat.le_refl _) _
        have hza : wr.heap.size < wa.heap.size := by rw [← hwa]; simp
        have HL6 : Hid (Row6 wa wr.heap.size ⟨ka, kae, kb, kbe, kpt, kps⟩) := by rw [Hid, ← hwa]; unfold Row6; simp
        have HIn := Lib.hid hin
        have HOa := Lib.hid (hO.below hba (Nat.le_refl _))
        have HAlt : Hid (∀ g, (Value.slice A n c).ownBlock = some g → g < wr.heap.size) := fun g hg => (hO.2.lt g hg).2
        have hbra := hbr.trans (hba.mono hzr)
        have HEa := Lib.hid ((HE3.out.below hbr (by omega)).below hba (by omega))
        clear hkk hin hO
        simp only at d0 d1 d2 d3 d4 d5
        go_upto_region 8 with fail
        clear hwa d0 d1 d2 d3 d4 d5
        obtain ⟨k0, k1, k2, k3, k4, k5⟩ := HL6.out
        simp only at k0 k1 k2 k3 k4 k5
        go_wp2_with fail
        refine (ends_of ⟨ka, kae, kb, kbe, kpt, kps⟩ _).mono ?_
        rintro e w4 ⟨rfl, hb4⟩
        have hz4 := hb4.size
        obtain ⟨w5, hw5⟩ : ∃ w5, (w4.alloc (.cells #[.int .i64 ka, .int .i64 kae] 91)).alloc (.cells #[.int .i64 kb, .int .i64 kbe] 91) = w5 := ⟨_, rfl⟩
        have hb5 : Below w4.heap.size w4 w5 := by rw [← hw5]; exact ((Below.refl _ _).alloc (Nat.le_refl _) _).alloc (by simp) _
        have hz5 : w4.heap.size + 1 < w5.heap.size := by rw [← hw5]; simp
        have HA5 : Hid (Row2 w5 w4.heap.size ka kae) := by rw [Hid, ← hw5]; unfold Row2; simp
        have HB5 : Hid (Row2 w5 (w4.heap.size + 1) kb kbe) := by rw [Hid, ← hw5]; unfold Row2; simp
        have hb45 := hb4.trans (hb5.mono hz4)
        have hb5r := hbra.trans (hb45.mono (by omega))
        have HL5 := Lib.hid (HL6.out.below hb45 (by omega))
        have HO5 := Lib.hid (HOa.out.below hb45 (Nat.le_refl _))
        have HE5 := Lib.hid (HEa.out.below hb45 (by omega))
        clear k0 k1 k2 k3 k4 k5 HL6 HOa HEa hb4 hb5 hb45
        go_upto_region 9 with fail
        clear hw5
        obtain ⟨q0, q1⟩ := HE5.out
        obtain ⟨r0, r1⟩ := HA5.out
        cases hq : (o1 == ka && o2 == kae) with
        | true =>
          go_upto_region 11 with (refine wpList_eq_end _ rfl _ _ rfl o1 o2 ka kae true hq rfl rfl ?_)
          have HLX : Hid (L ++ [⟨pinto kb kbe, kpt, kps⟩] = hops (l.links.take (k + 1)) (x, y)) := by rw [Hid, HL.out]; exact hops_a HST.out HO.out hq HIn.out.1
          clear hq
          obtain ⟨t0, t1⟩ := HB5.out
          obtain ⟨k0, k1, k2, k3, k4, k5⟩ := HL5.out
          simp only at k0 k1 k2 k3 k4 k5
          have hrow4 : (w4.heap.size + 1) < w5.heap.size := by omega
          have hrowr : wr.heap.size < w5.heap.size := by omega
          have KA : Hid (∀ w', Below w5.heap.size w5 w' → w'.cell? ⟨(w4.heap.size + 1), 0, none⟩ = some (.int .i64 kb) ∧ w'.cell? ⟨(w4.heap.size + 1), 1, none⟩ = some (.int .i64 kbe) ∧ w'.cell? ⟨wr.heap.size, 4, none⟩ = some (.int .i64 kpt) ∧ w'.cell? ⟨wr.heap.size, 5, none⟩ = some (.int .i64 kps) ∧ Below w3.heap.size w5 w') := fun w' hb =>
            ⟨(hb.cell (p := ⟨(w4.heap.size + 1), 0, none⟩) hrow4).trans t0, (hb.cell (p := ⟨(w4.heap.size + 1), 1, none⟩) hrow4).trans t1, (hb.cell (p := ⟨wr.heap.size, 4, none⟩) hrowr).trans k4, (hb.cell (p := ⟨wr.heap.size, 5, none⟩) hrowr).trans k5, hb.mono (by omega)⟩
          have KB : Hid (∀ wx w', Below w5.heap.size w5 wx → wx.grownBy w' (Value.slice A n c).ownBlock → w'.cell? ⟨(w4.heap.size + 1), 0, none⟩ = some (.int .i64 kb) ∧ w'.cell? ⟨(w4.heap.size + 1), 1, none⟩ = some (.int .i64 kbe) ∧ w'.cell? ⟨wr.heap.size, 4, none⟩ = some (.int .i64 kpt) ∧ w'.cell? ⟨wr.heap.size, 5, none⟩ = some (.int .i64 kps) ∧ Below w3.heap.size w5 w') := fun wx w' hb hg => by
            obtain ⟨a0, a1, a2, a3, a4⟩ := KA.out wx hb
            have hz := hb.size
            have hne : ∀ b, wr.heap.size ≤ b → some b ≠ (Value.slice A n c).ownBlock := fun b hb2 e => by have := HAlt.out b e.symm; omega
            exact ⟨(grown_cell (p := ⟨(w4.heap.size + 1), 0, none⟩) hg (by simp; omega) (hne _ (by simp; omega))).trans a0, (grown_cell (p := ⟨(w4.heap.size + 1), 1, none⟩) hg (by simp; omega) (hne _ (by simp; omega))).trans a1, (grown_cell (p := ⟨wr.heap.size, 4, none⟩) hg (by simp; omega) (hne _ (by simp))).trans a2,
              (grown_cell (p := ⟨wr.heap.size, 5, none⟩) hg (by simp; omega) (hne _ (by simp))).trans a3, a4.grown hg (by omega) (fun k hk => (HO5.out.2.lt k hk).1)⟩
          clear k0 k1 k2 k3 q0 q1 r0 r1 k4 k5 t0 t1
          have hb0 := Below.refl w5.heap.size w5
          have hn63 : n + 1 ≤ maxLen := by unfold maxLen; omega
          have hby : (n + 1) * 32 ≤ 140737488355328 := by omega
          go_region_held3 (fun w' => w'.cell? ⟨(w4.heap.size + 1), 0, none⟩ = some (.int .i64 kb) ∧ w'.cell? ⟨(w4.heap.size + 1), 1, none⟩ = some (.int .i64 kbe) ∧ w'.cell? ⟨wr.heap.size, 4, none⟩ = some (.int .i64 kpt) ∧ w'.cell? ⟨wr.heap.size, 5, none⟩ = some (.int .i64 kps) ∧ Below w3.heap.size w5 w')
            (first | exact KA.out _ hb0.drew | exact KA.out _ (hb0.drew.trans (hbq.mono (by simp))) | exact KA.out _ ((hb0.drew.trans (hbq.mono (by simp))).alloc hq5 _) | exact KB.out _ _ ((hb0.drew.trans (hbq.mono (by simp))).alloc hq5 _) hgrow7)
            ((first | (go_at_call 52; refine (step_from kb kbe _).mono ?_; rintro e wq ⟨rfl, hbq⟩; have hq5 : w5.heap.size ≤ wq.heap.size := hbq.size) | (refine step_append_lies _ (by rfl) _ _ _ (by rfl) w3.heap.size 49 ih _ 4 32 Tryd.underlying50 hih hz0 hz1 hz2 rfl (by omega) (.slice A n c) n (hopR.cs L) (by rfl) ((HO5.out.below (hb0.drew.trans (hbq.mono (by simp))) (Nat.le_refl _)).2.alloc _) ⟨wq.heap.size, 0, none⟩ 1 1 [.int .i64 (pinto kb kbe).1, .int .i64 (pinto kb kbe).2, .int .i64 kpt, .int .i64 kps] (by rfl) (by rfl) (World.news_of_block (cs := #[.int .i64 (pinto kb kbe).1, .int .i64 (pinto kb kbe).2, .int .i64 kpt, .int .i64 kps]) (t := 49) (fr := (0, 0)) (heap_alloc_new wq _)) (by simp [Value.oneCell']) (by omega) hn63 hby (by simp; omega) (wq.heap.size + 1) (by simp) ?_; intro gg cap w7 hown7 hgrow7 hat7 hlt7)))
          obtain ⟨-, -, -, -, hb7⟩ := KB.out _ _ ((hb0.drew.trans (hbq.mono (by simp))).alloc hq5 _) hgrow7
          have HO7 := Lib.hid (Own.push (R := hopR) (a := ⟨pinto kb kbe, kpt, kps⟩) HO5.out.1 hown7)
          have hb7r := hb5r.trans hb7
          clear hown7 hgrow7 hat7
          go_wp2_with fail
          go_roundw
          case rel => exact ⟨k + 1, n + 1, cap, some ⟨gg, 0, none⟩, L ++ [⟨pinto kb kbe, kpt, kps⟩], by omega, by omega, by go_num, rfl, HO7.out, HLX, hb7r⟩
          case measure => simp [intOf]; omega
        | false =>
          obtain ⟨t0, t1⟩ := HB5.out
          cases hq2 : (o1 == kb && o2 == kbe) with
          | true =>
            go_upto_region 13 with (first | (refine wpList_eq_end _ rfl _ _ rfl o1 o2 ka kae false hq rfl rfl ?_) | (refine wpList_eq_end _ rfl _ _ rfl o1 o2 kb kbe true hq2 rfl rfl ?_))
            have HLX : Hid (L ++ [⟨pinto ka kae, kpt, kps⟩] = hops (l.links.take (k + 1)) (x, y)) := by rw [Hid, HL.out]; exact hops_b HST.out HO.out hq hq2 HIn.out.1
            clear hq hq2
            obtain ⟨k0, k1, k2, k3, k4, k5⟩ := HL5.out
            simp only at k0 k1 k2 k3 k4 k5
            have hrow4 : w4.heap.size < w5.heap.size := by omega
            have hrowr : wr.heap.size < w5.heap.size := by omega
            have KA : Hid (∀ w', Below w5.heap.size w5 w' → w'.cell? ⟨w4.heap.size, 0, none⟩ = some (.int .i64 ka) ∧ w'.cell? ⟨w4.heap.size, 1, none⟩ = some (.int .i64 kae) ∧ w'.cell? ⟨wr.heap.size, 4, none⟩ = some (.int .i64 kpt) ∧ w'.cell? ⟨wr.heap.size, 5, none⟩ = some (.int .i64 kps) ∧ Below w3.heap.size w5 w') := fun w' hb =>
              ⟨(hb.cell (p := ⟨w4.heap.size, 0, none⟩) hrow4).trans r0, (hb.cell (p := ⟨w4.heap.size, 1, none⟩) hrow4).trans r1, (hb.cell (p := ⟨wr.heap.size, 4, none⟩) hrowr).trans k4, (hb.cell (p := ⟨wr.heap.size, 5, none⟩) hrowr).trans k5, hb.mono (by omega)⟩
            have KB : Hid (∀ wx w', Below w5.heap.size w5 wx → wx.grownBy w' (Value.slice A n c).ownBlock → w'.cell? ⟨w4.heap.size, 0, none⟩ = some (.int .i64 ka) ∧ w'.cell? ⟨w4.heap.size, 1, none⟩ = some (.int .i64 kae) ∧ w'.cell? ⟨wr.heap.size, 4, none⟩ = some (.int .i64 kpt) ∧ w'.cell? ⟨wr.heap.size, 5, none⟩ = some (.int .i64 kps) ∧ Below w3.heap.size w5 w') := fun wx w' hb hg => by
              obtain ⟨a0, a1, a2, a3, a4⟩ := KA.out wx hb
              have hz := hb.size
              have hne : ∀ b, wr.heap.size ≤ b → some b ≠ (Value.slice A n c).ownBlock := fun b hb2 e => by have := HAlt.out b e.symm; omega
              exact ⟨(grown_cell (p := ⟨w4.heap.size, 0, none⟩) hg (by simp; omega) (hne _ (by simp; omega))).trans a0, (grown_cell (p := ⟨w4.heap.size, 1, none⟩) hg (by simp; omega) (hne _ (by simp; omega))).trans a1, (grown_cell (p := ⟨wr.heap.size, 4, none⟩) hg (by simp; omega) (hne _ (by simp))).trans a2,
                (grown_cell (p := ⟨wr.heap.size, 5, none⟩) hg (by simp; omega) (hne _ (by simp))).trans a3, a4.grown hg (by omega) (fun k hk => (HO5.out.2.lt k hk).1)⟩
            clear k0 k1 k2 k3 q0 q1 r0 r1 k4 k5 t0 t1
            have hb0 := Below.refl w5.heap.size w5
            have hn63 : n + 1 ≤ maxLen := by unfold maxLen; omega
            have hby : (n + 1) * 32 ≤ 140737488355328 := by omega
            go_region_held3 (fun w' => w'.cell? ⟨w4.heap.size, 0, none⟩ = some (.int .i64 ka) ∧ w'.cell? ⟨w4.heap.size, 1, none⟩ = some (.int .i64 kae) ∧ w'.cell? ⟨wr.heap.size, 4, none⟩ = some (.int .i64 kpt) ∧ w'.cell? ⟨wr.heap.size, 5, none⟩ = some (.int .i64 kps) ∧ Below w3.heap.size w5 w')
              (first | exact KA.out _ hb0.drew | exact KA.out _ (hb0.drew.trans (hbq.mono (by simp))) | exact KA.out _ ((hb0.drew.trans (hbq.mono (by simp))).alloc hq5 _) | exact KB.out _ _ ((hb0.drew.trans (hbq.mono (by simp))).alloc hq5 _) hgrow7)
              ((first | (go_at_call 52; refine (step_from ka kae _).mono ?_; rintro e wq ⟨rfl, hbq⟩; have hq5 : w5.heap.size ≤ wq.heap.size := hbq.size) | (refine step_append_lies _ (by rfl) _ _ _ (by rfl) w3.heap.size 49 ih _ 4 32 Tryd.underlying50 hih hz0 hz1 hz2 rfl (by omega) (.slice A n c) n (hopR.cs L) (by rfl) ((HO5.out.below (hb0.drew.trans (hbq.mono (by simp))) (Nat.le_refl _)).2.alloc _) ⟨wq.heap.size, 0, none⟩ 1 1 [.int .i64 (pinto ka kae).1, .int .i64 (pinto ka kae).2, .int .i64 kpt, .int .i64 kps] (by rfl) (by rfl) (World.news_of_block (cs := #[.int .i64 (pinto ka kae).1, .int .i64 (pinto ka kae).2, .int .i64 kpt, .int .i64 kps]) (t := 49) (fr := (0, 0)) (heap_alloc_new wq _)) (by simp [Value.oneCell']) (by omega) hn63 hby (by simp; omega) (wq.heap.size + 1) (by simp) ?_; intro gg cap w7 hown7 hgrow7 hat7 hlt7)))
            obtain ⟨-, -, -, -, hb7⟩ := KB.out _ _ ((hb0.drew.trans (hbq.mono (by simp))).alloc hq5 _) hgrow7
            have HO7 := Lib.hid (Own.push (R := hopR) (a := ⟨pinto ka kae, kpt, kps⟩) HO5.out.1 hown7)
            have hb7r := hb5r.trans hb7
            clear hown7 hgrow7 hat7
            go_wp2_with fail
            go_roundw
            case rel => exact ⟨k + 1, n + 1, cap, some ⟨gg, 0, none⟩, L ++ [⟨pinto ka kae, kpt, kps⟩], by omega, by omega, by go_num, rfl, HO7.out, HLX, hb7r⟩
            case measure => simp [intOf]; omega
          | false =>
            have HLX : Hid (L = hops (l.links.take (k + 1)) (x, y)) := by rw [Hid, HL.out]; exact hops_c HST.out HO.out hq hq2
            go_wp2_with (first | (refine wpList_eq_end _ rfl _ _ rfl o1 o2 ka kae false hq rfl rfl ?_) | (refine wpList_eq_end _ rfl _ _ rfl o1 o2 kb kbe false hq2 rfl rfl ?_))
            go_roundw
            case rel => exact ⟨k + 1, n, c, A, L, by omega, by omega, by go_num, rfl, HO5.out, HLX, hb5r⟩
            case measure => simp [intOf]; omega
      · have HX : Hid (L = hopsOf l (x, y)) := by rw [Hid, E.out, HL.out, List.take_of_length_le (by have := HR3.out.1; omega)]
        go_wp2_with fail
        go_ret
        exact ⟨A, n, c, rfl, by rw [← HX.out]; exact hO.base_ (by omega), hbw3.trans (hbr.mono (by omega))⟩
end Go.Proofs.YtkfobijgjdgbgaaDoor.PHops
