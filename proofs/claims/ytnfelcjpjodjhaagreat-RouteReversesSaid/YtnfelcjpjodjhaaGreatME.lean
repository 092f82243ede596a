/-
  Contract of the program's function that finds the hops of a step.
  Plain mathematics of routes: their first error, cells, resources, common resources, and the search. No program in it.
  Steps, cells and routes in memory; where a list's first element of a kind stands. No function of the program is named here.
  A layout that comes in as an argument: opened.
  Steps and routes that come in as arguments: opened; the types that the statements' rows read again.
-/
import Derived.Test.YtnfelcjpjodjhaaGreatMC
import Derived.Deep.RegionHeld3
import Derived.Deep.AppendLies
import Derived.Test.YtnfelcjpjodjhaaGreatMA
import Derived.Deep.QuietTactic
import Derived.BigQuiet
import Derived.Test.YtnfelcjpjodjhaaGreatMD
import Derived.Lib.SmallJoins
import Derived.Deep.SlicePairs
namespace Go.Proofs.YtnfelcjpjodjhaaGreat.PHops
open Go.ChangeShapes Go.WideShapes Go.ChangeAt Go.RowKit Wd Small Mem Lay LayT Recs Keep Names PNames PSecs PLinks PEnds PTab PLnk PCheck PStep
set_option linter.unusedVariables false

theorem infoHop : (Tryz.prog.info? 70).map (fun i => (i.zero, i.size, i.bytes)) = some (some (.agg #[.int .i64 0, .int .i64 0, .int .i64 0, .int .i64 0]), 4, 32) := by kernel_rfl
/-- the hops, as the call answers them -/
def hopsOf (l : Lay) (s : Lay.Step) : List Hop := if hasB l s = true then hops l.links s else []
/-- what a call leaves that answers a list of hops of its own -/
def HopsPost (L : List Hop) (w : World) (e : Ending) (w' : World) : Prop := ∃ A n c, e = .returned (.slice A n c) ∧ Own hopR w' w.heap.size (.slice A n c) n L ∧ Below w.heap.size w w'

theorem run_eq_end (a b c d : Int) (w : World) : (binOp .eql 155 (.agg #[.int .i64 a, .int .i64 b]) (.agg #[.int .i64 c, .int .i64 d])).run Tryz.prog w = .ok (.bool (a == c && b == d)) w := by
  cases h1 : (a == c) <;> cases h2 : (b == d)
  all_goals simp at h1 h2
  all_goals simp [go_sem, run_equalIn_struct, Program.fieldsOf, Tryz.underlying155, h1, h2]

/-- the comparison of two ends, for the walk: one test, whose answer is known -/
theorem wpList_eq_end (w : World) {ops : Array Oper} {rest : List Oper} {o : Oper} {act : Act} {Q : Exit → Act → World → Prop} (hg : o.guard = none) (m x : Operand) (hop : o.op = Op.binOp BinOp.eql 155 m x 155) (a b c d : Int) (r : Bool) (hr : (a == c && b == d) = r)
    (hm : act.eval m = .agg #[.int .i64 a, .int .i64 b]) (hx : act.eval x = .agg #[.int .i64 c, .int .i64 d]) (hK : wpList Tryz.prog ops Q rest (act.put o.dst (.bool r)) w) : wpList Tryz.prog ops Q (o :: rest) act w := by
  refine wpList_plain hg fun K' hK' => ?_
  have hrun := run_eq_end a b c d w
  rw [hr] at hrun
  unfold Oper.wp execOp
  rw [hop]
  dsimp only
  rw [hm, hx]
  have hgd : (eqGuard BinOp.eql 155 m x (.agg #[.int .i64 a, .int .i64 b]) (.agg #[.int .i64 c, .int .i64 d])).run Tryz.prog w = .ok () w := by
    simp [go_sem, eqGuard]
  simp only [Sem.run_bind, hgd, Result.andThen_ok, hrun, Sem.run_pure]
  exact hK' _ _ hK

theorem hops_step {L : List Lnk} {k : Nat} {x : Lnk} (s : Lay.Step) (h : L[k]? = some x) : hops (L.take (k + 1)) s = hops (L.take k) s ++ if has x (out s) = true then [hopOf (out s) x] else [] := by
  rw [take_succ h]
  unfold hops
  rw [List.filter_append, List.map_append]
  by_cases hx : has x (out s) = true
  · rw [if_pos hx]; simp [hx]
  · rw [if_neg hx]; simp [hx]

theorem pinto_into {a b : Int} (h : b = 0 ∨ b = 1) : pinto a b = into (a, b) := by
  rcases h with rfl | rfl <;> rfl
/-- one more link: it leaves at its first end -/
theorem hops_a {L : List Lnk} {k : Nat} {ka kae kb kbe kpt kps o1 o2 : Int} {s : Lay.Step} {n p : Nat} (h : hops (L.take (k + 1)) s = hops (L.take k) s ++ if has ⟨ka, kae, kb, kbe, kpt, kps⟩ (out s) = true then [hopOf (out s) ⟨ka, kae, kb, kbe, kpt, kps⟩] else []) (ho : out s = (o1, o2)) (hq : (o1 == ka && o2 == kae) = true)
    (hi : inr n p ⟨ka, kae, kb, kbe, kpt, kps⟩ = true) : hops (L.take k) s ++ [⟨pinto kb kbe, kpt, kps⟩] = hops (L.take (k + 1)) s := by
  obtain ⟨g1, g2, g3, g4, g5, g6, g7, g8, g9, g10, g11, g12, g13⟩ := inr_range hi
  simp only at g7 g8
  simp only [Bool.and_eq_true, beq_iff_eq] at hq
  rw [h, ho, pinto_into (by omega)]
  have hx : (⟨ka, kae, kb, kbe, kpt, kps⟩ : Lnk).x = (o1, o2) := by simp only [Lnk.x, hq.1, hq.2]
  rw [if_pos (by rw [has_iff]; exact .inl hx)]
  unfold hopOf other
  rw [if_pos hx]
  rfl
/-- one more link: it leaves at its second end -/
theorem hops_b {L : List Lnk} {k : Nat} {ka kae kb kbe kpt kps o1 o2 : Int} {s : Lay.Step} {n p : Nat} (h : hops (L.take (k + 1)) s = hops (L.take k) s ++ if has ⟨ka, kae, kb, kbe, kpt, kps⟩ (out s) = true then [hopOf (out s) ⟨ka, kae, kb, kbe, kpt, kps⟩] else []) (ho : out s = (o1, o2)) (hq0 : (o1 == ka && o2 == kae) = false) (hq : (o1 == kb && o2 == kbe) = true)
    (hi : inr n p ⟨ka, kae, kb, kbe, kpt, kps⟩ = true) : hops (L.take k) s ++ [⟨pinto ka kae, kpt, kps⟩] = hops (L.take (k + 1)) s := by
  obtain ⟨g1, g2, g3, g4, g5, g6, g7, g8, g9, g10, g11, g12, g13⟩ := inr_range hi
  simp only at g5 g6
  simp only [Bool.and_eq_true, beq_iff_eq] at hq
  rw [h, ho, pinto_into (by omega)]
  have hy : (⟨ka, kae, kb, kbe, kpt, kps⟩ : Lnk).y = (o1, o2) := by simp only [Lnk.y, hq.1, hq.2]
  have hx : (⟨ka, kae, kb, kbe, kpt, kps⟩ : Lnk).x ≠ (o1, o2) := by
    intro e
    simp only [Lnk.x, Prod.mk.injEq] at e
    rw [e.1, e.2] at hq0
    simp at hq0
  rw [if_pos (by rw [has_iff]; exact .inr hy)]
  unfold hopOf other
  rw [if_neg hx]
  rfl
/-- one more link: it has another end -/
theorem hops_c {L : List Lnk} {k : Nat} {ka kae kb kbe kpt kps o1 o2 : Int} {s : Lay.Step} (h : hops (L.take (k + 1)) s = hops (L.take k) s ++ if has ⟨ka, kae, kb, kbe, kpt, kps⟩ (out s) = true then [hopOf (out s) ⟨ka, kae, kb, kbe, kpt, kps⟩] else []) (ho : out s = (o1, o2)) (hq0 : (o1 == ka && o2 == kae) = false) (hq : (o1 == kb && o2 == kbe) = false) :
    hops (L.take k) s = hops (L.take (k + 1)) s := by
  rw [h, ho, if_neg, List.append_nil]
  rw [has_iff]
  rintro (e | e)
  · simp only [Lnk.x, Prod.mk.injEq] at e
    rw [e.1, e.2] at hq0; simp at hq0
  · simp only [Lnk.y, Prod.mk.injEq] at e
    rw [e.1, e.2] at hq; simp at hq

set_option maxRecDepth 100000 in
set_option maxHeartbeats 2000000 in
theorem p_hops (v : LV) (l : Lay) (s : Lay.Step) (w : World) (hL : RdL w w.heap.size v l) : Calls Tryz.prog 75 #[v.val, .agg #[.int .i64 s.1, .int .i64 s.2]] w (HopsPost (hopsOf l s) w) := by
  obtain ⟨ih, hih, hz0, hz1, hz2⟩ := info_parts infoHop
  obtain ⟨W, hW⟩ : ∃ W, (w.alloc (.cells #[.slice v.A1 v.n1 v.c1, .slice v.A2 v.n2 v.c2, .slice v.A3 v.n3 v.c3, .slice v.A4 v.n4 v.c4] 26)).alloc (.cells #[.int .i64 s.1, .int .i64 s.2] 39) = W := ⟨_, rfl⟩
  have HB : Hid (Below w.heap.size w W ∧ w.heap.size + 1 < W.heap.size) := by rw [Hid, ← hW]; exact ⟨((Below.refl _ _).alloc (Nat.le_refl _) _).alloc (by simp) _, by simp⟩
  have HSt : Hid (Row2 W (w.heap.size + 1) s.1 s.2) := by rw [Hid, ← hW]; unfold Row2; simp
  have HBX : Hid (W.cell? ⟨w.heap.size, 3, none⟩ = some (.slice v.A4 v.n4 v.c4)) := by rw [Hid, ← hW]; simp
  have c0 : W.cell? ⟨w.heap.size, 0, none⟩ = some (.slice v.A1 v.n1 v.c1) := by rw [← hW]; simp
  have c1' : W.cell? ⟨w.heap.size, 1, none⟩ = some (.slice v.A2 v.n2 v.c2) := by rw [← hW]; simp
  have c2' : W.cell? ⟨w.heap.size, 2, none⟩ = some (.slice v.A3 v.n3 v.c3) := by rw [← hW]; simp
  have HHS := Lib.hid (p_has v l s W (hL.grow HB.out.1 (by have := HB.out.2; omega)))
  have HR := Lib.hid (hL.lnk.grow HB.out.1 (show w.heap.size ≤ W.heap.size by have := HB.out.2; omega))
  have HM : Hid (check l = 0 → v.n4 ≤ 192) := fun h => by have := LayT.limits h; have := hL.lnk.1; omega
  have HGood : Hid (check l = 0 → Lay.Good l.sections.length l.points.length l.links) := fun h => good_links l h
  clear hL
  obtain ⟨q0, q1⟩ := HSt.out
  have c3' := HBX.out
  obtain ⟨A1, n1, c1, A2, n2, c2, A3, n3, c3, A4, n4, c4⟩ := v
  obtain ⟨x, y⟩ := s
  simp only [LV.val] at *
  have hwz := HB.out.2
  cases hh : hasB l (x, y) with
  | false =>
    have E : Hid (hopsOf l (x, y) = []) := by unfold hopsOf; rw [Hid, if_neg (by rw [hh]; decide)]
    rw [hh] at HHS
    clear hh
    go_enter Tryz.func75, Tryz.ntmps75
    go_wp2_with fail
    refine HHS.out.mono ?_
    rintro e w1 ⟨rfl, hb1⟩
    clear hW q0 q1 c0 c1' c2' c3'
    go_wp2_with fail
    go_ret
    exact ⟨none, 0, 0, rfl, by rw [E.out]; exact Own.nil _ _, HB.out.1.trans (hb1.mono (by omega))⟩
  | true =>
    have E : Hid (hopsOf l (x, y) = hops l.links (x, y)) := by unfold hopsOf; rw [Hid, if_pos hh]
    rw [hh] at HHS
    have hc : check l = 0 ∧ (y = 0 ∨ y = 1) := by
      simp only [hasB, stepOK, Bool.and_eq_true, Bool.or_eq_true, beq_iff_eq] at hh
      exact ⟨hh.2, hh.1.2⟩
    have HC0 := Lib.hid hc.1
    have hn4 := HM.out hc.1
    have HGd := Lib.hid (HGood.out hc.1)
    have HPO : Hid (pout x y = out (x, y)) := by
      rcases hc.2 with rfl | rfl
      · rfl
      · rfl
    have hend := out_ok (x, y)
    obtain ⟨o1, o2, ho⟩ : ∃ o1 o2, out (x, y) = (o1, o2) := ⟨_, _, rfl⟩
    rw [ho] at HPO hend
    have HO := Lib.hid ho
    have hend' : o2 = 0 ∨ o2 = 1 := hend
    clear hh hc HM HGood hend ho
    go_enter Tryz.func75, Tryz.ntmps75
    go_wp2_with fail
    refine HHS.out.mono ?_
    rintro e w1 ⟨rfl, hb1⟩
    clear hW q0 q1 c0 c1' c2' c3'
    have hz1' := hb1.size
    have HSt1 := Lib.hid (HSt.out.below hb1 (by omega))
    obtain ⟨q0, q1⟩ := HSt1.out
    have hbw1 := HB.out.1.trans (hb1.mono (by omega))
    have HBX1 : Hid (w1.cell? ⟨w.heap.size, 3, none⟩ = some (.slice A4 n4 c4)) := (hb1.cell (p := ⟨w.heap.size, 3, none⟩) (by simp; omega)).trans HBX.out
    have HR1 := Lib.hid (HR.out.grow hb1 hz1')
    clear hb1 HR HBX HSt
    go_wp2_with fail
    refine (exit_of x y _).mono ?_
    rintro e w2 ⟨rfl, hb2⟩
    rw [HPO.out]
    have hz2' := hb2.size
    have hbw2 := hbw1.trans (hb2.mono (by omega))
    have c3' : w2.cell? ⟨w.heap.size, 3, none⟩ = some (.slice A4 n4 c4) := (hb2.cell (p := ⟨w.heap.size, 3, none⟩) (by simp; omega)).trans HBX1.out
    have HR2 := Lib.hid (HR1.out.grow hb2 hz2')
    clear q0 q1 hb2 HR1 HBX1 HSt1 hbw1
    obtain ⟨w3, hw3⟩ : ∃ w3, w2.alloc (.cells #[.int .i64 o1, .int .i64 o2] 155) = w3 := ⟨_, rfl⟩
    have hb3 : Below w2.heap.size w2 w3 := by rw [← hw3]; exact (Below.refl _ _).alloc (Nat.le_refl _) _
    have hz3 : w2.heap.size < w3.heap.size := by rw [← hw3]; simp
    have HE3 : Hid (Row2 w3 w2.heap.size o1 o2) := by rw [Hid, ← hw3]; unfold Row2; simp
    have HBX3 : Hid (w3.cell? ⟨w.heap.size, 3, none⟩ = some (.slice A4 n4 c4)) := (hb3.cell (p := ⟨w.heap.size, 3, none⟩) (by simp; omega)).trans c3'
    have HR3 := Lib.hid (HR2.out.grow hb3 (show w2.heap.size ≤ w3.heap.size by omega))
    have hbw3 := hbw2.trans (hb3.mono (by omega))
    clear c3' HR2 hbw2 hb3
    go_upto_region 5 with fail
    clear hw3
    have c3' := HBX3.out
    have HS0 : Hid (hops (l.links.take 0) (x, y) = []) := rfl
    go_wp2_with fail
    clear c3' HBX3
    go_loopw [5, 20] (fun h i wr => ∃ (k n c : Nat) (A : Option Addr) (L : List Hop), k ≤ n4 ∧ n ≤ k ∧ i = .int .i64 k ∧ h = .slice A n c ∧ Own hopR wr w3.heap.size (.slice A n c) n L ∧ Hid (L = hops (l.links.take k) (x, y)) ∧ Below w3.heap.size w3 wr) (fun _ i _ => n4 - (intOf i).toNat)
    case atStart => exact ⟨0, 0, 0, none, [], by omega, by omega, rfl, rfl, Own.nil _ _, HS0.out.symm, Below.refl _ _⟩
    case round =>
      obtain ⟨k, n, c, A, L, hk, hnk, rfl, rfl, hO, HL, hbr⟩ := hrel
      clear HS0
      have hzr := hbr.size
      by_cases hlt : k < n4
      · obtain ⟨ad, kk, rfl, hab, hkk, d0, d1, d2, d3, d4, d5⟩ := loadLnk (HR3.out.below hbr) hlt
        have HST := Lib.hid (hops_step (x, y) hkk)
        have hin := HGd.out.range kk (List.mem_of_getElem? hkk)
        obtain ⟨ka, kae, kb, kbe, kpt, kps⟩ := kk
        obtain ⟨wa, hwa⟩ : ∃ wa, wr.alloc (.cells #[.int .i64 ka, .int .i64 kae, .int .i64 kb, .int .i64 kbe, .int .i64 kpt, .int .i64 kps] 106) = wa := ⟨_, rfl⟩
        have hba : Below wr.heap.size wr wa := by rw [← hwa]; exact (Below.refl _ _).alloc (Nat.le_refl _) _
        have hza : wr.heap.size < wa.heap.size := by rw [← hwa]; simp
        have HL6 : Hid (Row6 wa wr.heap.size ⟨ka, kae, kb, kbe, kpt, kps⟩) := by rw [Hid, ← hwa]; unfold Row6; simp
        have HIn := Lib.hid hin
        have HOa := Lib.hid (hO.below hba (Nat.le_refl _))
        have HAlt : Hid (∀ g, (Value.slice A n c).ownBlock = some g → g < wr.heap.size) := fun g hg => (hO.2.lt g hg).2
        have hbra := hbr.trans (hba.mono hzr)
        have HEa := Lib.hid ((HE3.out.below hbr (by omega)).below hba (by omega))
        clear hkk hin hO
        simp only at d0 d1 d2 d3 d4 d5
        go_upto_region 8 with fail
        clear hwa d0 d1 d2 d3 d4 d5
        obtain ⟨k0, k1, k2, k3, k4, k5⟩ := HL6.out
        simp only at k0 k1 k2 k3 k4 k5
        go_wp2_with fail
        refine (ends_of ⟨ka, kae, kb, kbe, kpt, kps⟩ _).mono ?_
        rintro e w4 ⟨rfl, hb4⟩
        have hz4 := hb4.size
        obtain ⟨w5, hw5⟩ : ∃ w5, (w4.alloc (.cells #[.int .i64 ka, .int .i64 kae] 155)).alloc (.cells #[.int .i64 kb, .int .i64 kbe] 155) = w5 := ⟨_, rfl⟩
        have hb5 : Below w4.heap.size w4 w5 := by rw [← hw5]; exact ((Below.refl _ _).alloc (Nat.le_refl _) _).alloc (by simp) _
        have hz5 : w4.heap.size + 1 < w5.heap.size := by rw [← hw5]; simp
        have HA5 : Hid (Row2 w5 w4.heap.size ka kae) := by rw [Hid, ← hw5]; unfold Row2; simp
        have HB5 : Hid (Row2 w5 (w4.heap.size + 1) kb kbe) := by rw [Hid, ← hw5]; unfold Row2; simp
        have hb45 := hb4.trans (hb5.mono hz4)
        have hb5r := hbra.trans (hb45.mono (by omega))
        have HL5 := Lib.hid (HL6.out.below hb45 (by omega))
        have HO5 := Lib.hid (HOa.out.below hb45 (Nat.le_refl _))
        have HE5 := Lib.hid (HEa.out.below hb45 (by omega))
        clear k0 k1 k2 k3 k4 k5 HL6 HOa HEa hb4 hb5 hb45
        go_upto_region 9 with fail
        clear hw5
        obtain ⟨q0, q1⟩ := HE5.out
        obtain ⟨r0, r1⟩ := HA5.out
        cases hq : (o1 == ka && o2 == kae) with
        | true =>
          go_upto_region 11 with (refine wpList_eq_end _ rfl _ _ rfl o1 o2 ka kae true hq rfl rfl ?_)
          have HLX : Hid (L ++ [⟨pinto kb kbe, kpt, kps⟩] = hops (l.links.take (k + 1)) (x, y)) := by rw [Hid, HL.out]; exact hops_a HST.out HO.out hq HIn.out.1
          clear hq
          obtain ⟨t0, t1⟩ := HB5.out
          obtain ⟨k0, k1, k2, k3, k4, k5⟩ := HL5.out
          simp only at k0 k1 k2 k3 k4 k5
          have hrow4 : (w4.heap.size + 1) < w5.heap.size := by omega
          have hrowr : wr.heap.size < w5.heap.size := by omega
          have KA : Hid (∀ w', Below w5.heap.size w5 w' → w'.cell? ⟨(w4.heap.size + 1), 0, none⟩ = some (.int .i64 kb) ∧ w'.cell? ⟨(w4.heap.size + 1), 1, none⟩ = some (.int .i64 kbe) ∧ w'.cell? ⟨wr.heap.size, 4, none⟩ = some (.int .i64 kpt) ∧ w'.cell? ⟨wr.heap.size, 5, none⟩ = some (.int .i64 kps) ∧ Below w3.heap.size w5 w') := fun w' hb =>
            ⟨(hb.cell (p := ⟨(w4.heap.size + 1), 0, none⟩) hrow4).trans t0, (hb.cell (p := ⟨(w4.heap.size + 1), 1, none⟩) hrow4).trans t1, (hb.cell (p := ⟨wr.heap.size, 4, none⟩) hrowr).trans k4, (hb.cell (p := ⟨wr.heap.size, 5, none⟩) hrowr).trans k5, hb.mono (by omega)⟩
          have KB : Hid (∀ wx w', Below w5.heap.size w5 wx → wx.grownBy w' (Value.slice A n c).ownBlock → w'.cell? ⟨(w4.heap.size + 1), 0, none⟩ = some (.int .i64 kb) ∧ w'.cell? ⟨(w4.heap.size + 1), 1, none⟩ = some (.int .i64 kbe) ∧ w'.cell? ⟨wr.heap.size, 4, none⟩ = some (.int .i64 kpt) ∧ w'.cell? ⟨wr.heap.size, 5, none⟩ = some (.int .i64 kps) ∧ Below w3.heap.size w5 w') := fun wx w' hb hg => by
            obtain ⟨a0, a1, a2, a3, a4⟩ := KA.out wx hb
            have hz := hb.size
            have hne : ∀ b, wr.heap.size ≤ b → some b ≠ (Value.slice A n c).ownBlock := fun b hb2 e => by have := HAlt.out b e.symm; omega
            exact ⟨(grown_cell (p := ⟨(w4.heap.size + 1), 0, none⟩) hg (by simp; omega) (hne _ (by simp; omega))).trans a0, (grown_cell (p := ⟨(w4.heap.size + 1), 1, none⟩) hg (by simp; omega) (hne _ (by simp; omega))).trans a1, (grown_cell (p := ⟨wr.heap.size, 4, none⟩) hg (by simp; omega) (hne _ (by simp))).trans a2,
              (grown_cell (p := ⟨wr.heap.size, 5, none⟩) hg (by simp; omega) (hne _ (by simp))).trans a3, a4.grown hg (by omega) (fun k hk => (HO5.out.2.lt k hk).1)⟩
          clear k0 k1 k2 k3 q0 q1 r0 r1 k4 k5 t0 t1
          have hb0 := Below.refl w5.heap.size w5
          have hn63 : n + 1 ≤ maxLen := by unfold maxLen; omega
          have hby : (n + 1) * 32 ≤ 140737488355328 := by omega
          go_region_held3 (fun w' => w'.cell? ⟨(w4.heap.size + 1), 0, none⟩ = some (.int .i64 kb) ∧ w'.cell? ⟨(w4.heap.size + 1), 1, none⟩ = some (.int .i64 kbe) ∧ w'.cell? ⟨wr.heap.size, 4, none⟩ = some (.int .i64 kpt) ∧ w'.cell? ⟨wr.heap.size, 5, none⟩ = some (.int .i64 kps) ∧ Below w3.heap.size w5 w')
            (first | exact KA.out _ hb0.drew | exact KA.out _ (hb0.drew.trans (hbq.mono (by simp))) | exact KA.out _ ((hb0.drew.trans (hbq.mono (by simp))).alloc hq5 _) | exact KB.out _ _ ((hb0.drew.trans (hbq.mono (by simp))).alloc hq5 _) hgrow7)
            ((first | (go_at_call 106; refine (step_from kb kbe _).mono ?_; rintro e wq ⟨rfl, hbq⟩; have hq5 : w5.heap.size ≤ wq.heap.size := hbq.size) | (refine step_append_lies _ (by rfl) _ _ _ (by rfl) w3.heap.size 70 ih _ 4 32 Tryz.underlying67 hih hz0 hz1 hz2 rfl (by omega) (.slice A n c) n (hopR.cs L) (by rfl) ((HO5.out.below (hb0.drew.trans (hbq.mono (by simp))) (Nat.le_refl _)).2.alloc _) ⟨wq.heap.size, 0, none⟩ 1 1 [.int .i64 (pinto kb kbe).1, .int .i64 (pinto kb kbe).2, .int .i64 kpt, .int .i64 kps] (by rfl) (by rfl) (World.news_of_block (cs := #[.int .i64 (pinto kb kbe).1, .int .i64 (pinto kb kbe).2, .int .i64 kpt, .int .i64 kps]) (t := 70) (fr := (0, 0)) (heap_alloc_new wq _)) (by simp [Value.oneCell']) (by omega) hn63 hby (by simp; omega) (wq.heap.size + 1) (by simp) ?_; intro gg cap w7 hown7 hgrow7 hat7 hlt7)))
          obtain ⟨-, -, -, -, hb7⟩ := KB.out _ _ ((hb0.drew.trans (hbq.mono (by simp))).alloc hq5 _) hgrow7
          have HO7 := Lib.hid (Own.push (R := hopR) (a := ⟨pinto kb kbe, kpt, kps⟩) HO5.out.1 hown7)
          have hb7r := hb5r.trans hb7
          clear hown7 hgrow7 hat7
          go_wp2_with fail
          go_roundw
          case rel => exact ⟨k + 1, n + 1, cap, some ⟨gg, 0, none⟩, L ++ [⟨pinto kb kbe, kpt, kps⟩], by omega, by omega, by go_num, rfl, HO7.out, HLX, hb7r⟩
          case measure => simp [intOf]; omega
        | false =>
          obtain ⟨t0, t1⟩ := HB5.out
          cases hq2 : (o1 == kb && o2 == kbe) with
          | true =>
            go_upto_region 13 with (first | (refine wpList_eq_end _ rfl _ _ rfl o1 o2 ka kae false hq rfl rfl ?_) | (refine wpList_eq_end _ rfl _ _ rfl o1 o2 kb kbe true hq2 rfl rfl ?_))
            have HLX : Hid (L ++ [⟨pinto ka kae, kpt, kps⟩] = hops (l.links.take (k + 1)) (x, y)) := by rw [Hid, HL.out]; exact hops_b HST.out HO.out hq hq2 HIn.out.1
            clear hq hq2
            obtain ⟨k0, k1, k2, k3, k4, k5⟩ := HL5.out
            simp only at k0 k1 k2 k3 k4 k5
            have hrow4 : w4.heap.size < w5.heap.size := by omega
            have hrowr : wr.heap.size < w5.heap.size := by omega
            have KA : Hid (∀ w', Below w5.heap.size w5 w' → w'.cell? ⟨w4.heap.size, 0, none⟩ = some (.int .i64 ka) ∧ w'.cell? ⟨w4.heap.size, 1, none⟩ = some (.int .i64 kae) ∧ w'.cell? ⟨wr.heap.size, 4, none⟩ = some (.int .i64 kpt) ∧ w'.cell? ⟨wr.heap.size, 5, none⟩ = some (.int .i64 kps) ∧ Below w3.heap.size w5 w') := fun w' hb =>
              ⟨(hb.cell (p := ⟨w4.heap.size, 0, none⟩) hrow4).trans r0, (hb.cell (p := ⟨w4.heap.size, 1, none⟩) hrow4).trans r1, (hb.cell (p := ⟨wr.heap.size, 4, none⟩) hrowr).trans k4, (hb.cell (p := ⟨wr.heap.size, 5, none⟩) hrowr).trans k5, hb.mono (by omega)⟩
            have KB : Hid (∀ wx w', Below w5.heap.size w5 wx → wx.grownBy w' (Value.slice A n c).ownBlock → w'.cell? ⟨w4.heap.size, 0, none⟩ = some (.int .i64 ka) ∧ w'.cell? ⟨w4.heap.size, 1, none⟩ = some (.int .i64 kae) ∧ w'.cell? ⟨wr.heap.size, 4, none⟩ = some (.int .i64 kpt) ∧ w'.cell? ⟨wr.heap.size, 5, none⟩ = some (.int .i64 kps) ∧ Below w3.heap.size w5 w') := fun wx w' hb hg => by
              obtain ⟨a0, a1, a2, a3, a4⟩ := KA.out wx hb
              have hz := hb.size
              have hne : ∀ b, wr.heap.size ≤ b → some b ≠ (Value.slice A n c).ownBlock := fun b hb2 e => by have := HAlt.out b e.symm; omega
              exact ⟨(grown_cell (p := ⟨w4.heap.size, 0, none⟩) hg (by simp; omega) (hne _ (by simp; omega))).trans a0, (grown_cell (p := ⟨w4.heap.size, 1, none⟩) hg (by simp; omega) (hne _ (by simp; omega))).trans a1, (grown_cell (p := ⟨wr.heap.size, 4, none⟩) hg (by simp; omega) (hne _ (by simp))).trans a2,
                (grown_cell (p := ⟨wr.heap.size, 5, none⟩) hg (by simp; omega) (hne _ (by simp))).trans a3, a4.grown hg (by omega) (fun k hk => (HO5.out.2.lt k hk).1)⟩
            clear k0 k1 k2 k3 q0 q1 r0 r1 k4 k5 t0 t1
            have hb0 := Below.refl w5.heap.size w5
            have hn63 : n + 1 ≤ maxLen := by unfold maxLen; omega
            have hby : (n + 1) * 32 ≤ 140737488355328 := by omega
            go_region_held3 (fun w' => w'.cell? ⟨w4.heap.size, 0, none⟩ = some (.int .i64 ka) ∧ w'.cell? ⟨w4.heap.size, 1, none⟩ = some (.int .i64 kae) ∧ w'.cell? ⟨wr.heap.size, 4, none⟩ = some (.int .i64 kpt) ∧ w'.cell? ⟨wr.heap.size, 5, none⟩ = some (.int .i64 kps) ∧ Below w3.heap.size w5 w')
              (first | exact KA.out _ hb0.drew | exact KA.out _ (hb0.drew.trans (hbq.mono (by simp))) | exact KA.out _ ((hb0.drew.trans (hbq.mono (by simp))).alloc hq5 _) | exact KB.out _ _ ((hb0.drew.trans (hbq.mono (by simp))).alloc hq5 _) hgrow7)
              ((first | (go_at_call 106; refine (step_from ka kae _).mono ?_; rintro e wq ⟨rfl, hbq⟩; have hq5 : w5.heap.size ≤ wq.heap.size := hbq.size) | (refine step_append_lies _ (by rfl) _ _ _ (by rfl) w3.heap.size 70 ih _ 4 32 Tryz.underlying67 hih hz0 hz1 hz2 rfl (by omega) (.slice A n c) n (hopR.cs L) (by rfl) ((HO5.out.below (hb0.drew.trans (hbq.mono (by simp))) (Nat.le_refl _)).2.alloc _) ⟨wq.heap.size, 0, none⟩ 1 1 [.int .i64 (pinto ka kae).1, .int .i64 (pinto ka kae).2, .int .i64 kpt, .int .i64 kps] (by rfl) (by rfl) (World.news_of_block (cs := #[.int .i64 (pinto ka kae).1, .int .i64 (pinto ka kae).2, .int .i64 kpt, .int .i64 kps]) (t := 70) (fr := (0, 0)) (heap_alloc_new wq _)) (by simp [Value.oneCell']) (by omega) hn63 hby (by simp; omega) (wq.heap.size + 1) (by simp) ?_; intro gg cap w7 hown7 hgrow7 hat7 hlt7)))
            obtain ⟨-, -, -, -, hb7⟩ := KB.out _ _ ((hb0.drew.trans (hbq.mono (by simp))).alloc hq5 _) hgrow7
            have HO7 := Lib.hid (Own.push (R := hopR) (a := ⟨pinto ka kae, kpt, kps⟩) HO5.out.1 hown7)
            have hb7r := hb5r.trans hb7
            clear hown7 hgrow7 hat7
            go_wp2_with fail
            go_roundw
            case rel => exact ⟨k + 1, n + 1, cap, some ⟨gg, 0, none⟩, L ++ [⟨pinto ka kae, kpt, kps⟩], by omega, by omega, by go_num, rfl, HO7.out, HLX, hb7r⟩
            case measure => simp [intOf]; omega
          | false =>
            have HLX : Hid (L = hops (l.links.take (k + 1)) (x, y)) := by rw [Hid, HL.out]; exact hops_c HST.out HO.out hq hq2
            go_wp2_with (first | (refine wpList_eq_end _ rfl _ _ rfl o1 o2 ka kae false hq rfl rfl ?_) | (refine wpList_eq_end _ rfl _ _ rfl o1 o2 kb kbe false hq2 rfl rfl ?_))
            go_roundw
            case rel => exact ⟨k + 1, n, c, A, L, by omega, by omega, by go_num, rfl, HO5.out, HLX, hb5r⟩
            case measure => simp [intOf]; omega
      · have HX : Hid (L = hopsOf l (x, y)) := by rw [Hid, E.out, HL.out, List.take_of_length_le (by have := HR3.out.1; omega)]
        go_wp2_with fail
        go_ret
        exact ⟨A, n, c, rfl, by rw [← HX.out]; exact hO.base_ (by omega), hbw3.trans (hbr.mono (by omega))⟩
end Go.Proofs.YtnfelcjpjodjhaaGreat.PHops

namespace Go.Proofs.YtnfelcjpjodjhaaGreat.Rt
open Wd Lay

/-! ### the first error of a route -/

structure Rte where
  steps : List Step
  ov : Int
deriving DecidableEq
/-- is it a step of a layout of n sections -/
def stepIn (n : Nat) (s : Step) : Bool := decide (0 ≤ s.1) && decide (s.1 < n) && (decide (s.2 = 0) || decide (s.2 = 1))
/-- is the section among those of the steps -/
def pass (p : List Step) (x : Int) : Bool := p.any fun t => decide (t.1 = x)
/-- does a section come twice, in view of the earlier steps -/
def twice : List Step → List Step → Bool
  | _, [] => false
  | done, s :: r => pass done s.1 || twice (done ++ [s]) r
/-- the hop from a step to another one -/
def hopTo (ks : List Lnk) (a b : Step) : Option Hop := (hops ks a).find? fun h => decide (h.to = b)
/-- the hops from a step along the next ones -/
def hopsOn (ks : List Lnk) : Step → List Step → Option (List Hop)
  | _, [] => some []
  | a, b :: r => match hopTo ks a b with
    | none => none
    | some h => match hopsOn ks b r with
      | none => none
      | some H => some (h :: H)
def along (ks : List Lnk) : List Step → Option (List Hop)
  | [] => some []
  | a :: r => hopsOn ks a r
/-- the first error of a route, 0 for none -/
def rerr (l : Lay) (r : Rte) : Int :=
  if check l ≠ 0 then 1
  else if 24 < r.steps.length ∨ 2 < r.ov then 7
  else if r.ov < 0 ∨ (r.steps.length : Int) - r.ov < 2 ∨ (r.steps.any fun s => !stepIn l.sections.length s) = true then 4
  else if twice [] r.steps = true then 5
  else if along l.links r.steps = none then 11
  else 0
/-- the hops of a route's transitions -/
def transit (l : Lay) (r : Rte) : List Hop := if rerr l r = 0 then (along l.links r.steps).getD [] else []

theorem rerr_ok {l : Lay} {r : Rte} (h : rerr l r = 0) : check l = 0 ∧ r.steps.length ≤ 24 ∧ 0 ≤ r.ov ∧ r.ov ≤ 2 ∧ 2 ≤ (r.steps.length : Int) - r.ov ∧ (∀ s ∈ r.steps, stepIn l.sections.length s = true) ∧ twice [] r.steps = false ∧
    ∃ H, along l.links r.steps = some H ∧ transit l r = H := by
  have h0 := h
  unfold rerr at h
  split at h
  · omega
  · next h1 =>
    split at h
    · omega
    · next h2 =>
      split at h
      · omega
      · next h3 =>
        split at h
        · omega
        · next h4 =>
          split at h
          · omega
          · next h5 =>
            have h3' : ¬ (r.steps.any fun s => !stepIn l.sections.length s) = true := fun e => h3 (.inr (.inr e))
            refine ⟨by omega, by omega, by omega, by omega, by omega, fun s hs => ?_, by simpa using h4, ?_⟩
            · cases e : stepIn l.sections.length s with
              | true => rfl
              | false => exact absurd (List.any_eq_true.2 ⟨s, hs, by rw [e]; rfl⟩) h3'
            · obtain ⟨H, hH⟩ := Option.ne_none_iff_exists'.1 h5
              exact ⟨H, hH, by unfold transit; rw [if_pos h0, hH]; rfl⟩
theorem transit_bad {l : Lay} {r : Rte} (h : rerr l r ≠ 0) : transit l r = [] := by
  unfold transit; rw [if_neg h]

theorem hopsOn_len (ks : List Lnk) : ∀ (r : List Step) (a : Step) (H : List Hop), hopsOn ks a r = some H → H.length = r.length
  | [], a, H, h => by cases h; rfl
  | b :: r, a, H, h => by
    unfold hopsOn at h
    split at h
    · cases h
    · split at h
      · cases h
      · next h2 =>
        cases h
        simp [hopsOn_len ks r b _ h2]
theorem along_len {ks : List Lnk} {S : List Step} {H : List Hop} (h : along ks S = some H) : H.length = S.length - 1 := by
  cases S with
  | nil => cases h; rfl
  | cons a r => simpa using hopsOn_len ks r a H h

/-! ### cells -/

structure Cel where
  lim : Int
  gr : Int
deriving DecidableEq
def cellOf (s : Sec) (d : Int) : Cel := ⟨s.lim, if d = 1 then -s.grade else s.grade⟩
def secAt (l : Lay) (x : Int) : Option Sec := l.sections[x.toNat]?
/-- the cells of the sections of some steps -/
def cellsFor (l : Lay) (S : List Step) : List Cel := S.flatMap fun t => match secAt l t.1 with
  | some s => List.replicate s.len.toNat (cellOf s t.2)
  | none => []
/-- how long a section is -/
def lenAt (l : Lay) (x : Int) : Int := match secAt l x with
  | some s => s.len
  | none => 0
def headSec (S : List Step) : Int := match S with
  | [] => 0
  | s :: _ => s.1
/-- the travelled steps -/
def trav (r : Rte) : List Step := r.steps.take (r.steps.length - r.ov.toNat)
/-- the cells of a route, the number of the first section's, the error -/
def rcells (l : Lay) (r : Rte) : List Cel × Int × Int :=
  if rerr l r ≠ 0 then ([], 0, rerr l r)
  else if 4000 < (cellsFor l (trav r)).length then ([], 0, 7)
  else (cellsFor l (trav r), lenAt l (headSec r.steps), 0)

/-! ### resources -/

/-- the resource numbers of a route's steps and transitions, in their order, with repeats -/
def resList (l : Lay) (r : Rte) : List Int := r.steps.map (·.1) ++ ((transit l r).filter fun h => !decide (h.pt = -1)).map fun h => (l.sections.length : Int) + h.pt
/-- the resources of a route, and the error -/
def rres (l : Lay) (r : Rte) : List Int × Int :=
  if rerr l r ≠ 0 then ([], rerr l r)
  else (((List.range (l.sections.length + l.points.length)).map fun i : Nat => (i : Int)).filter (fun i => (resList l r).contains i), 0)
/-- do two routes clash, and the error -/
def rclash (l : Lay) (a b : Rte) : Bool × Int :=
  if rerr l a ≠ 0 then (false, rerr l a)
  else if rerr l b ≠ 0 then (false, rerr l b)
  else ((rres l a).1.any (fun i => (rres l b).1.contains i), 0)

/-! ### the search -/

/-- what the search has used and found -/
structure Fnd where
  u : Int
  out : List (List Step)
deriving DecidableEq
/-- the hops from the last step of a sequence, one after another -/
def tryHops (rec : List Step → Fnd → Option Fnd) (tg bud : Int) (p : List Step) : List Hop → Fnd → Option Fnd
  | [], st => some st
  | h :: r, st =>
    if pass p h.to.1 = true then tryHops rec tg bud p r st
    else if st.u = bud then none
    else if h.to.1 = tg then tryHops rec tg bud p r ⟨st.u + 1, st.out ++ [p ++ [h.to]]⟩
    else match rec (p ++ [h.to]) ⟨st.u + 1, st.out⟩ with
      | none => none
      | some st' => tryHops rec tg bud p r st'
/-- the search from a sequence on, that may grow by f steps -/
def ext (ks : List Lnk) (tg bud : Int) : Nat → List Step → Fnd → Option Fnd
  | 0, _, st => some st
  | f + 1, p, st => tryHops (ext ks tg bud f) tg bud p (hops ks (p.getLastD (0, 0))) st
/-- routes, units, error -/
def rfind (l : Lay) (s : Step) (tg bud : Int) : List (List Step) × Int × Int :=
  if check l ≠ 0 then ([], 0, 1)
  else if stepIn l.sections.length s = false ∨ tg < 0 ∨ (l.sections.length : Int) ≤ tg ∨ bud < 1 ∨ 1048576 < bud then ([], 0, 4)
  else match ext l.links tg bud 23 [s] ⟨1, []⟩ with
    | none => ([], 0, 15)
    | some st => if st.out = [] then ([], 0, 6) else (st.out, st.u, 0)
end Go.Proofs.YtnfelcjpjodjhaaGreat.Rt

namespace Go.Proofs.YtnfelcjpjodjhaaGreat.RtR
open Go.RowKit Wd Mem Lay Recs Rt
set_option linter.unusedVariables false

def stpCells (s : Step) : List Value := [.int .i64 s.1, .int .i64 s.2]
def stpR : Rec Step := ⟨39, 2, stpCells, by decide, fun _ => rfl, fun s u hu => by
  simp only [stpCells, List.mem_cons, List.not_mem_nil, or_false] at hu
  rcases hu with rfl | rfl <;> rfl⟩
def celCells (c : Cel) : List Value := [.int .i64 c.lim, .int .i64 c.gr]
def celR : Rec Cel := ⟨56, 2, celCells, by decide, fun _ => rfl, fun s u hu => by
  simp only [celCells, List.mem_cons, List.not_mem_nil, or_false] at hu
  rcases hu with rfl | rfl <;> rfl⟩
theorem infoStp : (Tryz.prog.info? 39).map (fun i => (i.zero, i.size, i.bytes)) = some (some (.agg #[.int .i64 0, .int .i64 0]), 2, 16) := by kernel_rfl
theorem infoCel : (Tryz.prog.info? 56).map (fun i => (i.zero, i.size, i.bytes)) = some (some (.agg #[.int .i64 0, .int .i64 0]), 2, 16) := by kernel_rfl

section
variable {w w' : World} {B B' n : Nat} {A : Option Addr}
/-- the step at i, as the walk loads it -/
theorem loadStp {L : List Step} {i : Nat} (h : Rd stpR w B A n L) (hi : i < n) : ∃ ad x y, A = some ad ∧ ad.block < B ∧ L[i]? = some (x, y) ∧ w.cell? (ad.add (i * 2)) = some (.int .i64 x) ∧ w.cell? ⟨(ad.add (i * 2)).block, (ad.add (i * 2)).off + 1, none⟩ = some (.int .i64 y) := by
  obtain ⟨ad, a, e1, hb, e, hc⟩ := h.at_ hi
  refine ⟨ad, a.1, a.2, e1, hb, e, ?_, ?_⟩
  · exact hc 0 _ rfl
  · have := hc 1 (.int .i64 a.2) rfl
    rw [cell_next _ _ _ (by decide)] at this
    exact this
/-- the cell at i, as the walk loads it -/
theorem loadCel {L : List Cel} {i : Nat} (h : Rd celR w B A n L) (hi : i < n) : ∃ ad c, A = some ad ∧ ad.block < B ∧ L[i]? = some c ∧ w.cell? (ad.add (i * 2)) = some (.int .i64 c.lim) ∧ w.cell? ⟨(ad.add (i * 2)).block, (ad.add (i * 2)).off + 1, none⟩ = some (.int .i64 c.gr) := by
  obtain ⟨ad, a, e1, hb, e, hc⟩ := h.at_ hi
  refine ⟨ad, a, e1, hb, e, ?_, ?_⟩
  · exact hc 0 _ rfl
  · have := hc 1 (.int .i64 a.gr) rfl
    rw [cell_next _ _ _ (by decide)] at this
    exact this
/-- the beginning of a list that lies in memory -/
theorem rd_take {α : Type} {R : Rec α} {L : List α} {k : Nat} (h : Rd R w B A n L) (hk : k ≤ n) : Rd R w B A k (L.take k) := by
  refine ⟨by rw [List.length_take, h.1]; omega, fun j u hu => h.2 j u ?_⟩
  have e : R.cs L = R.cs (L.take k) ++ R.cs (L.drop k) := by rw [← Recs.cs_append, List.take_append_drop]
  rw [e, List.getElem?_append_left (List.getElem?_eq_some_iff.1 hu).1]
  exact hu
end

/-- a row of the call's own, behind a write into another block -/
theorem own_past {α : Type} {R : Rec α} {w : World} {base n g j : Nat} {x u : Value} {L : List α} (h : Own R w base x n L) (hne : x.ownBlock ≠ some g) : Own R (w.setCell ⟨g, j, none⟩ u) base x n L :=
  ⟨h.1, h.2.kept (row := some g) ⟨rfl, rfl, rfl, by simp [World.setCell], fun k hk hne => Below.heap_setCell w ⟨g, j, none⟩ u k (fun e => hne (by rw [e]))⟩ (.inr hne)⟩

/-! ### the first element of a kind -/

section
variable {α : Type}
/-- where the first element of a kind stands; -1: nowhere -/
def idx (p : α → Bool) : List α → Int
  | [] => -1
  | a :: r => if p a = true then 0 else if idx p r < 0 then -1 else idx p r + 1
theorem idx_cons (p : α → Bool) (a : α) (r : List α) : idx p (a :: r) = if p a = true then 0 else if idx p r < 0 then -1 else idx p r + 1 := rfl
theorem idx_any (p : α → Bool) : ∀ L : List α, L.any p = decide (0 ≤ idx p L)
  | [] => rfl
  | a :: r => by
    have ih := idx_any p r
    rw [List.any_cons, ih, idx_cons]
    cases h : p a with
    | true => simp
    | false =>
      by_cases h2 : idx p r < 0
      · have : ¬ 0 ≤ idx p r := by omega
        simp [h2, this]
      · have : 0 ≤ idx p r := by omega
        have h3 : 0 ≤ idx p r + 1 := by omega
        simp [h2, this, h3]
theorem idx_miss (p : α → Bool) : ∀ L : List α, (∀ a ∈ L, p a = false) → idx p L = -1
  | [], _ => rfl
  | a :: r, h => by
    have ih := idx_miss p r (fun b hb => h b (List.mem_cons_of_mem _ hb))
    rw [idx_cons, h a List.mem_cons_self, ih]
    simp
theorem idx_hit (p : α → Bool) : ∀ (L : List α) (k : Nat) (x : α), L[k]? = some x → p x = true → (∀ j, j < k → ∀ a, L[j]? = some a → p a = false) → idx p L = k
  | [], k, x, h, _, _ => by simp at h
  | a :: r, 0, x, h, hp, _ => by
    simp at h
    subst h
    rw [idx_cons, if_pos hp]
    rfl
  | a :: r, k + 1, x, h, hp, hb => by
    simp at h
    have ih := idx_hit p r k x h hp (fun j hj b hb' => hb (j + 1) (by omega) b (by simpa using hb'))
    rw [idx_cons, hb 0 (by omega) a rfl, ih, if_neg (by decide), if_neg (by omega)]
    omega
theorem idx_find (p : α → Bool) : ∀ L : List α, if 0 ≤ idx p L then ∃ x, L[(idx p L).toNat]? = some x ∧ L.find? p = some x else L.find? p = none
  | [] => by simp [idx]
  | a :: r => by
    have ih := idx_find p r
    cases h : p a with
    | true => rw [idx_cons, if_pos h]; simp [h]
    | false =>
      have e : idx p (a :: r) = if idx p r < 0 then -1 else idx p r + 1 := by rw [idx_cons, h]; rfl
      rw [e]
      by_cases h2 : 0 ≤ idx p r
      · rw [if_pos h2] at ih
        obtain ⟨x, h3, h4⟩ := ih
        rw [if_neg (show ¬ idx p r < 0 by omega), if_pos (by omega)]
        refine ⟨x, ?_, by rw [List.find?_cons, h]; exact h4⟩
        rw [show (idx p r + 1).toNat = (idx p r).toNat + 1 by omega, List.getElem?_cons_succ]
        exact h3
      · rw [if_neg h2] at ih
        rw [if_pos (show idx p r < 0 by omega), if_neg (by decide), List.find?_cons, h]
        exact ih
theorem idx_le (p : α → Bool) : ∀ L : List α, -1 ≤ idx p L ∧ idx p L < L.length
  | [] => by simp [idx]
  | a :: r => by
    have ih := idx_le p r
    rw [idx_cons]
    split
    · simp only [List.length_cons]; omega
    · split
      · simp only [List.length_cons]; omega
      · simp only [List.length_cons]; omega
end
end Go.Proofs.YtnfelcjpjodjhaaGreat.RtR

namespace Go.Proofs.YtnfelcjpjodjhaaGreat.ArgL
open Go.ChangeShapes Go.WideShapes Go.ChangeAt Go.ChangeMaps Go.RowKit Wd Mem Lay LayT Recs
set_option linter.unusedVariables false

instance : Inhabited Sec := ⟨⟨[], 0, 0, 0, 0⟩⟩
instance : Inhabited Lnk := ⟨⟨0, 0, 0, 0, 0, 0⟩⟩
theorem cellsS : Tryz.prog.cellsOf 9 = 1 := by kernel_rfl
theorem cellsI : Tryz.prog.cellsOf 3 = 1 := by kernel_rfl
theorem cellsX : Tryz.prog.cellsOf 81 = 5 := by kernel_rfl
theorem cellsK : Tryz.prog.cellsOf 106 = 6 := by kernel_rfl
theorem cellsL : Tryz.prog.cellsOf 26 = 4 := by kernel_rfl

section
variable {H : Type} {enc : TypeId × Value → H} {W : World}

/-- a slice of records, as the reading meets it -/
theorem open_recs {α : Type} [Inhabited α] {R : Rec α} {p : α → Prop} {t e : TypeId} {n : Nat} {cs : List Value} {x : DataW H × List MemPlace} (ht : Tryz.prog.underlying t = some (.slice e)) (hc : Tryz.prog.cellsOf e = R.k)
    (each : ∀ (m : Nat) (vs : List Value) (y : DataW H × List MemPlace), DataW.trod enc Tryz.prog W 0 (fun _ => true) true m e vs = some y → vs.length = R.k → ∃ a : α, vs = R.cells a ∧ p a)
    (h : DataW.trod enc Tryz.prog W 0 (fun _ => true) true n t cs = some x) :
    ∃ A len cap L, cs = [.slice A len cap] ∧ Rd R W W.heap.size A len L ∧ len ≤ cap ∧ cap ≤ 9223372036854775807 ∧ ∀ a ∈ L, p a := by
  rcases DataW.trod_slice ht h with ⟨rfl, rfl⟩ | ⟨a, len, cap, elems, rest, m, _, rfl, rfl, hb, hl, hm, hlen, hel, hsp, hns⟩
  · exact ⟨none, 0, 0, [], rfl, Rd.nil _ _ _, Nat.le_refl _, by omega, nofun⟩
  · have one : ∀ i, i < len → ∃ y : α, (∀ j, j < R.k → W.cell? (a.add (i * R.k + j)) = (R.cells y)[j]?) ∧ p y := by
      intro i hi
      have hy : elems[i]? = some elems[i] := List.getElem?_eq_getElem (by omega)
      have hb' := hel i hi
      rw [hy, hc, Option.bind_eq_some_iff] at hb'
      obtain ⟨cs', hcs, hy'⟩ := hb'
      obtain ⟨_, g1, g2⟩ := World.cells?_some hcs
      obtain ⟨y, rfl, hp⟩ := each _ _ _ hy' g1
      exact ⟨y, fun j hj => by rw [← add_add']; exact g2 j hj, hp⟩
    obtain ⟨f, hf⟩ := Go.Deep.choose_lt one
    have hL : ((List.range len).map f).length = len := by simp
    refine ⟨some a, len, cap, (List.range len).map f, rfl, ⟨hL, fun j u hu => ?_⟩, hl, by unfold maxLen at hm; omega, fun y hy => ?_⟩
    · have hlt : j < len * R.k := by
        have := (List.getElem?_eq_some_iff.1 hu).1
        rwa [Recs.cs_length, hL] at this
      have hk := R.pos
      have hj1 : j / R.k < len := (Nat.div_lt_iff_lt_mul hk).2 hlt
      have hj2 : j % R.k < R.k := Nat.mod_lt _ hk
      have hj : j = j / R.k * R.k + j % R.k := (Nat.div_add_mod' j R.k).symm
      have h0 := (hf _ hj1).1 _ hj2
      rw [hj, Recs.cs_get _ _ _ hj2] at hu
      simp only [List.getElem?_map, List.getElem?_range hj1, Option.map_some, Option.bind_some] at hu
      rw [hu, ← hj] at h0
      have hlt := World.block_lt_of_cell? W _ h0
      rw [Mem.block_add] at hlt
      exact ⟨a, rfl, hlt, h0⟩
    · obtain ⟨i, hi, rfl⟩ := List.mem_map.1 hy
      exact (hf i (by simpa using hi)).2

theorem one_str {m : Nat} {vs : List Value} {y : DataW H × List MemPlace} (h : DataW.trod enc Tryz.prog W 0 (fun _ => true) true m 9 vs = some y) : ∃ s : Bs, vs = [.string (str s)] ∧ s.length ≤ 9223372036854775807 := by
  obtain ⟨s, rfl, _, hz⟩ := DataW.trod_string Tryz.underlying9 h
  refine ⟨bs s, by rw [str_bs], ?_⟩
  rw [bs_length]; unfold maxLen at hz; omega
theorem one_int {m : Nat} {vs : List Value} {y : DataW H × List MemPlace} (h : DataW.trod enc Tryz.prog W 0 (fun _ => true) true m 3 vs = some y) : ∃ i : Int, vs = [.int .i64 i] := by
  obtain ⟨i, rfl, _⟩ := DataW.trod_int Tryz.underlying3 h
  exact ⟨i, rfl⟩
set_option maxRecDepth 100000 in
theorem one_sec {m : Nat} {vs : List Value} {y : DataW H × List MemPlace} (h : DataW.trod enc Tryz.prog W 0 (fun _ => true) true m 81 vs = some y) (hl : vs.length = 5) : ∃ s : Sec, vs = secR.cells s ∧ s.name.length ≤ 9223372036854775807 := by
  obtain ⟨xs, n, _, _, _, hlen, hf⟩ := DataW.trod_struct Tryz.underlying81 h
  have hx : xs.length = 5 := hlen
  match vs, hl with
  | [v0, v1, v2, v3, v4], _ =>
    have f0 : DataW.trod enc Tryz.prog W 0 (fun _ => true) true n 9 (([v0, v1, v2, v3, v4].drop 0).take (Tryz.prog.cellsOf 9)) = xs[0]? := hf 0 _ rfl
    have f1 : DataW.trod enc Tryz.prog W 0 (fun _ => true) true n 3 (([v0, v1, v2, v3, v4].drop 1).take (Tryz.prog.cellsOf 3)) = xs[1]? := hf 1 _ rfl
    have f2 : DataW.trod enc Tryz.prog W 0 (fun _ => true) true n 3 (([v0, v1, v2, v3, v4].drop 2).take (Tryz.prog.cellsOf 3)) = xs[2]? := hf 2 _ rfl
    have f3 : DataW.trod enc Tryz.prog W 0 (fun _ => true) true n 3 (([v0, v1, v2, v3, v4].drop 3).take (Tryz.prog.cellsOf 3)) = xs[3]? := hf 3 _ rfl
    have f4 : DataW.trod enc Tryz.prog W 0 (fun _ => true) true n 3 (([v0, v1, v2, v3, v4].drop 4).take (Tryz.prog.cellsOf 3)) = xs[4]? := hf 4 _ rfl
    rw [List.getElem?_eq_getElem (show 0 < xs.length by omega)] at f0
    rw [List.getElem?_eq_getElem (show 1 < xs.length by omega)] at f1
    rw [List.getElem?_eq_getElem (show 2 < xs.length by omega)] at f2
    rw [List.getElem?_eq_getElem (show 3 < xs.length by omega)] at f3
    rw [List.getElem?_eq_getElem (show 4 < xs.length by omega)] at f4
    simp only [cellsS, cellsI, List.drop_zero, List.drop_succ_cons, List.take_succ_cons, List.take_zero] at f0 f1 f2 f3 f4
    obtain ⟨s, e0, hz⟩ := one_str f0
    obtain ⟨i1, e1⟩ := one_int f1
    obtain ⟨i2, e2⟩ := one_int f2
    obtain ⟨i3, e3⟩ := one_int f3
    obtain ⟨i4, e4⟩ := one_int f4
    simp only [List.cons.injEq, and_true] at e0 e1 e2 e3 e4
    subst e0 e1 e2 e3 e4
    exact ⟨⟨s, i1, i2, i3, i4⟩, rfl, hz⟩
set_option maxRecDepth 100000 in
theorem one_lnk {m : Nat} {vs : List Value} {y : DataW H × List MemPlace} (h : DataW.trod enc Tryz.prog W 0 (fun _ => true) true m 106 vs = some y) (hl : vs.length = 6) : ∃ s : Lnk, vs = lnkR.cells s ∧ True := by
  obtain ⟨xs, n, _, _, _, hlen, hf⟩ := DataW.trod_struct Tryz.underlying106 h
  have hx : xs.length = 6 := hlen
  match vs, hl with
  | [v0, v1, v2, v3, v4, v5], _ =>
    have f0 : DataW.trod enc Tryz.prog W 0 (fun _ => true) true n 3 (([v0, v1, v2, v3, v4, v5].drop 0).take (Tryz.prog.cellsOf 3)) = xs[0]? := hf 0 _ rfl
    have f1 : DataW.trod enc Tryz.prog W 0 (fun _ => true) true n 3 (([v0, v1, v2, v3, v4, v5].drop 1).take (Tryz.prog.cellsOf 3)) = xs[1]? := hf 1 _ rfl
    have f2 : DataW.trod enc Tryz.prog W 0 (fun _ => true) true n 3 (([v0, v1, v2, v3, v4, v5].drop 2).take (Tryz.prog.cellsOf 3)) = xs[2]? := hf 2 _ rfl
    have f3 : DataW.trod enc Tryz.prog W 0 (fun _ => true) true n 3 (([v0, v1, v2, v3, v4, v5].drop 3).take (Tryz.prog.cellsOf 3)) = xs[3]? := hf 3 _ rfl
    have f4 : DataW.trod enc Tryz.prog W 0 (fun _ => true) true n 3 (([v0, v1, v2, v3, v4, v5].drop 4).take (Tryz.prog.cellsOf 3)) = xs[4]? := hf 4 _ rfl
    have f5 : DataW.trod enc Tryz.prog W 0 (fun _ => true) true n 3 (([v0, v1, v2, v3, v4, v5].drop 5).take (Tryz.prog.cellsOf 3)) = xs[5]? := hf 5 _ rfl
    rw [List.getElem?_eq_getElem (show 0 < xs.length by omega)] at f0
    rw [List.getElem?_eq_getElem (show 1 < xs.length by omega)] at f1
    rw [List.getElem?_eq_getElem (show 2 < xs.length by omega)] at f2
    rw [List.getElem?_eq_getElem (show 3 < xs.length by omega)] at f3
    rw [List.getElem?_eq_getElem (show 4 < xs.length by omega)] at f4
    rw [List.getElem?_eq_getElem (show 5 < xs.length by omega)] at f5
    simp only [cellsI, List.drop_zero, List.drop_succ_cons, List.take_succ_cons, List.take_zero] at f0 f1 f2 f3 f4 f5
    obtain ⟨i0, e0⟩ := one_int f0
    obtain ⟨i1, e1⟩ := one_int f1
    obtain ⟨i2, e2⟩ := one_int f2
    obtain ⟨i3, e3⟩ := one_int f3
    obtain ⟨i4, e4⟩ := one_int f4
    obtain ⟨i5, e5⟩ := one_int f5
    simp only [List.cons.injEq, and_true] at e0 e1 e2 e3 e4 e5
    subst e0 e1 e2 e3 e4 e5
    exact ⟨⟨i0, i1, i2, i3, i4, i5⟩, rfl, trivial⟩
set_option maxRecDepth 100000 in
theorem arg_layout {r : Reach} {b0 : Nat} {v : Value} {d : DataW H} {p : List MemPlace} (hval : Value.okWide Tryz.prog W r b0 26 v) (hd : DataW.Trod enc Tryz.prog W 0 (fun _ => true) true 26 v d p) :
    ∃ (x : LV) (l : Lay), v = x.val ∧ RdL W W.heap.size x l := by
  obtain ⟨v0, v1, v2, v3, y0, y1, y2, y3, n, rfl, _, _, h0, h1, h2, h3⟩ := Go.Joins.open_agg4 Tryz.underlying26 (by kernel_rfl) cellsL hval hd
  obtain ⟨A0, n0, c0, L0, e0, g0, k0, m0, z0⟩ := open_recs (R := sR) (p := fun s : Bs => s.length ≤ 9223372036854775807) Tryz.underlying22 cellsS (fun m vs y h hl => by obtain ⟨s, e, hz⟩ := one_str h; exact ⟨s, e, hz⟩) h0
  obtain ⟨A1, n1, c1, L1, e1, g1, k1, m1, z1⟩ := open_recs (R := sR) (p := fun s : Bs => s.length ≤ 9223372036854775807) Tryz.underlying22 cellsS (fun m vs y h hl => by obtain ⟨s, e, hz⟩ := one_str h; exact ⟨s, e, hz⟩) h1
  obtain ⟨A2, n2, c2, L2, e2, g2, k2, m2, z2⟩ := open_recs (R := secR) (p := fun s : Sec => s.name.length ≤ 9223372036854775807) Tryz.underlying23 cellsX (fun m vs y h hl => one_sec h hl) h2
  obtain ⟨A3, n3, c3, L3, e3, g3, k3, m3, z3⟩ := open_recs (R := lnkR) (p := fun _ : Lnk => True) Tryz.underlying24 cellsK (fun m vs y h hl => one_lnk h hl) h3
  simp only [List.cons.injEq, and_true] at e0 e1 e2 e3
  subst e0 e1 e2 e3
  exact ⟨⟨A0, n0, c0, A1, n1, c1, A2, n2, c2, A3, n3, c3⟩, ⟨L0, L1, L2, L3⟩, rfl, g0, g1, g2, g3, by show n0 ≤ _; omega, by show n1 ≤ _; omega, by show n2 ≤ _; omega, by show n3 ≤ _; omega, z0, z1, z2⟩
end
end Go.Proofs.YtnfelcjpjodjhaaGreat.ArgL

namespace Go.Proofs.YtnfelcjpjodjhaaGreat.ArgR
open Go.ChangeShapes Go.WideShapes Go.ChangeAt Go.ChangeMaps Go.RowKit Wd Mem Lay LayT Recs Rt RtR ArgL
set_option linter.unusedVariables false

instance : Inhabited Lay.Step := ⟨(0, 0)⟩
theorem cellsT : Tryz.prog.cellsOf 39 = 2 := by kernel_rfl
theorem cellsR : Tryz.prog.cellsOf 29 = 2 := by kernel_rfl
theorem rrA : Tryz.prog.readableRec 39 = true ∧ 39 < Tryz.prog.types.size := ⟨by kernel_rfl, of_decide_eq_true (by kernel_rfl)⟩
theorem rrB : Tryz.prog.readableRec 26 = true ∧ 26 < Tryz.prog.types.size := ⟨by kernel_rfl, of_decide_eq_true (by kernel_rfl)⟩
theorem rrC : Tryz.prog.readableRec 29 = true ∧ 29 < Tryz.prog.types.size := ⟨by kernel_rfl, of_decide_eq_true (by kernel_rfl)⟩
def fine (t : TypeId) : Bool := [3, 34, 39, 26, 29].contains t
theorem rrs (ts : List TypeId) (h : ts.all fine = true) : ∀ t ∈ ts, Tryz.prog.readableRec t = true ∧ t < Tryz.prog.types.size := by
  intro t ht
  have hf := List.all_eq_true.1 h t ht
  simp only [fine, List.contains_iff_mem, List.mem_cons, List.not_mem_nil, or_false] at hf
  rcases hf with rfl | rfl | rfl | rfl | rfl
  · exact LawF.rr0
  · exact LawF.rr4
  · exact rrA
  · exact rrB
  · exact rrC
section
variable {H : Type} {enc : TypeId × Value → H} {W : World}
theorem one_intw {m : Nat} {vs : List Value} {y : DataW H × List MemPlace} (h : DataW.trod enc Tryz.prog W 0 (fun _ => true) true m 3 vs = some y) : ∃ i : Int, vs = [.int .i64 i] ∧ -9223372036854775808 ≤ i ∧ i ≤ 9223372036854775807 := by
  obtain ⟨i, rfl, _, hw⟩ := DataW.trod_int Tryz.underlying3 h
  have := bounds_i64 hw
  exact ⟨i, rfl, this.1, this.2⟩
set_option maxRecDepth 100000 in
theorem one_stp {m : Nat} {vs : List Value} {y : DataW H × List MemPlace} (h : DataW.trod enc Tryz.prog W 0 (fun _ => true) true m 39 vs = some y) (hl : vs.length = 2) : ∃ s : Lay.Step, vs = stpR.cells s ∧ True := by
  obtain ⟨xs, n, _, _, _, hlen, hf⟩ := DataW.trod_struct Tryz.underlying39 h
  have hx : xs.length = 2 := hlen
  match vs, hl with
  | [v0, v1], _ =>
    have f0 : DataW.trod enc Tryz.prog W 0 (fun _ => true) true n 3 (([v0, v1].drop 0).take (Tryz.prog.cellsOf 3)) = xs[0]? := hf 0 _ rfl
    have f1 : DataW.trod enc Tryz.prog W 0 (fun _ => true) true n 3 (([v0, v1].drop 1).take (Tryz.prog.cellsOf 3)) = xs[1]? := hf 1 _ rfl
    rw [List.getElem?_eq_getElem (show 0 < xs.length by omega)] at f0
    rw [List.getElem?_eq_getElem (show 1 < xs.length by omega)] at f1
    simp only [cellsI, List.drop_zero, List.drop_succ_cons, List.take_succ_cons, List.take_zero] at f0 f1
    obtain ⟨i0, e0⟩ := one_int f0
    obtain ⟨i1, e1⟩ := one_int f1
    simp only [List.cons.injEq, and_true] at e0 e1
    subst e0 e1
    exact ⟨(i0, i1), rfl, trivial⟩
set_option maxRecDepth 100000 in
theorem arg_step {r : Reach} {b0 : Nat} {v : Value} {d : DataW H} {p : List MemPlace} (hval : Value.okWide Tryz.prog W r b0 39 v) (hd : DataW.Trod enc Tryz.prog W 0 (fun _ => true) true 39 v d p) :
    ∃ x y : Int, v = .agg #[.int .i64 x, .int .i64 y] := by
  obtain ⟨v0, v1, y0, y1, n, rfl, _, _, h0, h1⟩ := Go.Joins.open_agg2 Tryz.underlying39 (by kernel_rfl) cellsT hval hd
  obtain ⟨x, e0⟩ := one_int h0
  obtain ⟨y, e1⟩ := one_int h1
  simp only [List.cons.injEq, and_true] at e0 e1
  subst e0 e1
  exact ⟨x, y, rfl⟩
set_option maxRecDepth 100000 in
theorem arg_route {r : Reach} {b0 : Nat} {v : Value} {d : DataW H} {p : List MemPlace} (hval : Value.okWide Tryz.prog W r b0 29 v) (hd : DataW.Trod enc Tryz.prog W 0 (fun _ => true) true 29 v d p) :
    ∃ (A : Option Addr) (n c : Nat) (L : List Lay.Step) (ov : Int), v = .agg #[.slice A n c, .int .i64 ov] ∧ Rd stpR W W.heap.size A n L ∧ n ≤ c ∧ c ≤ 9223372036854775807 ∧ -9223372036854775808 ≤ ov ∧ ov ≤ 9223372036854775807 := by
  obtain ⟨v0, v1, y0, y1, n, rfl, _, _, h0, h1⟩ := Go.Joins.open_agg2 Tryz.underlying29 (by kernel_rfl) cellsR hval hd
  obtain ⟨A, len, cap, L, e0, hR, h2, h3, _⟩ := open_recs (R := stpR) (p := fun _ : Lay.Step => True) Tryz.underlying27 cellsT (fun m vs y h hl => one_stp h hl) h0
  obtain ⟨ov, e1, h4, h5⟩ := one_intw h1
  simp only [List.cons.injEq, and_true] at e0 e1
  subst e0 e1
  exact ⟨A, len, cap, L, ov, rfl, hR, h2, h3, h4, h5⟩
end
end Go.Proofs.YtnfelcjpjodjhaaGreat.ArgR
