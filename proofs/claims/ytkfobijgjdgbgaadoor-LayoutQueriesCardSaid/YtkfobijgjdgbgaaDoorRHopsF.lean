/-
  Contracts of the document's functions that find the hops of a step.
-/
import Derived.Test.YtkfobijgjdgbgaaDoorRHops
import Derived.Deep.CutBlock
namespace Go.Proofs.YtkfobijgjdgbgaaDoor.RHopsF
open Go.ChangeShapes Go.WideShapes Go.ChangeAt Go.RowKit Wd Small Mem Lay LayT Recs Keep Names PNames PSecs PLinks PEnds PTab PLnk PCheck PStep PHops RNames RCheck RHops
set_option linter.unusedVariables false

/-- where a link leads from an end; (-1, 0): nowhere -/
def tw (o : Lay.End) (k : Lnk) : Int × Int := if k.x = o then k.y else if k.y = o then k.x else (-1, 0)
theorem tw_no {o : Lay.End} {k : Lnk} {n p : Nat} (hi : inr n p k = true) (h : ¬ 0 ≤ (tw o k).1) : has k o = false := by
  obtain ⟨g1, g2, g3, g4, -⟩ := inr_range hi
  unfold tw at h
  by_cases hx : k.x = o
  · rw [if_pos hx] at h; exact absurd g3 h
  · rw [if_neg hx] at h
    by_cases hy : k.y = o
    · rw [if_pos hy] at h; exact absurd g1 h
    · cases hh : has k o with
      | false => rfl
      | true => rw [has_iff] at hh; exact (hh.elim hx hy).elim
theorem tw_yes {o : Lay.End} {k : Lnk} (h : 0 ≤ (tw o k).1) : has k o = true ∧ hopOf o k = ⟨into (tw o k), k.pt, k.ps⟩ := by
  unfold tw at h ⊢
  unfold hopOf other
  by_cases hx : k.x = o
  · rw [if_pos hx, if_pos hx]; exact ⟨by rw [has_iff]; exact .inl hx, rfl⟩
  · rw [if_neg hx] at h
    rw [if_neg hx, if_neg hx]
    by_cases hy : k.y = o
    · rw [if_pos hy]; exact ⟨by rw [has_iff]; exact .inr hy, rfl⟩
    · rw [if_neg hy] at h; exact absurd h (by decide)
theorem more_yes {L : List Lnk} {k : Nat} {x : Lnk} {s : Lay.Step} {o : Lay.End} (ho : out s = o) (h : hops (L.take (k + 1)) s = hops (L.take k) s ++ if has x (out s) = true then [hopOf (out s) x] else []) (ht : 0 ≤ (tw o x).1) : hops (L.take k) s ++ [⟨into (tw o x), x.pt, x.ps⟩] = hops (L.take (k + 1)) s := by
  obtain ⟨h1, h2⟩ := tw_yes ht
  rw [h, ho, if_pos h1, h2]
theorem more_no {L : List Lnk} {k : Nat} {x : Lnk} {s : Lay.Step} {o : Lay.End} {n p : Nat} (ho : out s = o) (h : hops (L.take (k + 1)) s = hops (L.take k) s ++ if has x (out s) = true then [hopOf (out s) x] else []) (hi : inr n p x = true) (ht : ¬ 0 ≤ (tw o x).1) : hops (L.take k) s = hops (L.take (k + 1)) s := by
  rw [h, ho, tw_no hi ht, if_neg (by decide), List.append_nil]

theorem tw_eq (o1 o2 ka kae kb kbe kpt kps : Int) : tw (o1, o2) ⟨ka, kae, kb, kbe, kpt, kps⟩ = if (ka == o1 && kae == o2) = true then (kb, kbe) else if (kb == o1 && kbe == o2) = true then (ka, kae) else (-1, 0) := by
  unfold tw Lnk.x Lnk.y
  simp only [Prod.mk.injEq, Bool.and_eq_true, beq_iff_eq]
theorem own_low {α : Type} {R : Rec α} {w : World} {base n e j : Nat} {x u : Value} {L : List α} (h : Own R w base x n L) (hl : ∀ k, x.ownBlock = some k → k < e) : Own R (w.setCell ⟨e, j, none⟩ u) base x n L :=
  h.grown (row := some e) (grown_set (World.grownBy.refl w _) _) (by
    cases hx : x.ownBlock with
    | none => exact .inl rfl
    | some k => exact .inr (fun e2 => by injection e2 with e2; have := hl k hx; omega))
theorem set_two {w3 w5 : World} {T R n : Nat} {v : Value} {L : List Hop} {kk : Lnk} {t : TypeId} (h : w5.heap[T]? = some (.cells #[.int .i64 (-1), .int .i64 0] t (0, 0))) (hl : Row6 w5 R kk) (hRT : R ≠ T) (hO : Own hopR w5 w3.heap.size v n L) (hv : ∀ g, v.ownBlock = some g → g < T)
    (hb : Below w3.heap.size w3 w5) (hT : w3.heap.size ≤ T) (u1 u2 : Int) :
    Row2 ((w5.setCell ⟨T, 0, none⟩ (.int .i64 u1)).setCell ⟨T, 1, none⟩ (.int .i64 u2)) T u1 u2 ∧ Row6 ((w5.setCell ⟨T, 0, none⟩ (.int .i64 u1)).setCell ⟨T, 1, none⟩ (.int .i64 u2)) R kk ∧ Own hopR ((w5.setCell ⟨T, 0, none⟩ (.int .i64 u1)).setCell ⟨T, 1, none⟩ (.int .i64 u2)) w3.heap.size v n L ∧ Below w3.heap.size w3 ((w5.setCell ⟨T, 0, none⟩ (.int .i64 u1)).setCell ⟨T, 1, none⟩ (.int .i64 u2)) := by
  have g : ((w5.setCell ⟨T, 0, none⟩ (.int .i64 u1)).setCell ⟨T, 1, none⟩ (.int .i64 u2)).heap[T]? = some (.cells #[.int .i64 u1, .int .i64 u2] t (0, 0)) := by simp [World.setCell, Array.getElem?_modify, h]
  have go : ∀ j, ((w5.setCell ⟨T, 0, none⟩ (.int .i64 u1)).setCell ⟨T, 1, none⟩ (.int .i64 u2)).cell? ⟨R, j, none⟩ = w5.cell? ⟨R, j, none⟩ := fun j =>
    (World.cell?_setCell_other _ _ _ _ (fun e => hRT (by have := congrArg Addr.block e; simp at this; omega))).trans (World.cell?_setCell_other _ _ _ _ (fun e => hRT (by have := congrArg Addr.block e; simp at this; omega)))
  obtain ⟨k0, k1, k2, k3, k4, k5⟩ := hl
  exact ⟨⟨by simp [World.cell?, g], by simp [World.cell?, g]⟩, ⟨(go 0).trans k0, (go 1).trans k1, (go 2).trans k2, (go 3).trans k3, (go 4).trans k4, (go 5).trans k5⟩, own_low (own_low hO hv) hv, (hb.setCell (p := ⟨T, 0, none⟩) hT _).setCell (p := ⟨T, 1, none⟩) hT _⟩

set_option maxRecDepth 100000 in
set_option maxHeartbeats 4000000 in
theorem r_hops_of (v : LV) (l : Lay) (s : Lay.Step) (w : World) (hL : RdL w w.heap.size v l) (hc : check l = 0) : Calls Tryd.prog 53 #[v.val, .agg #[.int .i64 s.1, .int .i64 s.2]] w (HopsPost (hops l.links s) w) := by
  obtain ⟨ih, hih, hz0, hz1, hz2⟩ := info_parts infoHop
  obtain ⟨W, hW⟩ : ∃ W, (w.alloc (.cells #[.slice v.A1 v.n1 v.c1, .slice v.A2 v.n2 v.c2, .slice v.A3 v.n3 v.c3, .slice v.A4 v.n4 v.c4] 26)).alloc (.cells #[.int .i64 s.1, .int .i64 s.2] 28) = W := ⟨_, rfl⟩
  have hbW : Below w.heap.size w W := by rw [← hW]; exact ((Below.refl _ _).alloc (Nat.le_refl _) _).alloc (by simp) _
  have hzW : w.heap.size + 1 < W.heap.size := by rw [← hW]; simp
  have HSt : Hid (Row2 W (w.heap.size + 1) s.1 s.2) := by rw [Hid, ← hW]; unfold Row2; simp
  have HBX : Hid (W.cell? ⟨w.heap.size, 3, none⟩ = some (.slice v.A4 v.n4 v.c4)) := by rw [Hid, ← hW]; simp
  have hn4 : v.n4 ≤ 192 := by have := LayT.limits hc; have := hL.lnk.1; omega
  have HGd := Lib.hid (good_links l hc)
  obtain ⟨W1, hW1⟩ : ∃ W1, W.alloc (.cells #[.int .i64 s.1, .int .i64 1] 137) = W1 := ⟨_, rfl⟩
  have hb1 : Below W.heap.size W W1 := by rw [← hW1]; exact (Below.refl _ _).alloc (Nat.le_refl _) _
  have hz1' : W.heap.size < W1.heap.size := by rw [← hW1]; simp
  have HO1 : Hid (Row2 W1 W.heap.size s.1 1) := by rw [Hid, ← hW1]; unfold Row2; simp
  have hf1 : W1.frozen? ⟨W.heap.size, 1, none⟩ = false := by rw [← hW1]; simp
  have HSt1 := Lib.hid (HSt.out.below hb1 hzW)
  have HBX1 : Hid (W1.cell? ⟨w.heap.size, 3, none⟩ = some (.slice v.A4 v.n4 v.c4)) := (hb1.cell (p := ⟨w.heap.size, 3, none⟩) (by simp; omega)).trans HBX.out
  have HR1 := Lib.hid (hL.lnk.grow (hbW.trans (hb1.mono hbW.size)) (show w.heap.size ≤ W1.heap.size by omega))
  have hbw1 := hbW.trans (hb1.mono hbW.size)
  obtain ⟨A1, n1, c1, A2, n2, c2, A3, n3, c3, A4, n4, c4⟩ := v
  obtain ⟨x, y⟩ := s
  simp only [LV.val] at *
  obtain ⟨o1, o2, ho⟩ : ∃ o1 o2, out (x, y) = (o1, o2) := ⟨_, _, rfl⟩
  have HO := Lib.hid ho
  have hoo : (y == 1) = true ∧ o1 = x ∧ o2 = 0 ∨ (y == 1) = false ∧ o1 = x ∧ o2 = 1 := by
    unfold out at ho
    by_cases hy : y = 1
    · rw [if_pos hy] at ho; simp only [Prod.mk.injEq] at ho; exact .inl ⟨by simp [hy], ho.1.symm, ho.2.symm⟩
    · rw [if_neg hy] at ho; simp only [Prod.mk.injEq] at ho; exact .inr ⟨by simp [hy], ho.1.symm, ho.2.symm⟩
  have HHH := Lib.hid hW
  have HHH1 := Lib.hid hW1
  clear hc ho hb1 hbW HBX hW hW1
  go_enter Tryd.func53, Tryd.ntmps53
  go_upto_region 1 with fail
  rw [HHH.out]
  obtain ⟨q0, q1⟩ := HSt.out
  go_upto_region 2 with fail
  rw [HHH1.out]
  clear q0 q1
  have hlk := hL.lnk
  obtain ⟨q0, q1⟩ := HSt1.out
  obtain ⟨r0, r1⟩ := HO1.out
  rcases hoo with ⟨hy, e1, e2⟩ | ⟨hy, e1, e2⟩
  case' inl =>
    obtain ⟨w3, hw3⟩ : ∃ w3, W1.setCell ⟨W.heap.size, 1, none⟩ (.int .i64 0) = w3 := ⟨_, rfl⟩
    have hrow : Row2 w3 W.heap.size o1 o2 := by rw [e1, e2, ← hw3]; exact ⟨(set_other (by omega)).trans HO1.out.1, set_same HO1.out.2⟩
    have hbx : w3.cell? ⟨w.heap.size, 3, none⟩ = some (.slice A4 n4 c4) := by rw [← hw3]; exact (World.cell?_setCell_other _ _ _ _ (fun e => by have := congrArg Addr.block e; simp at this; omega)).trans HBX1.out
    have hbw3 : Below w.heap.size w w3 := by rw [← hw3]; exact hbw1.setCell (p := ⟨W.heap.size, 1, none⟩) (by show w.heap.size ≤ W.heap.size; omega) _
    have hoz : W.heap.size < w3.heap.size := by rw [← hw3]; simpa using hz1'
    have HW3 := Lib.hid hw3
    clear hw3
    go_upto_region 4 with fail
    rw [HW3.out]
    clear HW3
  case' inr =>
    obtain ⟨w3, hw3⟩ : ∃ w3, W1 = w3 := ⟨_, rfl⟩
    have hrow : Row2 w3 W.heap.size o1 o2 := by rw [e1, e2, ← hw3]; exact HO1.out
    have hbx : w3.cell? ⟨w.heap.size, 3, none⟩ = some (.slice A4 n4 c4) := by rw [← hw3]; exact HBX1.out
    have hbw3 : Below w.heap.size w w3 := by rw [← hw3]; exact hbw1
    have hoz : W.heap.size < w3.heap.size := by rw [← hw3]; exact hz1'
    have HW3 := Lib.hid hw3
    clear hw3
    go_upto_region 4 with fail
    rw [HW3.out]
    clear HW3
  all_goals (
    clear q0 q1 r0 r1 hy e1 e2
    have hrd : Rd lnkR w3 w3.heap.size A4 n4 l.links := hlk.grow hbw3 hbw3.size
    clear HSt1 HO1 HBX1 HR1 hbw1 hz1' hf1 hzW hlk HSt HHH HHH1
    generalize W.heap.size = oo at *
    have HE3 := Lib.hid hrow
    have HBX3 := Lib.hid hbx
    have HR3 := Lib.hid hrd
    have hwz := hbw3.size
    have hw3w : w.heap.size < w3.heap.size := World.block_lt_of_cell? _ _ hbx
    have HS0 : Hid (hops (l.links.take 0) (x, y) = []) := rfl
    clear hrow hbx hrd
    go_wp2_with fail
    go_loopw [6, 7] (fun h i wr => ∃ (k n c : Nat) (A : Option Addr) (L : List Hop), k ≤ n4 ∧ n ≤ k ∧ i = .int .i64 k ∧ h = .slice A n c ∧ Own hopR wr w3.heap.size (.slice A n c) n L ∧ Hid (L = hops (l.links.take k) (x, y)) ∧ Below w3.heap.size w3 wr) (fun _ i _ => n4 - (intOf i).toNat)
    case atStart => exact ⟨0, 0, 0, none, [], by omega, by omega, rfl, rfl, Own.nil _ _, HS0.out.symm, Below.refl _ _⟩
    case round =>
      obtain ⟨k, n, c, A, L, hk, hnk, rfl, rfl, hO, HL, hbr⟩ := hrel
      clear HS0
      have hzr := hbr.size
      have c3' : wr.cell? ⟨w.heap.size, 3, none⟩ = some (.slice A4 n4 c4) := (hbr.cell (p := ⟨w.heap.size, 3, none⟩) (by simp; omega)).trans HBX3.out
      by_cases hlt : k < n4
      · obtain ⟨ad, kk, rfl, hab, hkk, d0, d1, d2, d3, d4, d5⟩ := loadLnk (HR3.out.below hbr) hlt
        have hkn : (k : Int) < (n4 : Int) := by omega
        have HST := Lib.hid (hops_step (x, y) hkk)
        have hin := HGd.out.range kk (List.mem_of_getElem? hkk)
        obtain ⟨ka, kae, kb, kbe, kpt, kps⟩ := kk
        obtain ⟨wa, hwa⟩ : ∃ wa, wr.alloc (.cells #[.int .i64 ka, .int .i64 kae, .int .i64 kb, .int .i64 kbe, .int .i64 kpt, .int .i64 kps] 64) = wa := ⟨_, rfl⟩
        have hba : Below wr.heap.size wr wa := by rw [← hwa]; exact (Below.refl _ _).alloc (Nat.le_refl _) _
        have hza : wr.heap.size < wa.heap.size := by rw [← hwa]; simp
        have hla : Row6 wa wr.heap.size ⟨ka, kae, kb, kbe, kpt, kps⟩ := by rw [← hwa]; unfold Row6; simp
        obtain ⟨w5, hw5⟩ : ∃ w5, wa.alloc (.cells #[.int .i64 (-1), .int .i64 0] 137) = w5 := ⟨_, rfl⟩
        have hb5 : Below wa.heap.size wa w5 := by rw [← hw5]; exact (Below.refl _ _).alloc (Nat.le_refl _) _
        have hz5 : wa.heap.size < w5.heap.size := by rw [← hw5]; simp
        have ht5 : w5.heap[wa.heap.size]? = some (.cells #[.int .i64 (-1), .int .i64 0] 137 (0, 0)) := by rw [← hw5]; exact heap_alloc_new _ _
        have hb5r := hb5.mono (show wr.heap.size ≤ wa.heap.size by omega)
        have HIn := Lib.hid hin
        have HO5 := Lib.hid (hO.below (hba.trans hb5r) (Nat.le_refl _))
        have HAlt : Hid (∀ g, (Value.slice A n c).ownBlock = some g → g < wr.heap.size) := fun g hg => (hO.2.lt g hg).2
        have HB5 := Lib.hid (hbr.trans ((hba.trans hb5r).mono hzr))
        have HE5 := Lib.hid ((HE3.out.below hbr hoz).below (hba.trans hb5r) (by omega))
        have HL5 := Lib.hid (hla.below hb5 hza)
        have HT5 := Lib.hid ht5
        have hwa' := Lib.hid hwa
        have hw5' := Lib.hid hw5
        obtain ⟨t1, t2, htw⟩ : ∃ t1 t2, Hid (tw (o1, o2) ⟨ka, kae, kb, kbe, kpt, kps⟩ = (t1, t2)) := ⟨_, _, rfl⟩
        clear hkk hin hO hwa hw5 hla ht5 hb5 hba hb5r
        simp only at d0 d1 d2 d3 d4 d5
        go_upto_region 9 with fail
        rw [hwa'.out]
        clear d0 d1 d2 d3 d4 d5 c3'
        go_upto_block 2 with fail
        rw [hw5'.out]
        clear hwa' hw5'
        generalize wr.heap.size = R at *
        generalize wa.heap.size = T at *
        go_cut [31] from 32 to 67 (fun _ wx => Row2 wx T t1 t2 ∧ Row6 wx R ⟨ka, kae, kb, kbe, kpt, kps⟩ ∧ Own hopR wx w3.heap.size (.slice A n c) n L ∧ Below w3.heap.size w3 wx)
        case first =>
          have e := htw.out
          rw [tw_eq] at e
          obtain ⟨q0, q1⟩ := HE5.out
          have HSW := Lib.hid (fun u1 u2 => set_two HT5.out HL5.out (by omega) HO5.out (fun g hg => by have := HAlt.out g hg; omega) HB5.out (by omega) u1 u2)
          have tc0 : w5.cell? ⟨T, 0, none⟩ = some (.int .i64 (-1)) := by simp [World.cell?, HT5.out]
          have tc1 : w5.cell? ⟨T, 1, none⟩ = some (.int .i64 0) := by simp [World.cell?, HT5.out]
          have tf0 : w5.frozen? ⟨T, 0, none⟩ = false := by simp [World.frozen?, HT5.out]
          have tf1 : w5.frozen? ⟨T, 1, none⟩ = false := by simp [World.frozen?, HT5.out]
          have HNO : Hid (Row2 w5 T (-1) 0 ∧ Row6 w5 R ⟨ka, kae, kb, kbe, kpt, kps⟩ ∧ Own hopR w5 w3.heap.size (.slice A n c) n L ∧ Below w3.heap.size w3 w5) := ⟨⟨tc0, tc1⟩, HL5.out, HO5.out, HB5.out⟩
          obtain ⟨k0, k1, k2, k3, k4, k5⟩ := HL5.out
          simp only at k0 k1 k2 k3
          clear k4 k5 HE5 HL5 HO5 HT5 HB5
          cases hA : (ka == o1) <;> cases hA2 : (kae == o2) <;> cases hB : (kb == o1) <;> cases hB2 : (kbe == o2)
          all_goals (
            rw [hA, hA2, hB, hB2] at e
            simp only [Bool.and_true, Bool.and_false, Bool.false_eq_true, if_true, if_false, Prod.mk.injEq] at e
            obtain ⟨e1, e2⟩ := e
            clear htw
            subst e1 e2
            go_wp2_with fail
            go_meet
            first | exact HNO.out | exact HSW.out _ _)
        case rest =>
          obtain ⟨hrow, hlnk, hOc, hbc⟩ := hcut
          obtain ⟨r0, r1⟩ := hrow
          obtain ⟨k0, k1, k2, k3, k4, k5⟩ := hlnk
          simp only at k4 k5
          clear k0 k1 k2 k3
          have hbz := hbc.size
          have hn63 : n + 1 ≤ maxLen := by unfold maxLen; omega
          have hby : (n + 1) * 32 ≤ 140737488355328 := by omega
          by_cases ht : 0 ≤ t1
          · cases hd : (t2 == 1) with
            | true =>
              have hdw : (⟨into (tw (o1, o2) ⟨ka, kae, kb, kbe, kpt, kps⟩), kpt, kps⟩ : Hop) = ⟨(t1, 1), kpt, kps⟩ := by
                rw [htw.out]; unfold into; simp only [Hop.mk.injEq, and_true]
                rw [if_pos (by simpa using hd)]
              have HLX : Hid (L ++ [⟨(t1, 1), kpt, kps⟩] = hops (l.links.take (k + 1)) (x, y)) := by
                rw [Hid, HL.out, ← hdw]; exact more_yes HO.out HST.out (by rw [htw.out]; exact ht)
              clear hdw
              go_wp2_with (at_builtin; refine wpList_append_own _ rfl _ _ 50 rfl w3.heap.size 49 ih _ 4 32 Tryd.underlying50 hih hz0 hz1 hz2 rfl (by omega) (.slice A n c) n (hopR.cs L) rfl (hOc.2.alloc _) ⟨wc.heap.size, 0, none⟩ 1 1 [.int .i64 t1, .int .i64 1, .int .i64 kpt, .int .i64 kps] rfl rfl (World.news_of_block (cs := #[.int .i64 t1, .int .i64 1, .int .i64 kpt, .int .i64 kps]) (t := 49) (fr := (0, 0)) (heap_alloc_new _ _)) (by simp [Value.oneCell']) hn63 hby (by simp; omega) ?_)
              intro v7 w7 hown7 hgrow7 _
              have hO7 := Own.push (R := hopR) (a := ⟨(t1, 1), kpt, kps⟩) hOc.1 hown7
              have hb7 := (hbc.alloc hbc.size (.cells #[.int .i64 t1, .int .i64 1, .int .i64 kpt, .int .i64 kps] 49)).grown hgrow7 (by have := hbc.size; simp; omega) (fun k hk => (hOc.2.lt k hk).1)
              obtain ⟨A', c7, rfl, _⟩ := hO7.form
              clear hown7 hgrow7
              have HO7 := Lib.hid hO7
              have HB7 := Lib.hid hb7
              clear hO7 hb7
              go_wp2_with fail
              go_roundw
              case rel => exact ⟨k + 1, n + 1, c7, A', L ++ [⟨(t1, 1), kpt, kps⟩], by omega, by omega, by go_num, rfl, HO7.out, HLX, HB7.out⟩
              case measure => simp [intOf]; omega
            | false =>
              have hdw : (⟨into (tw (o1, o2) ⟨ka, kae, kb, kbe, kpt, kps⟩), kpt, kps⟩ : Hop) = ⟨(t1, 0), kpt, kps⟩ := by
                rw [htw.out]; unfold into; simp only [Hop.mk.injEq, and_true]
                rw [if_neg (by simpa using hd)]
              have HLX : Hid (L ++ [⟨(t1, 0), kpt, kps⟩] = hops (l.links.take (k + 1)) (x, y)) := by
                rw [Hid, HL.out, ← hdw]; exact more_yes HO.out HST.out (by rw [htw.out]; exact ht)
              clear hdw
              go_wp2_with (at_builtin; refine wpList_append_own _ rfl _ _ 50 rfl w3.heap.size 49 ih _ 4 32 Tryd.underlying50 hih hz0 hz1 hz2 rfl (by omega) (.slice A n c) n (hopR.cs L) rfl (hOc.2.alloc _) ⟨wc.heap.size, 0, none⟩ 1 1 [.int .i64 t1, .int .i64 0, .int .i64 kpt, .int .i64 kps] rfl rfl (World.news_of_block (cs := #[.int .i64 t1, .int .i64 0, .int .i64 kpt, .int .i64 kps]) (t := 49) (fr := (0, 0)) (heap_alloc_new _ _)) (by simp [Value.oneCell']) hn63 hby (by simp; omega) ?_)
              intro v7 w7 hown7 hgrow7 _
              have hO7 := Own.push (R := hopR) (a := ⟨(t1, 0), kpt, kps⟩) hOc.1 hown7
              have hb7 := (hbc.alloc hbc.size (.cells #[.int .i64 t1, .int .i64 0, .int .i64 kpt, .int .i64 kps] 49)).grown hgrow7 (by have := hbc.size; simp; omega) (fun k hk => (hOc.2.lt k hk).1)
              obtain ⟨A', c7, rfl, _⟩ := hO7.form
              clear hown7 hgrow7
              have HO7 := Lib.hid hO7
              have HB7 := Lib.hid hb7
              clear hO7 hb7
              go_wp2_with fail
              go_roundw
              case rel => exact ⟨k + 1, n + 1, c7, A', L ++ [⟨(t1, 0), kpt, kps⟩], by omega, by omega, by go_num, rfl, HO7.out, HLX, HB7.out⟩
              case measure => simp [intOf]; omega
          · have HLX : Hid (L = hops (l.links.take (k + 1)) (x, y)) := by
              rw [Hid, HL.out]; exact more_no HO.out HST.out HIn.out.1 (by rw [htw.out]; exact ht)
            have HOc := Lib.hid hOc
            have HBc := Lib.hid hbc
            clear hOc hbc
            go_wp2_with fail
            go_roundw
            case rel => exact ⟨k + 1, n, c, A, L, by omega, by omega, by go_num, rfl, HOc.out, HLX, HBc.out⟩
            case measure => simp [intOf]; omega
      · have hkn : ¬ (k : Int) < (n4 : Int) := by omega
        have HX : Hid (L = hops l.links (x, y)) := by rw [Hid, HL.out, List.take_of_length_le (by have := HR3.out.1; omega)]
        go_wp2_with fail
        go_ret
        exact ⟨A, n, c, rfl, by rw [← HX.out]; exact hO.base_ (by omega), hbw3.trans (hbr.mono (by omega))⟩)
end Go.Proofs.YtkfobijgjdgbgaaDoor.RHopsF
