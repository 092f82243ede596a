/-
  Contract of the program's function that checks the links of a layout.
-/
import Derived.Test.YtkfobijgjdgbgaaDoorPTab
import Derived.Test.YtkfobijgjdgbgaaDoorLayT
namespace Go.Proofs.YtkfobijgjdgbgaaDoor.PLnk
open Go.ChangeShapes Go.WideShapes Go.ChangeAt Go.RowKit Wd Small Mem Lay LayT Recs Keep Names PNames PSecs PLinks PEnds PTab
set_option linter.unusedVariables false

theorem linkErr_range {n p : Nat} {done : List Lnk} {x : Lnk} (h : lin n p x = false) : linkErr n p done x = 4 := by
  rw [lin_eq] at h
  unfold linkErr; rw [if_pos h]
theorem linkErr_same {n p : Nat} {done : List Lnk} {x : Lnk} (h : lin n p x = true) (h2 : x.x = x.y) : linkErr n p done x = 1 := by
  rw [lin_eq] at h
  unfold linkErr; rw [if_neg (by rw [h]; decide), if_pos h2]
theorem linkErr_dup {n p : Nat} {done : List Lnk} {x : Lnk} (h : lin n p x = true) (h2 : x.x ≠ x.y) (h3 : (done.any fun j => has j x.x && has j x.y) = true) : linkErr n p done x = 5 := by
  rw [lin_eq] at h
  unfold linkErr; rw [if_neg (by rw [h]; decide), if_neg h2, if_pos h3]
theorem linkErr_free {n p : Nat} {done : List Lnk} {x : Lnk} (h : lin n p x = true) (h2 : x.x ≠ x.y) (h3 : (done.any fun j => has j x.x && has j x.y) = false) (h4 : (free done x x.x && free done x x.y) = false) : linkErr n p done x = 11 := by
  rw [lin_eq] at h
  unfold linkErr; rw [if_neg (by rw [h]; decide), if_neg h2, if_neg (by rw [h3]; decide), if_neg (by rw [h4]; decide)]
theorem linkErr_ok {n p : Nat} {done : List Lnk} {x : Lnk} (h : lin n p x = true) (h2 : x.x ≠ x.y) (h3 : (done.any fun j => has j x.x && has j x.y) = false) (h4 : (free done x x.x && free done x x.y) = true) : linkErr n p done x = 0 := by
  rw [lin_eq] at h
  unfold linkErr; rw [if_neg (by rw [h]; decide), if_neg h2, if_neg (by rw [h3]; decide), if_pos h4]
theorem free_one {done : List Lnk} {k : Lnk} {e : Lay.End} (h : free done k e = true) : (done.filter (has · e)).length ≤ 1 := (free_iff done k e h).1
/-- a row of cells in block g -/
def Row2 (w : World) (g : Nat) (a b : Int) : Prop := w.cell? ⟨g, 0, none⟩ = some (.int .i64 a) ∧ w.cell? ⟨g, 1, none⟩ = some (.int .i64 b)
def Row6 (w : World) (g : Nat) (k : Lnk) : Prop := w.cell? ⟨g, 0, none⟩ = some (.int .i64 k.a) ∧ w.cell? ⟨g, 1, none⟩ = some (.int .i64 k.ae) ∧ w.cell? ⟨g, 2, none⟩ = some (.int .i64 k.b) ∧ w.cell? ⟨g, 3, none⟩ = some (.int .i64 k.be) ∧
  w.cell? ⟨g, 4, none⟩ = some (.int .i64 k.pt) ∧ w.cell? ⟨g, 5, none⟩ = some (.int .i64 k.ps)
theorem Row2.below {w w' : World} {B g : Nat} {a b : Int} (h : Row2 w g a b) (hb : Below B w w') (hg : g < B) : Row2 w' g a b :=
  ⟨(hb.cell (p := ⟨g, 0, none⟩) hg).trans h.1, (hb.cell (p := ⟨g, 1, none⟩) hg).trans h.2⟩
theorem Row6.below {w w' : World} {B g : Nat} {k : Lnk} (h : Row6 w g k) (hb : Below B w w') (hg : g < B) : Row6 w' g k :=
  ⟨(hb.cell (p := ⟨g, 0, none⟩) hg).trans h.1, (hb.cell (p := ⟨g, 1, none⟩) hg).trans h.2.1, (hb.cell (p := ⟨g, 2, none⟩) hg).trans h.2.2.1, (hb.cell (p := ⟨g, 3, none⟩) hg).trans h.2.2.2.1, (hb.cell (p := ⟨g, 4, none⟩) hg).trans h.2.2.2.2.1, (hb.cell (p := ⟨g, 5, none⟩) hg).trans h.2.2.2.2.2⟩

theorem Row2.grown {w w' : World} {g h : Nat} {a b : Int} (hr : Row2 w h a b) (hg : w.grownBy w' (some g)) (hl : h < w.heap.size) (hne : h ≠ g) : Row2 w' h a b :=
  ⟨(grown_cell (p := ⟨h, 0, none⟩) hg hl (by simpa using hne)).trans hr.1, (grown_cell (p := ⟨h, 1, none⟩) hg hl (by simpa using hne)).trans hr.2⟩
theorem Row6.grown {w w' : World} {g h : Nat} {k : Lnk} (hr : Row6 w h k) (hg : w.grownBy w' (some g)) (hl : h < w.heap.size) (hne : h ≠ g) : Row6 w' h k := by
  have e : ∀ j, w'.cell? ⟨h, j, none⟩ = w.cell? ⟨h, j, none⟩ := fun j => grown_cell (p := ⟨h, j, none⟩) hg hl (by simpa using hne)
  unfold Row6
  simp only [e]
  exact hr
theorem add_other {w w' : World} {r : Ending} {g o o' n m : Nat} {a0 b0 a1 b1 p q x y pt ps c0 d0 c1 d1 p0 q0 : Int} (h : AddPost g o n a0 b0 a1 b1 p q x y pt ps w r w') (hS : Seven w g o' m c0 d0 c1 d1 p0 q0) (hd : o' + 7 ≤ o ∨ o + 7 ≤ o') : Seven w' g o' m c0 d0 c1 d1 p0 q0 := by
  obtain ⟨_, _, B2, _, _⟩ := h
  obtain ⟨k0, k1, k2, k3, k4, k5, k6⟩ := hS
  exact ⟨(B2 _ (by omega)).trans k0, (B2 _ (by omega)).trans k1, (B2 _ (by omega)).trans k2, (B2 _ (by omega)).trans k3, (B2 _ (by omega)).trans k4, (B2 _ (by omega)).trans k5, (B2 _ (by omega)).trans k6⟩

set_option maxRecDepth 100000 in
set_option maxHeartbeats 4000000 in
theorem check_links (v : LV) (l : Lay) (w : World) (hL : RdL w w.heap.size v l) (hn : v.n4 ≤ 1000) (hn3 : v.n3 ≤ 96) : Calls Tryd.prog 32 #[v.val] w (ErrPost (linksErr v.n3 v.n2 [] l.links) w) := by
  have hR := hL.lnk
  clear hL
  have HSP := Lib.hid (fun s => is_link v s)
  obtain ⟨W, hW, HZ, HB0, HC0⟩ := boxed v w
  have HC := Lib.hid HC0
  have hr := hR.grow HB0 (show w.heap.size ≤ W.heap.size by have := HB0.size; omega)
  have hgW : w.heap.size < W.heap.size := by rw [HZ.out]; omega
  have HB := Lib.hid HB0
  clear hR HB0 HC0
  have hkeep : ∀ wr, Below W.heap.size W wr → _ := fun wr hb => box_kept hb hgW HC.out
  have HK := Lib.hid hkeep
  obtain ⟨c0, c1', c2', c3'⟩ := HC.out
  obtain ⟨A1, n1, c1, A2, n2, c2, A3, n3, c3, A4, n4, c4⟩ := v
  simp only [LV.val] at *
  have E : Hid (linksErr n3 n2 [] l.links = linksErr n3 n2 (l.links.take 0) (l.links.drop 0)) := rfl
  have HT := Lib.hid (Tab.new W)
  have HBM := Lib.hid ((Below.refl W.heap.size W).alloc (Nat.le_refl _) (.cells Tryd.zeroCells112 112))
  have HG : Hid (Lay.Good n3 n2 (l.links.take 0)) := ⟨nofun, List.Pairwise.nil, by simp⟩
  clear hkeep
  go_enter Tryd.func32, Tryd.ntmps32
  go_upto_region 1 with fail
  clear hW
  have hsz1 : W.heap.size < (W.alloc (.cells Tryd.zeroCells112 112)).heap.size := by simp
  go_wp2_with fail
  clear c0 c1' c2' c3'
  go_loopw [13] (fun i wr => ∃ (k : Nat), k ≤ n4 ∧ i = .int .i64 k ∧ Tab wr W.heap.size (l.links.take k) ∧ Hid (Lay.Good n3 n2 (l.links.take k)) ∧ Hid (linksErr n3 n2 [] l.links = linksErr n3 n2 (l.links.take k) (l.links.drop k)) ∧ Below W.heap.size W wr ∧ W.heap.size < wr.heap.size) (fun i _ => n4 - (intOf i).toNat)
  case atStart => exact ⟨0, Nat.zero_le _, rfl, HT.out, HG, E, HBM.out, hsz1⟩
  case round =>
    obtain ⟨k, hk, rfl, hT, HGk, HE, hbw, hsz⟩ := hrel
    clear HT HBM E HG hsz1
    have hzW := hbw.size
    by_cases hlt : k < n4
    · obtain ⟨ad, x, rfl, hab, hx, d0, d1, d2, d3, d4, d5⟩ := loadLnk (hr.below hbw) hlt
      obtain ⟨c0, c1', c2', c3'⟩ := HK.out wr hbw
      have HX := Lib.hid (HE.out.trans (links_step hx))
      have HTk := Lib.hid (take_succ hx)
      have HTab := Lib.hid hT
      clear HE hr hT hx
      obtain ⟨wa, hwa⟩ : ∃ wa, wr.alloc (.cells #[.int .i64 x.a, .int .i64 x.ae, .int .i64 x.b, .int .i64 x.be, .int .i64 x.pt, .int .i64 x.ps] 64) = wa := ⟨_, rfl⟩
      have hba : Below wr.heap.size wr wa := by rw [← hwa]; exact (Below.refl _ _).alloc (Nat.le_refl _) _
      have hbwa := hbw.trans (hba.mono hzW)
      have hza : wr.heap.size < wa.heap.size := by rw [← hwa]; simp
      have HL6 : Hid (Row6 wa wr.heap.size x) := by rw [Hid, ← hwa]; unfold Row6; simp
      have HSPx := Lib.hid (HSP.out x)
      cases hI : lin n3 n2 x with
      | false =>
        have HX2 : Hid (linksErr n3 n2 [] l.links = 4) := by rw [Hid, HX.out, linkErr_range hI, if_neg (by decide)]
        rw [hI] at HSPx
        clear hI
        obtain ⟨xa, xae, xb, xbe, xpt, xps⟩ := x
        go_upto_region 5 with fail
        clear hwa c0 c1' c2' c3'
        obtain ⟨c0, c1', c2', c3'⟩ := HK.out wa hbwa
        obtain ⟨k0, k1, k2, k3, k4, k5⟩ := HL6.out
        go_wp2_with fail
        refine (HSPx.out _).mono ?_
        rintro e w1 ⟨rfl, hb1⟩
        go_wp2_with fail
        go_ret
        exact ⟨ret1 HX2.out.symm, HB.out.trans ((hbwa.trans (hb1.mono (by omega))).mono (by omega))⟩
      | true =>
        obtain ⟨g1, g2, g3, g4, g5, g6, g7, g8, g9, g10, g11, g12, g13⟩ := inr_range ((lin_eq n3 n2 x).symm.trans hI)
        obtain ⟨xa, xae, xb, xbe, xpt, xps⟩ := x
        simp only at g1 g2 g3 g4 g5 g6 g7 g8 g9 g10 g11 g12 g13
        obtain ⟨s, rfl⟩ : ∃ s : Nat, xa = s := ⟨xa.toNat, by omega⟩
        obtain ⟨e, rfl⟩ : ∃ e : Nat, xae = e := ⟨xae.toNat, by omega⟩
        obtain ⟨s', rfl⟩ : ∃ s' : Nat, xb = s' := ⟨xb.toNat, by omega⟩
        obtain ⟨e', rfl⟩ : ∃ e' : Nat, xbe = e' := ⟨xbe.toNat, by omega⟩
        have hs : s < 96 := by omega
        have he : e < 2 := by omega
        have hs' : s' < 96 := by omega
        have he' : e' < 2 := by omega
        have HI := Lib.hid hI
        rw [hI] at HSPx
        clear hI g1 g2 g3 g4 g5 g6 g7 g8 g10 g11 g12 g13
        go_upto_region 5 with fail
        clear hwa c0 c1' c2' c3' d0 d1 d2 d3 d4 d5
        obtain ⟨c0, c1', c2', c3'⟩ := HK.out wa hbwa
        obtain ⟨k0, k1, k2, k3, k4, k5⟩ := HL6.out
        go_wp2_with fail
        refine (HSPx.out _).mono ?_
        rintro e1 w1 ⟨rfl, hb1⟩
        have hb1w := hbwa.trans (hb1.mono (by omega))
        have hz1 := hb1.size
        have HT1 := Lib.hid ((HTab.out.below hba hsz).below hb1 (by omega))
        have HL1 := Lib.hid (HL6.out.below hb1 hza)
        clear c0 c1' c2' c3' k0 k1 k2 k3 k4 k5 HL6 hb1
        obtain ⟨k0, k1, k2, k3, k4, k5⟩ := HL1.out
        go_wp2_with fail
        refine (ends_of ⟨s, e, s', e', xpt, xps⟩ _).mono ?_
        rintro e1 w2 ⟨rfl, hb2⟩
        have hb2w := hb1w.trans (hb2.mono (by omega))
        have hz2 := hb2.size
        have HT2 := Lib.hid (HT1.out.below hb2 (by omega))
        have HL2 := Lib.hid (HL1.out.below hb2 (by omega))
        clear k0 k1 k2 k3 k4 k5 HL1 HT1 hb2
        obtain ⟨w4, hw4⟩ : ∃ w4, (w2.alloc (.cells #[.int .i64 s, .int .i64 e] 91)).alloc (.cells #[.int .i64 s', .int .i64 e'] 91) = w4 := ⟨_, rfl⟩
        have hb4 : Below w2.heap.size w2 w4 := by rw [← hw4]; exact ((Below.refl _ _).alloc (Nat.le_refl _) _).alloc (by simp) _
        have hz4 : w2.heap.size + 1 < w4.heap.size := by rw [← hw4]; simp
        have hb4w := hb2w.trans (hb4.mono (by omega))
        have HT4 := Lib.hid (HT2.out.below hb4 (by omega))
        have HL4 := Lib.hid (HL2.out.below hb4 (by omega))
        have HA4 : Hid (Row2 w4 w2.heap.size s e) := by rw [Hid, ← hw4]; unfold Row2; simp
        have HB4 : Hid (Row2 w4 (w2.heap.size + 1) s' e') := by rw [Hid, ← hw4]; unfold Row2; simp
        clear HL2 HT2 hb4
        go_upto_region 8 with fail
        clear hw4
        obtain ⟨q0, q1⟩ := HA4.out
        obtain ⟨r0, r1⟩ := HB4.out
        go_quiet (fail)
        rename_i nq
        have hb5w := Mem.below_draws hb4w nq
        have HT5 : Hid (Tab (w4.drewN nq) W.heap.size (l.links.take k)) := HT4.out.below (B := w4.heap.size) (Mem.below_draws (Below.refl _ _) _) (by omega)
        have HL5 : Hid (Row6 (w4.drewN nq) wr.heap.size ⟨s, e, s', e', xpt, xps⟩) := HL4.out
        have HA5 : Hid (Row2 (w4.drewN nq) w2.heap.size s e) := HA4.out
        have HB5 : Hid (Row2 (w4.drewN nq) (w2.heap.size + 1) s' e') := HB4.out
        have hz5 : w4.heap.size ≤ (w4.drewN nq).heap.size := Nat.le_refl _
        clear q0 q1 r0 r1 HT4 HL4 HA4 HB4 hb4w
        generalize w4.drewN nq = w5 at *
        by_cases hEq : s = s' ∧ e = e'
        · obtain ⟨rfl, rfl⟩ := hEq
          have HX2 : Hid (linksErr n3 n2 [] l.links = 1) := by
            rw [Hid, HX.out, linkErr_same HI.out rfl, if_neg (by decide)]
          obtain ⟨q0, q1⟩ := HA5.out
          obtain ⟨r0, r1⟩ := HB5.out
          go_wp2_with fail
          go_ret
          exact ⟨ret1 HX2.out.symm, HB.out.trans (hb5w.mono (by omega))⟩
        · have HNE : Hid (en s e ≠ en s' e') := by
            intro h
            simp only [en, Prod.mk.injEq] at h
            exact hEq ⟨by omega, by omega⟩
          have hoff : s * 14 + e * 7 + 7 ≤ s' * 14 + e' * 7 ∨ s' * 14 + e' * 7 + 7 ≤ s * 14 + e * 7 := by
            rcases en_inj HNE.out with h | h <;> omega
          have hoff' : s' * 14 + e' * 7 + 7 ≤ s * 14 + e * 7 ∨ s * 14 + e * 7 + 7 ≤ s' * 14 + e' * 7 := hoff.symm
          obtain ⟨a0, b0, a1, b1, p, q, hS, hF⟩ := HT5.out.cell s e hs he
          obtain ⟨a0', b0', a1', b1', p', q', hS', hF'⟩ := HT5.out.cell s' e' hs' he'
          have hm := HGk.out.two (en s e)
          have hm' := HGk.out.two (en s' e')
          obtain ⟨x, hx⟩ : ∃ x : Lnk, x = ⟨s, e, s', e', xpt, xps⟩ := ⟨_, rfl⟩
          have HXX : Hid (x.x = en s e ∧ x.y = en s' e' ∧ x.pt = xpt ∧ x.ps = xps) := by rw [hx]; exact ⟨rfl, rfl, rfl, rfl⟩
          rw [← hx] at HX HTk HI
          have HLD : Hid (Calls Tryd.prog 64 #[.pointer (some ⟨W.heap.size, s * 14 + e * 7, none⟩), .agg #[.int .i64 s', .int .i64 e']] w5 (BoolPost ((l.links.take k).any fun j => has j x.x && has j x.y) w5)) := by
            have h1 := lead_to W.heap.size _ _ _ _ _ _ _ _ s' e' w5 hS hm
            have h2 := lead_eq (l.links.take k) (en s e) (en s' e') HNE.out hm hF
            rw [HXX.out.1, HXX.out.2.1, ← h2]
            exact h1
          have HA : Hid (∀ wx, Seven wx W.heap.size (s * 14 + e * 7) ((l.links.take k).filter (has · (en s e))).length a0 b0 a1 b1 p q → Calls Tryd.prog 65 #[.pointer (some ⟨W.heap.size, s * 14 + e * 7, none⟩), lnkArg ⟨s, e, s', e', xpt, xps⟩] wx (BoolPost (free (l.links.take k) x x.x) wx)) := by
            intro wx h
            have h1 := admit W.heap.size _ _ a0 b0 a1 b1 p q ⟨s, e, s', e', xpt, xps⟩ wx h hm
            have h2 := adm_eq (l.links.take k) (en s e) x (by rw [HXX.out.2.2.1]; exact g9) hm hF
            rw [HXX.out.1, ← h2, HXX.out.2.2.1, HXX.out.2.2.2]
            exact h1
          have HA' : Hid (∀ wx, Seven wx W.heap.size (s' * 14 + e' * 7) ((l.links.take k).filter (has · (en s' e'))).length a0' b0' a1' b1' p' q' → Calls Tryd.prog 65 #[.pointer (some ⟨W.heap.size, s' * 14 + e' * 7, none⟩), lnkArg ⟨s, e, s', e', xpt, xps⟩] wx (BoolPost (free (l.links.take k) x x.y) wx)) := by
            intro wx h
            have h1 := admit W.heap.size _ _ a0' b0' a1' b1' p' q' ⟨s, e, s', e', xpt, xps⟩ wx h hm'
            have h2 := adm_eq (l.links.take k) (en s' e') x (by rw [HXX.out.2.2.1]; exact g9) hm' hF'
            rw [HXX.out.2.1, ← h2, HXX.out.2.2.1, HXX.out.2.2.2]
            exact h1
          have HXY : Hid (x.x ≠ x.y) := by rw [Hid, HXX.out.1, HXX.out.2.1]; exact HNE.out
          have HS := Lib.hid hS
          have HS' := Lib.hid hS'
          have HF := Lib.hid hF
          have HF' := Lib.hid hF'
          have hcase : s ≠ s' ∨ (s = s' ∧ e ≠ e') := by
            by_cases h : s = s'
            · exact .inr ⟨h, fun h2 => hEq ⟨h, h2⟩⟩
            · exact .inl h
          have HX0 := Lib.hid hx
          clear hS hS' hF hF' hEq hx
          obtain ⟨q0, q1⟩ := HA5.out
          obtain ⟨r0, r1⟩ := HB5.out
          have hgo : ∀ (Q : Exit → Act → World → Prop), True := fun _ => trivial
          clear hgo
          rcases hcase with hne | ⟨rfl, hne⟩
          · have hne' : ¬ (s : Int) = (s' : Int) := by omega
            go_upto_region 11 with fail
            clear hne' q0 q1
            cases hD : ((l.links.take k).any fun j => has j x.x && has j x.y) with
            | true =>
              have HX2 : Hid (linksErr n3 n2 [] l.links = 5) := by rw [Hid, HX.out, linkErr_dup HI.out HXY.out hD, if_neg (by decide)]
              rw [hD] at HLD
              clear hD
              go_wp2_with fail
              refine HLD.out.mono ?_
              rintro e1 w6 ⟨rfl, hb6⟩
              go_wp2_with fail
              go_ret
              exact ⟨ret1 HX2.out.symm, HB.out.trans ((hb5w.trans (hb6.mono (by omega))).mono (by omega))⟩
            | false =>
              rw [hD] at HLD
              have HD := Lib.hid hD
              clear hD
              go_wp2_with fail
              refine HLD.out.mono ?_
              rintro e1 w6 ⟨rfl, hb6⟩
              have hz6 := hb6.size
              have hb6w := hb5w.trans (hb6.mono (by omega))
              have HL6 := Lib.hid (HL5.out.below hb6 (by omega))
              have HA6 := Lib.hid (HA5.out.below hb6 (by omega))
              have HB6 := Lib.hid (HB5.out.below hb6 (by omega))
              have HT6 := Lib.hid (HT5.out.below hb6 (by omega))
              have HS6 := Lib.hid (HS.out.below hb6 (by omega))
              have HS6' := Lib.hid (HS'.out.below hb6 (by omega))
              clear r0 r1 hb6 HL5 HA5 HB5 HT5 HS HS' HLD
              obtain ⟨k0, k1, k2, k3, k4, k5⟩ := HL6.out
              cases hFx : free (l.links.take k) x x.x with
              | false =>
                have HX2 : Hid (linksErr n3 n2 [] l.links = 11) := by rw [Hid, HX.out, linkErr_free HI.out HXY.out HD.out (by rw [hFx]; rfl), if_neg (by decide)]
                have H := HA.out w6 HS6.out
                rw [hFx] at H
                have HH := Lib.hid H
                clear hFx H
                go_wp2_with fail
                refine HH.out.mono ?_
                rintro e1 w7 ⟨rfl, hb7⟩
                go_wp2_with fail
                go_ret
                exact ⟨ret1 HX2.out.symm, HB.out.trans ((hb6w.trans (hb7.mono (by omega))).mono (by omega))⟩
              | true =>
                have hn1 : ((l.links.take k).filter (has · (en s e))).length ≤ 1 := by
                  have := free_one hFx
                  rw [HXX.out.1] at this
                  exact this
                have H := HA.out w6 HS6.out
                rw [hFx] at H
                have HH := Lib.hid H
                have HFx := Lib.hid hFx
                clear hFx H
                go_wp2_with fail
                refine HH.out.mono ?_
                rintro e1 w7 ⟨rfl, hb7⟩
                have hz7 := hb7.size
                have hb7w := hb6w.trans (hb7.mono (by omega))
                have HL7 := Lib.hid (HL6.out.below hb7 (by omega))
                have HA7 := Lib.hid (HA6.out.below hb7 (by omega))
                have HB7 := Lib.hid (HB6.out.below hb7 (by omega))
                have HT7 := Lib.hid (HT6.out.below hb7 (by omega))
                have HS7 := Lib.hid (HS6.out.below hb7 (by omega))
                have HS7' := Lib.hid (HS6'.out.below hb7 (by omega))
                clear k0 k1 k2 k3 k4 k5 hb7 HL6 HA6 HB6 HT6 HS6 HS6' HH
                obtain ⟨k0, k1, k2, k3, k4, k5⟩ := HL7.out
                cases hFy : free (l.links.take k) x x.y with
                | false =>
                  have HX2 : Hid (linksErr n3 n2 [] l.links = 11) := by rw [Hid, HX.out, linkErr_free HI.out HXY.out HD.out (by rw [HFx.out, hFy]; rfl), if_neg (by decide)]
                  have H := HA'.out w7 HS7'.out
                  rw [hFy] at H
                  have HH := Lib.hid H
                  clear hFy H
                  go_wp2_with fail
                  refine HH.out.mono ?_
                  rintro e1 w8 ⟨rfl, hb8⟩
                  go_wp2_with fail
                  go_ret
                  exact ⟨ret1 HX2.out.symm, HB.out.trans ((hb7w.trans (hb8.mono (by omega))).mono (by omega))⟩
                | true =>
                  have hn1' : ((l.links.take k).filter (has · (en s' e'))).length ≤ 1 := by
                    have := free_one hFy
                    rw [HXX.out.2.1] at this
                    exact this
                  have h0 := linkErr_ok HI.out HXY.out HD.out (show (free (l.links.take k) x x.x && free (l.links.take k) x x.y) = true by rw [HFx.out, hFy]; rfl)
                  have HX2 : Hid (linksErr n3 n2 [] l.links = linksErr n3 n2 (l.links.take (k + 1)) (l.links.drop (k + 1))) := by rw [Hid, HX.out, if_pos h0]
                  have HG2 : Hid (Lay.Good n3 n2 (l.links.take (k + 1))) := by rw [Hid, HTk.out]; exact HGk.out.snoc h0
                  have H := HA'.out w7 HS7'.out
                  rw [hFy] at H
                  have HH := Lib.hid H
                  clear hFy H h0
                  go_wp2_with fail
                  refine HH.out.mono ?_
                  rintro e1 w8 ⟨rfl, hb8⟩
                  have hz8 := hb8.size
                  have hb8w := hb7w.trans (hb8.mono (by omega))
                  have HL8 := Lib.hid (HL7.out.below hb8 (by omega))
                  have HA8 := Lib.hid (HA7.out.below hb8 (by omega))
                  have HB8 := Lib.hid (HB7.out.below hb8 (by omega))
                  have HT8 := Lib.hid (HT7.out.below hb8 (by omega))
                  have HS8 := Lib.hid (HS7.out.below hb8 (by omega))
                  have HS8' := Lib.hid (HS7'.out.below hb8 (by omega))
                  clear k0 k1 k2 k3 k4 k5 hb8 HL7 HA7 HB7 HT7 HS7 HS7' HH
                  obtain ⟨k0, k1, k2, k3, k4, k5⟩ := HL8.out
                  obtain ⟨r0, r1⟩ := HB8.out
                  go_wp2_with fail
                  refine (add_end W.heap.size _ _ a0 b0 a1 b1 p q _ _ ⟨s, e, s', e', xpt, xps⟩ w8 HS8.out HT8.out.fr hn1).mono ?_
                  rintro e1 w9 hadd
                  have HAD := Lib.hid hadd
                  obtain ⟨rfl, -, -, -, hg9⟩ := hadd
                  have hz9 := hg9.size
                  have hb9w := hb8w.grown hg9 (by omega) (fun j hj => by injection hj with hj; omega)
                  have HL9 := Lib.hid (HL8.out.grown hg9 (by omega) (by omega))
                  have HA9 := Lib.hid (HA8.out.grown hg9 (by omega) (by omega))
                  have HS9' := Lib.hid (add_other HAD.out HS8'.out hoff')
                  have HF9 := Lib.hid (fun j => (HAD.out.2.2.2.1 j).trans (HT8.out.fr j))
                  clear k0 k1 k2 k3 k4 k5 r0 r1 hg9 HL8 HA8 HB8 HS8 HS8'
                  obtain ⟨k0, k1, k2, k3, k4, k5⟩ := HL9.out
                  obtain ⟨q0, q1⟩ := HA9.out
                  go_wp2_with fail
                  refine (add_end W.heap.size _ _ a0' b0' a1' b1' p' q' _ _ ⟨s, e, s', e', xpt, xps⟩ w9 HS9'.out HF9.out hn1').mono ?_
                  rintro e1 w10 hadd
                  have HAD2 := Lib.hid hadd
                  obtain ⟨rfl, -, -, -, hg10⟩ := hadd
                  have hz10 := hg10.size
                  have hb10w := hb9w.grown hg10 (by omega) (fun j hj => by injection hj with hj; omega)
                  have HT10 : Hid (Tab w10 W.heap.size (l.links.take (k + 1))) := by
                    rw [Hid, HTk.out, HX0.out]
                    exact Tab.add HT8.out hs he hs' he' rfl rfl HNE.out rfl rfl hn1 hn1' HF.out HF'.out HAD.out HAD2.out
                  have hszz : W.heap.size < w10.heap.size := by omega
                  clear k0 k1 k2 k3 k4 k5 q0 q1 hg10 HL9 HA9 HS9' HF9 HAD HAD2 HT8
                  go_wp2_with fail
                  go_roundw
                  case rel => exact ⟨k + 1, by omega, by go_num, HT10.out, HG2, HX2, hb10w, hszz⟩
                  case measure => simp [intOf]; omega
          · have hne' : ¬ (e : Int) = (e' : Int) := by omega
            go_upto_region 11 with fail
            clear hne' q0 q1
            cases hD : ((l.links.take k).any fun j => has j x.x && has j x.y) with
            | true =>
              have HX2 : Hid (linksErr n3 n2 [] l.links = 5) := by rw [Hid, HX.out, linkErr_dup HI.out HXY.out hD, if_neg (by decide)]
              rw [hD] at HLD
              clear hD
              go_wp2_with fail
              refine HLD.out.mono ?_
              rintro e1 w6 ⟨rfl, hb6⟩
              go_wp2_with fail
              go_ret
              exact ⟨ret1 HX2.out.symm, HB.out.trans ((hb5w.trans (hb6.mono (by omega))).mono (by omega))⟩
            | false =>
              rw [hD] at HLD
              have HD := Lib.hid hD
              clear hD
              go_wp2_with fail
              refine HLD.out.mono ?_
              rintro e1 w6 ⟨rfl, hb6⟩
              have hz6 := hb6.size
              have hb6w := hb5w.trans (hb6.mono (by omega))
              have HL6 := Lib.hid (HL5.out.below hb6 (by omega))
              have HA6 := Lib.hid (HA5.out.below hb6 (by omega))
              have HB6 := Lib.hid (HB5.out.below hb6 (by omega))
              have HT6 := Lib.hid (HT5.out.below hb6 (by omega))
              have HS6 := Lib.hid (HS.out.below hb6 (by omega))
              have HS6' := Lib.hid (HS'.out.below hb6 (by omega))
              clear r0 r1 hb6 HL5 HA5 HB5 HT5 HS HS' HLD
              obtain ⟨k0, k1, k2, k3, k4, k5⟩ := HL6.out
              cases hFx : free (l.links.take k) x x.x with
              | false =>
                have HX2 : Hid (linksErr n3 n2 [] l.links = 11) := by rw [Hid, HX.out, linkErr_free HI.out HXY.out HD.out (by rw [hFx]; rfl), if_neg (by decide)]
                have H := HA.out w6 HS6.out
                rw [hFx] at H
                have HH := Lib.hid H
                clear hFx H
                go_wp2_with fail
                refine HH.out.mono ?_
                rintro e1 w7 ⟨rfl, hb7⟩
                go_wp2_with fail
                go_ret
                exact ⟨ret1 HX2.out.symm, HB.out.trans ((hb6w.trans (hb7.mono (by omega))).mono (by omega))⟩
              | true =>
                have hn1 : ((l.links.take k).filter (has · (en s e))).length ≤ 1 := by
                  have := free_one hFx
                  rw [HXX.out.1] at this
                  exact this
                have H := HA.out w6 HS6.out
                rw [hFx] at H
                have HH := Lib.hid H
                have HFx := Lib.hid hFx
                clear hFx H
                go_wp2_with fail
                refine HH.out.mono ?_
                rintro e1 w7 ⟨rfl, hb7⟩
                have hz7 := hb7.size
                have hb7w := hb6w.trans (hb7.mono (by omega))
                have HL7 := Lib.hid (HL6.out.below hb7 (by omega))
                have HA7 := Lib.hid (HA6.out.below hb7 (by omega))
                have HB7 := Lib.hid (HB6.out.below hb7 (by omega))
                have HT7 := Lib.hid (HT6.out.below hb7 (by omega))
                have HS7 := Lib.hid (HS6.out.below hb7 (by omega))
                have HS7' := Lib.hid (HS6'.out.below hb7 (by omega))
                clear k0 k1 k2 k3 k4 k5 hb7 HL6 HA6 HB6 HT6 HS6 HS6' HH
                obtain ⟨k0, k1, k2, k3, k4, k5⟩ := HL7.out
                cases hFy : free (l.links.take k) x x.y with
                | false =>
                  have HX2 : Hid (linksErr n3 n2 [] l.links = 11) := by rw [Hid, HX.out, linkErr_free HI.out HXY.out HD.out (by rw [HFx.out, hFy]; rfl), if_neg (by decide)]
                  have H := HA'.out w7 HS7'.out
                  rw [hFy] at H
                  have HH := Lib.hid H
                  clear hFy H
                  go_wp2_with fail
                  refine HH.out.mono ?_
                  rintro e1 w8 ⟨rfl, hb8⟩
                  go_wp2_with fail
                  go_ret
                  exact ⟨ret1 HX2.out.symm, HB.out.trans ((hb7w.trans (hb8.mono (by omega))).mono (by omega))⟩
                | true =>
                  have hn1' : ((l.links.take k).filter (has · (en s e'))).length ≤ 1 := by
                    have := free_one hFy
                    rw [HXX.out.2.1] at this
                    exact this
                  have h0 := linkErr_ok HI.out HXY.out HD.out (show (free (l.links.take k) x x.x && free (l.links.take k) x x.y) = true by rw [HFx.out, hFy]; rfl)
                  have HX2 : Hid (linksErr n3 n2 [] l.links = linksErr n3 n2 (l.links.take (k + 1)) (l.links.drop (k + 1))) := by rw [Hid, HX.out, if_pos h0]
                  have HG2 : Hid (Lay.Good n3 n2 (l.links.take (k + 1))) := by rw [Hid, HTk.out]; exact HGk.out.snoc h0
                  have H := HA'.out w7 HS7'.out
                  rw [hFy] at H
                  have HH := Lib.hid H
                  clear hFy H h0
                  go_wp2_with fail
                  refine HH.out.mono ?_
                  rintro e1 w8 ⟨rfl, hb8⟩
                  have hz8 := hb8.size
                  have hb8w := hb7w.trans (hb8.mono (by omega))
                  have HL8 := Lib.hid (HL7.out.below hb8 (by omega))
                  have HA8 := Lib.hid (HA7.out.below hb8 (by omega))
                  have HB8 := Lib.hid (HB7.out.below hb8 (by omega))
                  have HT8 := Lib.hid (HT7.out.below hb8 (by omega))
                  have HS8 := Lib.hid (HS7.out.below hb8 (by omega))
                  have HS8' := Lib.hid (HS7'.out.below hb8 (by omega))
                  clear k0 k1 k2 k3 k4 k5 hb8 HL7 HA7 HB7 HT7 HS7 HS7' HH
                  obtain ⟨k0, k1, k2, k3, k4, k5⟩ := HL8.out
                  obtain ⟨r0, r1⟩ := HB8.out
                  go_wp2_with fail
                  refine (add_end W.heap.size _ _ a0 b0 a1 b1 p q _ _ ⟨s, e, s, e', xpt, xps⟩ w8 HS8.out HT8.out.fr hn1).mono ?_
                  rintro e1 w9 hadd
                  have HAD := Lib.hid hadd
                  obtain ⟨rfl, -, -, -, hg9⟩ := hadd
                  have hz9 := hg9.size
                  have hb9w := hb8w.grown hg9 (by omega) (fun j hj => by injection hj with hj; omega)
                  have HL9 := Lib.hid (HL8.out.grown hg9 (by omega) (by omega))
                  have HA9 := Lib.hid (HA8.out.grown hg9 (by omega) (by omega))
                  have HS9' := Lib.hid (add_other HAD.out HS8'.out hoff')
                  have HF9 := Lib.hid (fun j => (HAD.out.2.2.2.1 j).trans (HT8.out.fr j))
                  clear k0 k1 k2 k3 k4 k5 r0 r1 hg9 HL8 HA8 HB8 HS8 HS8'
                  obtain ⟨k0, k1, k2, k3, k4, k5⟩ := HL9.out
                  obtain ⟨q0, q1⟩ := HA9.out
                  go_wp2_with fail
                  refine (add_end W.heap.size _ _ a0' b0' a1' b1' p' q' _ _ ⟨s, e, s, e', xpt, xps⟩ w9 HS9'.out HF9.out hn1').mono ?_
                  rintro e1 w10 hadd
                  have HAD2 := Lib.hid hadd
                  obtain ⟨rfl, -, -, -, hg10⟩ := hadd
                  have hz10 := hg10.size
                  have hb10w := hb9w.grown hg10 (by omega) (fun j hj => by injection hj with hj; omega)
                  have HT10 : Hid (Tab w10 W.heap.size (l.links.take (k + 1))) := by
                    rw [Hid, HTk.out, HX0.out]
                    exact Tab.add HT8.out hs he hs' he' rfl rfl HNE.out rfl rfl hn1 hn1' HF.out HF'.out HAD.out HAD2.out
                  have hszz : W.heap.size < w10.heap.size := by omega
                  clear k0 k1 k2 k3 k4 k5 q0 q1 hg10 HL9 HA9 HS9' HF9 HAD HAD2 HT8
                  go_wp2_with fail
                  go_roundw
                  case rel => exact ⟨k + 1, by omega, by go_num, HT10.out, HG2, HX2, hb10w, hszz⟩
                  case measure => simp [intOf]; omega
    · have HX : Hid (linksErr n3 n2 [] l.links = 0) := by rw [Hid, HE.out, List.drop_eq_nil_of_le (by have := hr.1; omega)]; rfl
      clear HE hr hT
      go_wp2_with fail
      go_ret
      exact ⟨ret1 HX.out.symm, HB.out.trans (hbw.mono (by omega))⟩
end Go.Proofs.YtkfobijgjdgbgaaDoor.PLnk
