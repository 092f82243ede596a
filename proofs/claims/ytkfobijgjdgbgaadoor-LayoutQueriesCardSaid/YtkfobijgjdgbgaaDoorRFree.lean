/-
  Contract of the document's own function that asks whether a link may have an end.
-/
import Derived.Test.YtkfobijgjdgbgaaDoorRNames
import Derived.Test.YtkfobijgjdgbgaaDoorPLnk
import Derived.Deep.RegionHeld3
namespace Go.Proofs.YtkfobijgjdgbgaaDoor.RFree
open Go.ChangeShapes Go.WideShapes Go.ChangeAt Go.RowKit Wd Small Mem Lay Recs Keep Names PNames PSecs PEnds PLnk RNames
set_option linter.unusedVariables false

/-- how many earlier links have the end, and which one, where it is one *-/
def LastP (ks : List Lnk) (m : Nat) (o : Lnk) : Prop := m = ks.length ∧ ∀ k, ks = [k] → o = k
theorem LastP.yes {ks : List Lnk} {m : Nat} {o k : Lnk} (h : LastP ks m o) : LastP (ks ++ [k]) (m + 1) k := by
  refine ⟨by simp [h.1], fun k' e => ?_⟩
  cases ks with
  | nil => simpa using e
  | cons a r => simp at e
theorem filter_next {L : List Lnk} {j : Nat} {l : Lnk} (e : Lay.End) (h : L[j]? = some l) : (L.take (j + 1)).filter (has · e) = (L.take j).filter (has · e) ++ if has l e = true then [l] else [] := by
  rw [take_succ h, List.filter_append]
  by_cases hx : has l e = true
  · rw [if_pos hx]; simp [hx]
  · rw [if_neg hx]; simp [hx]
def freeP (m : Nat) (o k : Lnk) : Bool := (m == 0) || ((m == 1) && (decide (0 ≤ k.pt) && ((o.pt == k.pt) && !(o.ps == k.ps))))
theorem free_last (done : List Lnk) (k : Lnk) (e : Lay.End) (m : Nat) (o : Lnk) (h : LastP (done.filter (has · e)) m o) : free done k e = freeP m o k := by
  unfold free freeP
  obtain ⟨h1, h2⟩ := h
  match hf : done.filter (has · e), h1, h2 with
  | [], h1, _ => subst h1; rfl
  | [k'], h1, h2 =>
    subst h1
    rw [h2 k' rfl]
    rw [Bool.eq_iff_iff]
    simp [and_assoc]
  | _ :: _ :: _, h1, _ => subst h1; simp
theorem Row6.put {w : World} {g : Nat} {o k : Lnk} (h : Row6 w g o) : Row6 ((((((w.setCell ⟨g, 0, none⟩ (.int .i64 k.a)).setCell ⟨g, 1, none⟩ (.int .i64 k.ae)).setCell ⟨g, 2, none⟩ (.int .i64 k.b)).setCell ⟨g, 3, none⟩ (.int .i64 k.be)).setCell ⟨g, 4, none⟩ (.int .i64 k.pt)).setCell ⟨g, 5, none⟩ (.int .i64 k.ps)) g k := by
  obtain ⟨h0, h1, h2, h3, h4, h5⟩ := h
  refine ⟨?_, ?_, ?_, ?_, ?_, ?_⟩
  · rw [set_other (by omega), set_other (by omega), set_other (by omega), set_other (by omega), set_other (by omega)]; exact set_same h0
  · rw [set_other (by omega), set_other (by omega), set_other (by omega), set_other (by omega)]; exact set_same ((set_other (by omega)).trans h1)
  · rw [set_other (by omega), set_other (by omega), set_other (by omega)]; exact set_same ((set_other (by omega)).trans ((set_other (by omega)).trans h2))
  · rw [set_other (by omega), set_other (by omega)]; exact set_same ((set_other (by omega)).trans ((set_other (by omega)).trans ((set_other (by omega)).trans h3)))
  · rw [set_other (by omega)]; exact set_same ((set_other (by omega)).trans ((set_other (by omega)).trans ((set_other (by omega)).trans ((set_other (by omega)).trans h4))))
  · exact set_same ((set_other (by omega)).trans ((set_other (by omega)).trans ((set_other (by omega)).trans ((set_other (by omega)).trans ((set_other (by omega)).trans h5)))))

set_option maxRecDepth 100000 in
set_option maxHeartbeats 2000000 in
theorem r_free (v : LV) (L : List Lnk) (i : Nat) (k : Lnk) (x y : Int) (w : World) (hL : Rd lnkR w w.heap.size v.A4 v.n4 L) (hk : L[i]? = some k) (hi : i < v.n4) (hn : v.n4 ≤ 9223372036854775807) :
    Calls Tryd.prog 80 #[v.val, .int .i64 i, .agg #[.int .i64 x, .int .i64 y]] w (BoolPost (free (L.take i) k (x, y)) w) := by
  obtain ⟨W2, hW2⟩ : ∃ W, (w.alloc (.cells #[.slice v.A1 v.n1 v.c1, .slice v.A2 v.n2 v.c2, .slice v.A3 v.n3 v.c3, .slice v.A4 v.n4 v.c4] 26)).alloc (.cells #[.int .i64 x, .int .i64 y] 137) = W := ⟨_, rfl⟩
  have hb2 : Below w.heap.size w W2 := by rw [← hW2]; exact ((Below.refl _ _).alloc (Nat.le_refl _) _).alloc (by simp) _
  have hz2 : w.heap.size + 1 < W2.heap.size := by rw [← hW2]; simp
  have HX2 : Hid (Row2 W2 (w.heap.size + 1) x y) := by rw [Hid, ← hW2]; unfold Row2; simp
  have HC3 : Hid (W2.cell? ⟨w.heap.size, 3, none⟩ = some (.slice v.A4 v.n4 v.c4)) := by rw [Hid, ← hW2]; simp
  obtain ⟨W, hW⟩ : ∃ W, (W2.alloc (.cells #[.int .i64 k.a, .int .i64 k.ae, .int .i64 k.b, .int .i64 k.be, .int .i64 k.pt, .int .i64 k.ps] 64)).alloc (.cells #[.int .i64 0, .int .i64 0, .int .i64 0, .int .i64 0, .int .i64 0, .int .i64 0] 64) = W := ⟨_, rfl⟩
  have hbW : Below W2.heap.size W2 W := by rw [← hW]; exact ((Below.refl _ _).alloc (Nat.le_refl _) _).alloc (by simp) _
  have hzW : W2.heap.size + 1 < W.heap.size := by rw [← hW]; simp
  have HK6 : Hid (Row6 W W2.heap.size k) := by rw [Hid, ← hW]; unfold Row6; simp
  have HO6 : Hid (Row6 W (W2.heap.size + 1) ⟨0, 0, 0, 0, 0, 0⟩) := by rw [Hid, ← hW]; unfold Row6; simp
  have HF6 : Hid (∀ j, W.frozen? ⟨W2.heap.size + 1, j, none⟩ = false) := by rw [Hid, ← hW]; simp
  have HB : Hid (Below w.heap.size w W) := hb2.trans (hbW.mono (by omega))
  have hr2 := hL.grow hb2 (show w.heap.size ≤ W2.heap.size by omega)
  have HR := Lib.hid (hr2.below hbW)
  obtain ⟨ad, k', hA, hab, hk', g0, g1, g2, g3, g4, g5⟩ := loadLnk hr2 hi
  have e : k = k' := by rw [hk] at hk'; exact Option.some.inj hk'
  subst e
  have HE0 : Hid (LastP ((L.take 0).filter (has · (x, y))) 0 ⟨0, 0, 0, 0, 0, 0⟩) := ⟨rfl, fun k h => by simp at h⟩
  have HFR : Hid (∀ m o, LastP ((L.take i).filter (has · (x, y))) m o → free (L.take i) k (x, y) = freeP m o k) := fun m o h => free_last (L.take i) k (x, y) m o h
  have HX := Lib.hid (HX2.out.below hbW (by omega))
  have HCW : Hid (W.cell? ⟨w.heap.size, 3, none⟩ = some (.slice v.A4 v.n4 v.c4)) := (hbW.cell (p := ⟨w.heap.size, 3, none⟩) (by simp; omega)).trans HC3.out
  clear hL hk' hk hb2 hbW hr2
  obtain ⟨A1, n1, c1, A2, n2, c2, A3, n3, c3, A4, n4, c4⟩ := v
  simp only at hA
  subst hA
  simp only [LV.val] at *
  have hin : (i : Int) < (n4 : Int) := by omega
  have c3' := HC3.out
  have HW := Lib.hid hW
  clear hW
  go_enter Tryd.func80, Tryd.ntmps80
  go_upto_region 1 with fail
  clear hW2
  go_upto_region 3 with fail
  rw [HW.out]
  clear HW g0 g1 g2 g3 g4 g5 c3'
  go_wp2_with fail
  go_loopw [8, 10] (fun t8 t10 wr => ∃ (j m : Nat) (o : Lnk), j ≤ i ∧ t8 = .int .i64 m ∧ t10 = .int .i64 j ∧ m ≤ j ∧ Hid (Row6 wr (W2.heap.size + 1) o ∧ ∀ q, wr.frozen? ⟨W2.heap.size + 1, q, none⟩ = false) ∧ Hid (LastP ((L.take j).filter (has · (x, y))) m o) ∧ Below (W2.heap.size + 1) W wr) (fun _ t10 _ => i - (intOf t10).toNat)
  case atStart => exact ⟨0, 0, _, Nat.zero_le _, rfl, rfl, Nat.le_refl _, ⟨HO6.out, HF6.out⟩, HE0, Below.refl _ _⟩
  case round =>
    obtain ⟨j, m, o, hj, rfl, rfl, hmj, HO, HLP, hbr⟩ := hrel
    clear HE0 HO6 HF6
    have hzr := hbr.size
    have HXr := Lib.hid (HX.out.below hbr (by omega))
    have HKr := Lib.hid (HK6.out.below hbr (by omega))
    have c3' : wr.cell? ⟨w.heap.size, 3, none⟩ = some (.slice (some ad) n4 c4) := (hbr.cell (p := ⟨w.heap.size, 3, none⟩) (by simp; omega)).trans HCW.out
    by_cases hlt : j < i
    · have hbr2 : Below W2.heap.size W wr := hbr.mono (by omega)
      obtain ⟨ad2, l, ha2, hab2, hl, d0, d1, d2, d3, d4, d5⟩ := loadLnk (HR.out.below hbr2) (show j < n4 by omega)
      cases ha2
      obtain ⟨x0, x1⟩ := HXr.out
      have hjn : (j : Int) < (n4 : Int) := by omega
      have HFN := Lib.hid (filter_next (x, y) hl)
      have HLP0 := HLP.out
      have hb0 := Below.refl wr.heap.size wr
      have hadb : (ad.add (j * 6)).block < wr.heap.size := by rw [Mem.block_add]; omega
      have hwb : w.heap.size + 1 < wr.heap.size := by omega
      have KA : Hid (∀ w', Below wr.heap.size wr w' → w'.cell? ⟨w.heap.size, 3, none⟩ = some (.slice (some ad) n4 c4) ∧ w'.cell? (ad.add (j * 6)) = some (.int .i64 l.a) ∧ w'.cell? ⟨(ad.add (j * 6)).block, (ad.add (j * 6)).off + 1, none⟩ = some (.int .i64 l.ae) ∧ w'.cell? ⟨(ad.add (j * 6)).block, (ad.add (j * 6)).off + 2, none⟩ = some (.int .i64 l.b) ∧ w'.cell? ⟨(ad.add (j * 6)).block, (ad.add (j * 6)).off + 3, none⟩ = some (.int .i64 l.be) ∧ w'.cell? ⟨(ad.add (j * 6)).block, (ad.add (j * 6)).off + 4, none⟩ = some (.int .i64 l.pt) ∧ w'.cell? ⟨(ad.add (j * 6)).block, (ad.add (j * 6)).off + 5, none⟩ = some (.int .i64 l.ps) ∧ w'.cell? ⟨w.heap.size + 1, 0, none⟩ = some (.int .i64 x) ∧ w'.cell? ⟨w.heap.size + 1, 1, none⟩ = some (.int .i64 y) ∧ Below wr.heap.size wr w') := fun w' hb =>
        ⟨(hb.cell (p := ⟨w.heap.size, 3, none⟩) (by simp; omega)).trans c3', (hb.cell hadb).trans d0, (hb.cell (p := ⟨(ad.add (j * 6)).block, (ad.add (j * 6)).off + 1, none⟩) hadb).trans d1, (hb.cell (p := ⟨(ad.add (j * 6)).block, (ad.add (j * 6)).off + 2, none⟩) hadb).trans d2, (hb.cell (p := ⟨(ad.add (j * 6)).block, (ad.add (j * 6)).off + 3, none⟩) hadb).trans d3,
          (hb.cell (p := ⟨(ad.add (j * 6)).block, (ad.add (j * 6)).off + 4, none⟩) hadb).trans d4, (hb.cell (p := ⟨(ad.add (j * 6)).block, (ad.add (j * 6)).off + 5, none⟩) hadb).trans d5, (hb.cell (p := ⟨w.heap.size + 1, 0, none⟩) hwb).trans x0, (hb.cell (p := ⟨w.heap.size + 1, 1, none⟩) hwb).trans x1, hb⟩
      clear d0 d1 d2 d3 d4 d5 x0 x1 c3' hl HLP0
      cases hh : has l (x, y) with
      | true =>
        rw [hh] at HFN
        have HLP2 : Hid (LastP ((L.take (j + 1)).filter (has · (x, y))) (m + 1) l) := by
          rw [Hid, HFN.out, if_pos rfl]
          exact HLP.out.yes
        go_wp2_with fail
        go_region_held3 (fun w' => w'.cell? ⟨w.heap.size, 3, none⟩ = some (.slice (some ad) n4 c4) ∧ w'.cell? (ad.add (j * 6)) = some (.int .i64 l.a) ∧ w'.cell? ⟨(ad.add (j * 6)).block, (ad.add (j * 6)).off + 1, none⟩ = some (.int .i64 l.ae) ∧ w'.cell? ⟨(ad.add (j * 6)).block, (ad.add (j * 6)).off + 2, none⟩ = some (.int .i64 l.b) ∧ w'.cell? ⟨(ad.add (j * 6)).block, (ad.add (j * 6)).off + 3, none⟩ = some (.int .i64 l.be) ∧ w'.cell? ⟨(ad.add (j * 6)).block, (ad.add (j * 6)).off + 4, none⟩ = some (.int .i64 l.pt) ∧ w'.cell? ⟨(ad.add (j * 6)).block, (ad.add (j * 6)).off + 5, none⟩ = some (.int .i64 l.ps) ∧ w'.cell? ⟨w.heap.size + 1, 0, none⟩ = some (.int .i64 x) ∧ w'.cell? ⟨w.heap.size + 1, 1, none⟩ = some (.int .i64 y) ∧ Below wr.heap.size wr w')
          (first | exact KA.out _ hb0.drew | exact KA.out _ (hb0.drew.trans (hbq.mono (by simp))))
          ((go_at_call 79; refine (r_has l x y _).mono ?_; rintro e wq ⟨rfl, hbq⟩; rw [hh]))
        obtain ⟨f3, e0, e1, e2, e3, e4, e5, y0, y1, hbf⟩ := KA.out wq (hb0.drew.trans (hbq.mono (by simp)))
        have hzq := hbf.size
        obtain ⟨HO1, HO2⟩ := HO.out
        have HOq := Lib.hid (HO1.below hbf (by omega))
        have HFq : Hid (∀ q, wq.frozen? ⟨W2.heap.size + 1, q, none⟩ = false) := fun q => (hbf.frozen (p := ⟨W2.heap.size + 1, q, none⟩) (by simp; omega)).trans (HO2 q)
        have hbrq : Below (W2.heap.size + 1) W wq := hbr.trans (hbf.mono (by omega))
        obtain ⟨u0, u1, u2, u3, u4, u5⟩ := HOq.out
        have hfr := HFq.out
        clear HO1 HO2 y0 y1 hbq
        go_wp2_with fail
        go_roundw
        case rel => exact ⟨j + 1, m + 1, l, by omega, by go_num, by go_num, by omega, ⟨Row6.put HOq.out, fun q => by simp only [World.frozen?_setCell]; exact HFq.out q⟩, HLP2, (((((hbrq.setCell (by simp) _).setCell (by simp) _).setCell (by simp) _).setCell (by simp) _).setCell (by simp) _).setCell (by simp) _⟩
        case measure => simp [intOf]; omega
      | false =>
        rw [hh] at HFN
        have HLP2 : Hid (LastP ((L.take (j + 1)).filter (has · (x, y))) m o) := by
          rw [Hid, HFN.out, if_neg (by decide), List.append_nil]
          exact HLP.out
        go_wp2_with fail
        go_region_held3 (fun w' => w'.cell? ⟨w.heap.size, 3, none⟩ = some (.slice (some ad) n4 c4) ∧ w'.cell? (ad.add (j * 6)) = some (.int .i64 l.a) ∧ w'.cell? ⟨(ad.add (j * 6)).block, (ad.add (j * 6)).off + 1, none⟩ = some (.int .i64 l.ae) ∧ w'.cell? ⟨(ad.add (j * 6)).block, (ad.add (j * 6)).off + 2, none⟩ = some (.int .i64 l.b) ∧ w'.cell? ⟨(ad.add (j * 6)).block, (ad.add (j * 6)).off + 3, none⟩ = some (.int .i64 l.be) ∧ w'.cell? ⟨(ad.add (j * 6)).block, (ad.add (j * 6)).off + 4, none⟩ = some (.int .i64 l.pt) ∧ w'.cell? ⟨(ad.add (j * 6)).block, (ad.add (j * 6)).off + 5, none⟩ = some (.int .i64 l.ps) ∧ w'.cell? ⟨w.heap.size + 1, 0, none⟩ = some (.int .i64 x) ∧ w'.cell? ⟨w.heap.size + 1, 1, none⟩ = some (.int .i64 y) ∧ Below wr.heap.size wr w')
          (first | exact KA.out _ hb0.drew | exact KA.out _ (hb0.drew.trans (hbq.mono (by simp))))
          ((go_at_call 79; refine (r_has l x y _).mono ?_; rintro e wq ⟨rfl, hbq⟩; rw [hh]))
        obtain ⟨f3, e0, e1, e2, e3, e4, e5, y0, y1, hbf⟩ := KA.out wq (hb0.drew.trans (hbq.mono (by simp)))
        have hzq := hbf.size
        obtain ⟨HO1, HO2⟩ := HO.out
        have HOq : Hid (Row6 wq (W2.heap.size + 1) o ∧ ∀ q, wq.frozen? ⟨W2.heap.size + 1, q, none⟩ = false) := ⟨HO1.below hbf (by omega), fun q => (hbf.frozen (p := ⟨W2.heap.size + 1, q, none⟩) (by simp; omega)).trans (HO2 q)⟩
        have hbrq : Below (W2.heap.size + 1) W wq := hbr.trans (hbf.mono (by omega))
        clear HO1 HO2 f3 e0 e1 e2 e3 e4 e5 y0 y1 hbq
        go_wp2_with fail
        go_roundw
        case rel => exact ⟨j + 1, m, o, by omega, rfl, by go_num, by omega, HOq, HLP2, hbrq⟩
        case measure => simp [intOf]; omega
    · obtain rfl : j = i := by omega
      have HX3 := Lib.hid (HFR.out m o HLP.out)
      obtain ⟨⟨k0, k1, k2, k3, k4, k5⟩, _⟩ := HO.out
      obtain ⟨l0, l1, l2, l3, l4, l5⟩ := HKr.out
      have E : Hid (freeP m o k = (((m : Nat) == 0) || ((m == 1) && (decide (0 ≤ k.pt) && ((o.pt == k.pt) && !(o.ps == k.ps)))))) := rfl
      have hbw : Below w.heap.size w wr := HB.out.trans (hbr.mono (by omega))
      match m, HX3, E with
      | 0, HX3, E =>
        go_wp2_with fail
        go_ret
        exact ⟨retb (by rw [HX3.out, E.out]; rfl), hbw⟩
      | 1, HX3, E =>
        cases h1 : decide (0 ≤ k.pt) <;> cases h2 : (o.pt == k.pt) <;> cases h3 : (o.ps == k.ps)
        all_goals
          rw [h1, h2, h3] at E
          have h3' : (o.ps != k.ps) = !(o.ps == k.ps) := rfl
          rw [h3] at h3'
          go_wp2_with fail
          go_ret
          exact ⟨retb (by rw [HX3.out, E.out]; rfl), hbw⟩
      | m + 2, HX3, E =>
        have h1 : (((m + 2 : Nat) : Int) == 0) = false := by rw [beq_eq_false_iff_ne]; omega
        have h2 : (((m + 2 : Nat) : Int) == 1) = false := by rw [beq_eq_false_iff_ne]; omega
        have h3 : (m + 2 == 0) = false := rfl
        have h4 : (m + 2 == 1) = false := by simp
        rw [h3, h4] at E
        generalize ((m + 2 : Nat) : Int) = z at *
        go_wp2_with fail
        go_ret
        exact ⟨retb (by rw [HX3.out, E.out]; rfl), hbw⟩
end Go.Proofs.YtkfobijgjdgbgaaDoor.RFree
