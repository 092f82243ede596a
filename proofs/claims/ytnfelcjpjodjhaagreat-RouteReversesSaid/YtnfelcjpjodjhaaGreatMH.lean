/-
  Two laws for a walk by hand through a region that draws its order: an operation that yields a value; one whose guard is false. The slot that it writes is handed over written out.
  Contract of the document's own function that finds the error of a link.
  Contract of the document's own function that checks a layout, and of those that ask it.
-/
import Derived.Test.YtnfelcjpjodjhaaGreatMA
import Derived.Deep.RegionHeld3
import Derived.Test.YtnfelcjpjodjhaaGreatMD
import Derived.BigRegion
import Derived.Deep.Cut
import Derived.Deep.CutRange
import Derived.Test.YtnfelcjpjodjhaaGreatMC
namespace Go.Proofs.YtnfelcjpjodjhaaGreat.Man
open Go

section
variable {P : Program} {ops : Array Oper} {Q : Exit → Act → World → Prop} {md : Region.Mode} {S : World → Prop} {oi : Oper} {v : Value} {fuel : Nat} {listed : Array Bool} {a : Act} {w : World}
theorem take_yes (i : Nat) (d : Option Tmp) (hi : ops[i]? = some oi) (hd : oi.dst = d) (hn : Region.noSelect ops = true) (hf : Region.free md ops listed i = true) (hr : (Region.ready md ops listed).contains i = true)
    (hp : ∀ (c : List PanicEntry) (a : Act) (w : World), Q (Exit.panic c) (a.put d v) w → Q (Exit.panic c) a w) (hw : Region.wanted oi (yielded ops a.tmps) = true) (hy : ∀ (w : World), S w → Sem.run P (execOp a.eval oi) w = Result.ok (Next.value v) w) (hS : S w)
    (hK : wpAnyH P md ops Q S fuel (listed.setIfInBounds i true) (a.put d v) w) : wpAnyH P md ops Q S (fuel + 1) listed a w := by
  subst hd
  exact wpAnyH_take hi hn hf hr hp (.inl ⟨hw, hy⟩) hS hK
theorem take_no (i : Nat) (d : Option Tmp) (hi : ops[i]? = some oi) (hd : oi.dst = d) (hn : Region.noSelect ops = true) (hf : Region.free md ops listed i = true) (hr : (Region.ready md ops listed).contains i = true)
    (hp : ∀ (c : List PanicEntry) (a : Act) (w : World), Q (Exit.panic c) (a.put d undef) w → Q (Exit.panic c) a w) (hw : Region.wanted oi (yielded ops a.tmps) = false) (hS : S w)
    (hK : wpAnyH P md ops Q S fuel (listed.setIfInBounds i true) (a.put d undef) w) : wpAnyH P md ops Q S (fuel + 1) listed a w := by
  subst hd
  exact wpAnyH_take hi hn hf hr hp (.inr ⟨hw, rfl⟩) hS hK
end
end Go.Proofs.YtnfelcjpjodjhaaGreat.Man

namespace Go.Proofs.YtnfelcjpjodjhaaGreat.RLink
open Go.ChangeShapes Go.WideShapes Go.ChangeAt Go.RowKit Wd Small Mem Lay LayT Recs Keep Names PNames PSecs PLinks PEnds PLnk RNames RFree Man
set_option linter.unusedVariables false

theorem run_eq_rend (a b c d : Int) (w : World) : (binOp .eql 104 (.agg #[.int .i64 a, .int .i64 b]) (.agg #[.int .i64 c, .int .i64 d])).run Tryz.prog w = .ok (.bool (a == c && b == d)) w := by
  cases h1 : (a == c) <;> cases h2 : (b == d)
  all_goals simp at h1 h2
  all_goals simp [go_sem, run_equalIn_struct, Program.fieldsOf, Tryz.underlying104, h1, h2]
/-- the comparison of two ends, for the walk: one test, whose answer is known -/
theorem wpList_eq_rend (w : World) {ops : Array Oper} {rest : List Oper} {o : Oper} {act : Act} {Q : Exit → Act → World → Prop} (hg : o.guard = none) (m x : Operand) (hop : o.op = Op.binOp BinOp.eql 104 m x 104) (a b c d : Int) (r : Bool) (hr : (a == c && b == d) = r)
    (hm : act.eval m = .agg #[.int .i64 a, .int .i64 b]) (hx : act.eval x = .agg #[.int .i64 c, .int .i64 d]) (hK : wpList Tryz.prog ops Q rest (act.put o.dst (.bool r)) w) : wpList Tryz.prog ops Q (o :: rest) act w := by
  refine wpList_plain hg fun K' hK' => ?_
  have hrun := run_eq_rend a b c d w
  rw [hr] at hrun
  unfold Oper.wp execOp
  rw [hop]
  dsimp only
  rw [hm, hx]
  have hgd : (eqGuard BinOp.eql 104 m x (.agg #[.int .i64 a, .int .i64 b]) (.agg #[.int .i64 c, .int .i64 d])).run Tryz.prog w = .ok () w := by
    simp [go_sem, eqGuard]
  simp only [Sem.run_bind, hgd, Result.andThen_ok, hrun, Sem.run_pure]
  exact hK' _ _ hK

/-- are the numbers of a link in their ranges, as the document's function asks it -/
def rin (n3 n2 : Nat) (k : Lnk) : Bool := btw k.a 0 ((n3 : Int) - 1) && (btw k.b 0 ((n3 : Int) - 1) && (btw k.ae 0 1 && (btw k.be 0 1 && (btw k.pt (-1) ((n2 : Int) - 1) && (btw k.ps 0 1 && !(decide (k.pt < 0) && !(k.ps == 0)))))))
theorem rin_eq (n p : Nat) (k : Lnk) : rin n p k = lin n p k := by
  rw [lin_eq, Bool.eq_iff_iff]
  unfold rin inr btw
  simp only [Bool.and_eq_true, decide_eq_true_eq, beq_iff_eq, Bool.not_eq_true', Bool.and_eq_false_iff, decide_eq_false_iff_not, Bool.not_eq_false']
  omega
theorem any_next {L : List Lnk} {j : Nat} {l : Lnk} {f : Lnk → Bool} (h : L[j]? = some l) (h0 : (L.take j).any f = false) : (L.take (j + 1)).any f = f l := by
  rw [take_succ h, List.any_append, h0]
  simp
theorem any_hit {L : List Lnk} {j i : Nat} {l : Lnk} {f : Lnk → Bool} (h : L[j]? = some l) (hj : j < i) (hf : f l = true) : (L.take i).any f = true := by
  rw [List.any_eq_true]
  exact ⟨l, List.mem_of_getElem? (show (L.take i)[j]? = some l by rw [List.getElem?_take, if_pos hj]; exact h), hf⟩

/-- two ends, each in a new block of its own -/
def Ends2 (W wx : World) (p q : Value) (a ae b be : Int) : Prop := ∃ P Q, p = .pointer (some ⟨P, 0, none⟩) ∧ q = .pointer (some ⟨Q, 0, none⟩) ∧ P < wx.heap.size ∧ Q < wx.heap.size ∧ Row2 wx P a ae ∧ Row2 wx Q b be ∧ Below W.heap.size W wx

set_option maxRecDepth 100000 in
set_option maxHeartbeats 8000000 in
theorem r_link (v : LV) (L : List Lnk) (i : Nat) (k : Lnk) (w : World) (hL : Rd lnkR w w.heap.size v.A4 v.n4 L) (hk : L[i]? = some k) (hi : i < v.n4) (hn : v.n4 ≤ 9223372036854775807) (hn2 : v.n2 ≤ 9223372036854775807) (hn3 : v.n3 ≤ 9223372036854775807) :
    Calls Tryz.prog 63 #[v.val, .int .i64 i] w (ErrPost (linkErr v.n3 v.n2 (L.take i) k) w) := by
  obtain ⟨W0, hW0, HZ, hb0, HBX⟩ := boxed v w
  have hr0 := hL.grow hb0 (show w.heap.size ≤ W0.heap.size by have := hb0.size; omega)
  obtain ⟨ad, k', hA, hab, hk', g0, g1, g2, g3, g4, g5⟩ := loadLnk hr0 hi
  have e : k = k' := by rw [hk] at hk'; exact Option.some.inj hk'
  subst e
  obtain ⟨W2, hW2⟩ : ∃ W, W0.alloc (.cells #[.int .i64 k.a, .int .i64 k.ae, .int .i64 k.b, .int .i64 k.be, .int .i64 k.pt, .int .i64 k.ps] 106) = W := ⟨_, rfl⟩
  have hb2 : Below W0.heap.size W0 W2 := by rw [← hW2]; exact (Below.refl _ _).alloc (Nat.le_refl _) _
  have hz2 : W0.heap.size < W2.heap.size := by rw [← hW2]; simp
  have hz0 : w.heap.size < W0.heap.size := by rw [HZ.out]; omega
  have HK6 : Hid (Row6 W2 W0.heap.size k) := by rw [Hid, ← hW2]; unfold Row6; simp
  have HBX2 := Lib.hid (box_kept hb2 hz0 HBX)
  have HB2 : Hid (Below w.heap.size w W2) := hb0.trans (hb2.mono (by omega))
  have HR2 := Lib.hid (hr0.grow hb2 (show W0.heap.size ≤ W2.heap.size by omega))
  have HKL := Lib.hid hk
  have HFR : Hid (∀ wx x y, Rd lnkR wx wx.heap.size v.A4 v.n4 L → Calls Tryz.prog 92 #[v.val, .int .i64 i, .agg #[.int .i64 x, .int .i64 y]] wx (BoolPost (free (L.take i) k (x, y)) wx)) := fun wx x y hx => r_free v L i k x y wx hx hk hi hn
  clear hL hk' hk hb2 hr0
  obtain ⟨b0, b1, b2, b3⟩ := HBX
  obtain ⟨A1, n1, c1, A2, n2, c2, A3, n3, c3, A4, n4, c4⟩ := v
  obtain ⟨a, ae, b, be, pt, ps⟩ := k
  simp only at hA
  subst hA
  simp only [LV.val] at *
  have hin : (i : Int) < (n4 : Int) := by omega
  have E : Hid (rin n3 n2 ⟨a, ae, b, be, pt, ps⟩ = (btw a 0 ((n3 : Int) - 1) && (btw b 0 ((n3 : Int) - 1) && (btw ae 0 1 && (btw be 0 1 && (btw pt (-1) ((n2 : Int) - 1) && (btw ps 0 1 && !(decide (pt < 0) && !(ps == 0)))))))) ) := rfl
  obtain ⟨k0, k1, k2, k3, k4, k5⟩ := HK6.out
  obtain ⟨d0, d1, d2, d3⟩ := HBX2.out
  simp only at k0 k1 k2 k3 k4 k5
  have HNO : Hid (rin n3 n2 ⟨a, ae, b, be, pt, ps⟩ = false → linkErr n3 n2 (L.take i) ⟨a, ae, b, be, pt, ps⟩ = 4) := fun h => linkErr_range (by rw [← rin_eq]; exact h)
  go_enter Tryz.func63, Tryz.ntmps63
  go_upto_region 1 with fail
  clear hW0
  go_upto_region 3 with fail
  clear hW2 g0 g1 g2 g3 g4 g5 b0 b1 b2 b3
  go_cut [69] from 10 (fun v wx => v = .bool (!rin n3 n2 ⟨a, ae, b, be, pt, ps⟩) ∧ wx = W2)
  case first =>
    cases h1 : btw a 0 ((n3 : Int) - 1) with
    | false =>
      rw [h1] at E
      have E2 := E.out
      have HE := Lib.hid E2
      clear E E2
      go_wp2_with (go_at_call 62; refine (r_in _ _ _ _).mono ?_; rintro e w' ⟨rfl, rfl⟩; (first | rw [h1]))
      go_meet
      case rel => exact ⟨by rw [HE.out]; rfl, rfl⟩
    | true =>
      cases h2 : btw b 0 ((n3 : Int) - 1) with
      | false =>
        rw [h1, h2] at E
        have E2 := E.out
        have HE := Lib.hid E2
        clear E E2
        go_wp2_with (go_at_call 62; refine (r_in _ _ _ _).mono ?_; rintro e w' ⟨rfl, rfl⟩; (first | rw [h1] | rw [h2]))
        go_meet
        case rel => exact ⟨by rw [HE.out]; rfl, rfl⟩
      | true =>
        cases h3 : btw ae 0 1 with
        | false =>
          rw [h1, h2, h3] at E
          have E2 := E.out
          have HE := Lib.hid E2
          clear E E2
          go_wp2_with (go_at_call 62; refine (r_in _ _ _ _).mono ?_; rintro e w' ⟨rfl, rfl⟩; (first | rw [h1] | rw [h2] | rw [h3]))
          go_meet
          case rel => exact ⟨by rw [HE.out]; rfl, rfl⟩
        | true =>
          cases h4 : btw be 0 1 with
          | false =>
            rw [h1, h2, h3, h4] at E
            have E2 := E.out
            have HE := Lib.hid E2
            clear E E2
            go_wp2_with (go_at_call 62; refine (r_in _ _ _ _).mono ?_; rintro e w' ⟨rfl, rfl⟩; (first | rw [h1] | rw [h2] | rw [h3] | rw [h4]))
            go_meet
            case rel => exact ⟨by rw [HE.out]; rfl, rfl⟩
          | true =>
            cases h5 : btw pt (-1) ((n2 : Int) - 1) with
            | false =>
              rw [h1, h2, h3, h4, h5] at E
              have E2 := E.out
              have HE := Lib.hid E2
              clear E E2
              go_wp2_with (go_at_call 62; refine (r_in _ _ _ _).mono ?_; rintro e w' ⟨rfl, rfl⟩; (first | rw [h1] | rw [h2] | rw [h3] | rw [h4] | rw [h5]))
              go_meet
              case rel => exact ⟨by rw [HE.out]; rfl, rfl⟩
            | true =>
              cases h6 : btw ps 0 1 with
              | false =>
                rw [h1, h2, h3, h4, h5, h6] at E
                have E2 := E.out
                have HE := Lib.hid E2
                clear E E2
                go_wp2_with (go_at_call 62; refine (r_in _ _ _ _).mono ?_; rintro e w' ⟨rfl, rfl⟩; (first | rw [h1] | rw [h2] | rw [h3] | rw [h4] | rw [h5] | rw [h6]))
                go_meet
                case rel => exact ⟨by rw [HE.out]; rfl, rfl⟩
              | true =>
                cases h7 : decide (pt < 0) with
                | false =>
                  rw [h1, h2, h3, h4, h5, h6, h7] at E
                  have E2 := E.out
                  have HE := Lib.hid E2
                  clear E E2
                  go_wp2_with (go_at_call 62; refine (r_in _ _ _ _).mono ?_; rintro e w' ⟨rfl, rfl⟩; (first | rw [h1] | rw [h2] | rw [h3] | rw [h4] | rw [h5] | rw [h6]))
                  go_meet
                  case rel => exact ⟨by rw [HE.out]; rfl, rfl⟩
                | true =>
                  cases h8 : (ps == 0) with
                  | false =>
                    rw [h1, h2, h3, h4, h5, h6, h7, h8] at E
                    have E2 := E.out
                    have HE := Lib.hid E2
                    clear E E2
                    have h8' : (ps != 0) = !(ps == 0) := rfl
                    rw [h8] at h8'
                    go_wp2_with (go_at_call 62; refine (r_in _ _ _ _).mono ?_; rintro e w' ⟨rfl, rfl⟩; (first | rw [h1] | rw [h2] | rw [h3] | rw [h4] | rw [h5] | rw [h6]))
                    go_meet
                    case rel => exact ⟨by rw [HE.out]; rfl, rfl⟩
                  | true =>
                    rw [h1, h2, h3, h4, h5, h6, h7, h8] at E
                    have E2 := E.out
                    have HE := Lib.hid E2
                    clear E E2
                    have h8' : (ps != 0) = !(ps == 0) := rfl
                    rw [h8] at h8'
                    go_wp2_with (go_at_call 62; refine (r_in _ _ _ _).mono ?_; rintro e w' ⟨rfl, rfl⟩; (first | rw [h1] | rw [h2] | rw [h3] | rw [h4] | rw [h5] | rw [h6]))
                    go_meet
                    case rel => exact ⟨by rw [HE.out]; rfl, rfl⟩
  case rest =>
    obtain ⟨rfl, hwc⟩ := hcut
    subst hwc
    obtain ⟨WA, rfl⟩ : ∃ WA : World, WA = wc := ⟨_, rfl⟩
    clear E
    cases hrin : rin n3 n2 ⟨a, ae, b, be, pt, ps⟩ with
    | false =>
      have HX2 := Lib.hid (HNO.out hrin)
      clear hrin HFR HR2
      go_wp2_with fail
      go_ret
      exact ⟨ret1 HX2.out.symm, HB2.out⟩
    | true =>
      have HI := Lib.hid ((rin_eq n3 n2 ⟨a, ae, b, be, pt, ps⟩).symm.trans hrin)
      clear hrin HNO
      go_upto_region 5 with fail
      go_cut [7, 8] from 70 (fun p q wx => Ends2 WA wx p q a ae b be)
      case first =>
        go_region
        all_goals go_wp2_with fail
        · go_meet
          exact ⟨_, _, rfl, rfl, by simp <;> omega, by simp <;> omega, by unfold Row2; simp, by unfold Row2; simp, (((Below.refl _ _).alloc (Nat.le_refl _) _).alloc (by simp) _).drew⟩
        · go_meet
          exact ⟨_, _, rfl, rfl, by simp <;> omega, by simp <;> omega, by unfold Row2; simp, by unfold Row2; simp, (((Below.refl _ _).alloc (Nat.le_refl _) _).alloc (by simp) _).drew⟩
      case rest =>
        obtain ⟨P, Q, rfl, rfl, hP, hQ, hA3, hB3, hb3⟩ := hcut
        obtain ⟨W, rfl⟩ : ∃ W : World, W = wc := ⟨_, rfl⟩
        have hz5 := hb3.size
        have HA3 := Lib.hid hA3
        have HB3 := Lib.hid hB3
        have HBW : Hid (Below w.heap.size w W) := HB2.out.trans (hb3.mono (by omega))
        have HR := Lib.hid (HR2.out.grow hb3 hz5)
        have HBX := Lib.hid (box_kept (g := w.heap.size) (v := ⟨A1, n1, c1, A2, n2, c2, A3, n3, c3, some ad, n4, c4⟩) hb3 (by omega) HBX2.out)
        obtain ⟨q0, q1⟩ := HA3.out
        obtain ⟨r0, r1⟩ := HB3.out
        clear k0 k1 k2 k3 k4 k5 d0 d1 d2 d3 HBX2 HR2 HK6 hA3 hB3 hb3
        cases hEq : (a == b && ae == be) with
        | true =>
          have HX2 : Hid (linkErr n3 n2 (L.take i) ⟨a, ae, b, be, pt, ps⟩ = 1) := linkErr_same HI.out (by simp only [Bool.and_eq_true, beq_iff_eq] at hEq; simp only [Lnk.x, Lnk.y, hEq.1, hEq.2])
          go_wp2_with (refine wpList_eq_rend _ rfl _ _ rfl a ae b be true hEq rfl rfl ?_)
          go_ret
          exact ⟨ret1 HX2.out.symm, HBW.out⟩
        | false =>
          have HNE : Hid ((⟨a, ae, b, be, pt, ps⟩ : Lnk).x ≠ (⟨a, ae, b, be, pt, ps⟩ : Lnk).y) := by
            intro e
            simp only [Lnk.x, Lnk.y, Prod.mk.injEq] at e
            rw [e.1, e.2] at hEq
            simp at hEq
          have HE0 : Hid ((L.take 0).any (fun j => has j (a, ae) && has j (b, be)) = false) := rfl
          go_upto_region 8 with (refine wpList_eq_rend _ rfl _ _ rfl a ae b be false hEq rfl rfl ?_)
          clear hEq q0 q1 r0 r1
          go_wp2_with fail
          go_loopw [9] (fun t wr => ∃ j : Nat, j ≤ i ∧ t = .int .i64 j ∧ Hid ((L.take j).any (fun j => has j (a, ae) && has j (b, be)) = false) ∧ Below W.heap.size W wr) (fun t _ => i - (intOf t).toNat)
          case atStart => exact ⟨0, Nat.zero_le _, rfl, HE0, Below.refl _ _⟩
          case round =>
            obtain ⟨j, hj, rfl, HJ, hbr⟩ := hrel
            clear HE0
            have hzr := hbr.size
            have HBr := Lib.hid hbr
            have hbwr : Below w.heap.size w wr := HBW.out.trans (hbr.mono (by omega))
            have HBwr := Lib.hid hbwr
            obtain ⟨d0, d1, d2, d3⟩ := box_kept (g := w.heap.size) (v := ⟨A1, n1, c1, A2, n2, c2, A3, n3, c3, some ad, n4, c4⟩) hbr (by omega) HBX.out
            have HAr := Lib.hid (HA3.out.below hbr hP)
            have HBr3 := Lib.hid (HB3.out.below hbr hQ)
            by_cases hlt : j < i
            · obtain ⟨ad2, l, ha2, hab2, hl, g0, g1, g2, g3, g4, g5⟩ := loadLnk (HR.out.below hbr) (show j < n4 by omega)
              cases ha2
              obtain ⟨q0, q1⟩ := HAr.out
              obtain ⟨r0, r1⟩ := HBr3.out
              have hjn : (j : Int) < (n4 : Int) := by omega
              have HAN := Lib.hid (any_next (f := fun j => has j (a, ae) && has j (b, be)) hl HJ.out)
              have HAH : Hid ((has l (a, ae) && has l (b, be)) = true → (L.take i).any (fun j => has j (a, ae) && has j (b, be)) = true) := fun h => any_hit hl hlt h
              have hb0 := Below.refl wr.heap.size wr
              have hadb : (ad.add (j * 6)).block < wr.heap.size := by rw [Mem.block_add]; omega
              have hwb : w.heap.size < wr.heap.size := by omega
              have hPr : P < wr.heap.size := by omega
              have hQr : Q < wr.heap.size := by omega
              have KA : Hid (∀ w', Below wr.heap.size wr w' → w'.cell? ⟨w.heap.size, 3, none⟩ = some (.slice (some ad) n4 c4) ∧ w'.cell? (ad.add (j * 6)) = some (.int .i64 l.a) ∧ w'.cell? ⟨(ad.add (j * 6)).block, (ad.add (j * 6)).off + 1, none⟩ = some (.int .i64 l.ae) ∧ w'.cell? ⟨(ad.add (j * 6)).block, (ad.add (j * 6)).off + 2, none⟩ = some (.int .i64 l.b) ∧ w'.cell? ⟨(ad.add (j * 6)).block, (ad.add (j * 6)).off + 3, none⟩ = some (.int .i64 l.be) ∧ w'.cell? ⟨(ad.add (j * 6)).block, (ad.add (j * 6)).off + 4, none⟩ = some (.int .i64 l.pt) ∧ w'.cell? ⟨(ad.add (j * 6)).block, (ad.add (j * 6)).off + 5, none⟩ = some (.int .i64 l.ps) ∧ w'.cell? ⟨P, 0, none⟩ = some (.int .i64 a) ∧ w'.cell? ⟨P, 1, none⟩ = some (.int .i64 ae) ∧ w'.cell? ⟨Q, 0, none⟩ = some (.int .i64 b) ∧ w'.cell? ⟨Q, 1, none⟩ = some (.int .i64 be)) := fun w' hb =>
                ⟨(hb.cell (p := ⟨w.heap.size, 3, none⟩) hwb).trans d3, (hb.cell hadb).trans g0, (hb.cell (p := ⟨(ad.add (j * 6)).block, (ad.add (j * 6)).off + 1, none⟩) hadb).trans g1, (hb.cell (p := ⟨(ad.add (j * 6)).block, (ad.add (j * 6)).off + 2, none⟩) hadb).trans g2, (hb.cell (p := ⟨(ad.add (j * 6)).block, (ad.add (j * 6)).off + 3, none⟩) hadb).trans g3,
                  (hb.cell (p := ⟨(ad.add (j * 6)).block, (ad.add (j * 6)).off + 4, none⟩) hadb).trans g4, (hb.cell (p := ⟨(ad.add (j * 6)).block, (ad.add (j * 6)).off + 5, none⟩) hadb).trans g5, (hb.cell (p := ⟨P, 0, none⟩) hPr).trans q0, (hb.cell (p := ⟨P, 1, none⟩) hPr).trans q1,
                  (hb.cell (p := ⟨Q, 0, none⟩) hQr).trans r0, (hb.cell (p := ⟨Q, 1, none⟩) hQr).trans r1⟩
              clear g0 g1 g2 g3 g4 g5 q0 q1 r0 r1 d0 d1 d2 d3 hl hbr hbwr
              have HHA : Hid (∀ wx, Calls Tryz.prog 91 #[.agg #[.int .i64 l.a, .int .i64 l.ae, .int .i64 l.b, .int .i64 l.be, .int .i64 l.pt, .int .i64 l.ps], .agg #[.int .i64 a, .int .i64 ae]] wx (BoolPost (has l (a, ae)) wx)) := fun wx => r_has l a ae wx
              have HHB : Hid (∀ wx, Calls Tryz.prog 91 #[.agg #[.int .i64 l.a, .int .i64 l.ae, .int .i64 l.b, .int .i64 l.be, .int .i64 l.pt, .int .i64 l.ps], .agg #[.int .i64 b, .int .i64 be]] wx (BoolPost (has l (b, be)) wx)) := fun wx => r_has l b be wx
              cases hh : has l (a, ae) with
              | false =>
                rw [hh] at HHA
                have HJ2 : Hid ((L.take (j + 1)).any (fun j => has j (a, ae) && has j (b, be)) = false) := by rw [Hid, HAN.out, hh]; rfl
                clear hh HAN HAH HHB
                go_upto_region 11 with fail
                refine wp_region_held_drew (S := fun w' => w'.cell? ⟨w.heap.size, 3, none⟩ = some (.slice (some ad) n4 c4) ∧ w'.cell? (ad.add (j * 6)) = some (.int .i64 l.a) ∧ w'.cell? ⟨(ad.add (j * 6)).block, (ad.add (j * 6)).off + 1, none⟩ = some (.int .i64 l.ae) ∧ w'.cell? ⟨(ad.add (j * 6)).block, (ad.add (j * 6)).off + 2, none⟩ = some (.int .i64 l.b) ∧ w'.cell? ⟨(ad.add (j * 6)).block, (ad.add (j * 6)).off + 3, none⟩ = some (.int .i64 l.be) ∧ w'.cell? ⟨(ad.add (j * 6)).block, (ad.add (j * 6)).off + 4, none⟩ = some (.int .i64 l.pt) ∧ w'.cell? ⟨(ad.add (j * 6)).block, (ad.add (j * 6)).off + 5, none⟩ = some (.int .i64 l.ps) ∧ w'.cell? ⟨P, 0, none⟩ = some (.int .i64 a) ∧ w'.cell? ⟨P, 1, none⟩ = some (.int .i64 ae) ∧ w'.cell? ⟨Q, 0, none⟩ = some (.int .i64 b) ∧ w'.cell? ⟨Q, 1, none⟩ = some (.int .i64 be)) (by kernel_rfl) (KA.out _ hb0.drew) (fun hHeld => ?_)
                refine take_yes 0 (some 88) (v := ?v0) rfl rfl (by kernel_rfl) (by kernel_rfl) (by kernel_rfl) (fun _ _ _ h => h) (by kernel_rfl) ?h0 (by assumption) ?_
                case h0 =>
                  intro w hSw
                  (try dsimp only at hSw)
                  go_split_ands
                  go_simp
                  try with_reducible rfl
                (try simp only [Act.put, List.setIfInBounds_toArray, List.set_cons_zero, List.set_cons_succ])
                refine take_yes 1 (some 89) (v := ?v1) rfl rfl (by kernel_rfl) (by kernel_rfl) (by kernel_rfl) (fun _ _ _ h => h) (by kernel_rfl) ?h1 (by assumption) ?_
                case h1 =>
                  intro w hSw
                  (try dsimp only at hSw)
                  go_split_ands
                  go_simp
                  try with_reducible rfl
                (try simp only [Act.put, List.setIfInBounds_toArray, List.set_cons_zero, List.set_cons_succ])
                refine take_yes 2 (some 90) (v := ?v2) rfl rfl (by kernel_rfl) (by kernel_rfl) (by kernel_rfl) (fun _ _ _ h => h) (by kernel_rfl) ?h2 (by assumption) ?_
                case h2 =>
                  intro w hSw
                  (try dsimp only at hSw)
                  go_split_ands
                  go_simp
                  try with_reducible rfl
                (try simp only [Act.put, List.setIfInBounds_toArray, List.set_cons_zero, List.set_cons_succ])
                refine take_yes 3 (some 91) (v := ?v3) rfl rfl (by kernel_rfl) (by kernel_rfl) (by kernel_rfl) (fun _ _ _ h => h) (by kernel_rfl) ?h3 (by assumption) ?_
                case h3 =>
                  intro w hSw
                  (try dsimp only at hSw)
                  go_split_ands
                  go_simp
                  try with_reducible rfl
                (try simp only [Act.put, List.setIfInBounds_toArray, List.set_cons_zero, List.set_cons_succ])
                refine take_yes 4 (some 92) (v := ?v4) rfl rfl (by kernel_rfl) (by kernel_rfl) (by kernel_rfl) (fun _ _ _ h => h) (by kernel_rfl) ?h4 (by assumption) ?_
                case h4 =>
                  intro w hSw
                  (try dsimp only at hSw)
                  go_split_ands
                  go_simp
                  try with_reducible rfl
                (try simp only [Act.put, List.setIfInBounds_toArray, List.set_cons_zero, List.set_cons_succ])
                refine take_yes 5 (some 93) (v := ?v5) rfl rfl (by kernel_rfl) (by kernel_rfl) (by kernel_rfl) (fun _ _ _ h => h) (by kernel_rfl) ?h5 (by assumption) ?_
                case h5 =>
                  intro w hSw
                  (try dsimp only at hSw)
                  go_split_ands
                  go_simp
                  try with_reducible rfl
                (try simp only [Act.put, List.setIfInBounds_toArray, List.set_cons_zero, List.set_cons_succ])
                refine wpAnyH_ready (rs := [6]) (by kernel_rfl) (by simp) ?_
                refine AllReadyH.cons rfl (fun K hK => ?_) AllReadyH.nil
                go_simp
                go_at_call 91
                refine (HHA.out _).mono ?_
                rintro e wq ⟨rfl, hbq⟩
                have hbq1 : Below wr.heap.size wr.drew wq := hbq
                go_wp2_with fail
                refine hK.out _ _ (KA.out _ (hb0.drew.trans hbq1)) (fun hHeld1 => ?_)
                clear hK K hHeld
                (try simp only [Act.put, List.setIfInBounds_toArray, List.set_cons_zero, List.set_cons_succ])
                refine take_yes 7 (some 95) (v := ?v7) rfl rfl (by kernel_rfl) (by kernel_rfl) (by kernel_rfl) (fun _ _ _ h => h) (by kernel_rfl) ?h7 (by assumption) ?_
                case h7 =>
                  intro w hSw
                  (try dsimp only at hSw)
                  go_split_ands
                  go_simp
                  try with_reducible rfl
                (try simp only [Act.put, List.setIfInBounds_toArray, List.set_cons_zero, List.set_cons_succ])
                refine take_no 8 (some 96) rfl rfl (by kernel_rfl) (by kernel_rfl) (by kernel_rfl) (fun _ _ _ h => h) (by kernel_rfl) (by assumption) ?_
                (try simp only [Act.put, List.setIfInBounds_toArray, List.set_cons_zero, List.set_cons_succ])
                refine take_no 9 (some 97) rfl rfl (by kernel_rfl) (by kernel_rfl) (by kernel_rfl) (fun _ _ _ h => h) (by kernel_rfl) (by assumption) ?_
                (try simp only [Act.put, List.setIfInBounds_toArray, List.set_cons_zero, List.set_cons_succ])
                refine take_no 10 (some 98) rfl rfl (by kernel_rfl) (by kernel_rfl) (by kernel_rfl) (fun _ _ _ h => h) (by kernel_rfl) (by assumption) ?_
                (try simp only [Act.put, List.setIfInBounds_toArray, List.set_cons_zero, List.set_cons_succ])
                refine take_no 11 (some 99) rfl rfl (by kernel_rfl) (by kernel_rfl) (by kernel_rfl) (fun _ _ _ h => h) (by kernel_rfl) (by assumption) ?_
                (try simp only [Act.put, List.setIfInBounds_toArray, List.set_cons_zero, List.set_cons_succ])
                refine take_no 12 (some 100) rfl rfl (by kernel_rfl) (by kernel_rfl) (by kernel_rfl) (fun _ _ _ h => h) (by kernel_rfl) (by assumption) ?_
                (try simp only [Act.put, List.setIfInBounds_toArray, List.set_cons_zero, List.set_cons_succ])
                refine take_no 13 (some 101) rfl rfl (by kernel_rfl) (by kernel_rfl) (by kernel_rfl) (fun _ _ _ h => h) (by kernel_rfl) (by assumption) ?_
                (try simp only [Act.put, List.setIfInBounds_toArray, List.set_cons_zero, List.set_cons_succ])
                refine take_no 14 (some 102) rfl rfl (by kernel_rfl) (by kernel_rfl) (by kernel_rfl) (fun _ _ _ h => h) (by kernel_rfl) (by assumption) ?_
                (try simp only [Act.put, List.setIfInBounds_toArray, List.set_cons_zero, List.set_cons_succ])
                refine take_yes 15 (some 103) (v := ?v15) rfl rfl (by kernel_rfl) (by kernel_rfl) (by kernel_rfl) (fun _ _ _ h => h) (by kernel_rfl) ?h15 (by assumption) ?_
                case h15 =>
                  intro w hSw
                  (try dsimp only at hSw)
                  go_split_ands
                  go_simp
                  try with_reducible rfl
                (try simp only [Act.put, List.setIfInBounds_toArray, List.set_cons_zero, List.set_cons_succ])
                refine wpAnyH_done (by kernel_rfl) ?_ _
                have HE2 := Lib.hid (HBr.out.trans ((hb0.drew.trans hbq1).mono hzr))
                clear hbq1 hbq hb0 hHeld1
                go_wp2_with fail
                go_roundw
                case rel => exact ⟨j + 1, by omega, by go_num, HJ2, HE2.out⟩
                case measure => simp [intOf]; omega
              | true =>
                rw [hh] at HHA
                cases hh2 : has l (b, be) with
                | true =>
                  rw [hh2] at HHB
                  have HD := Lib.hid (HAH.out (by rw [hh, hh2]; rfl))
                  have HX2 : Hid (linkErr n3 n2 (L.take i) ⟨a, ae, b, be, pt, ps⟩ = 5) := linkErr_dup HI.out HNE.out HD.out
                  clear hh hh2 HAN HAH
                  go_upto_region 11 with fail
                  go_region_held3 (fun w' => w'.cell? ⟨w.heap.size, 3, none⟩ = some (.slice (some ad) n4 c4) ∧ w'.cell? (ad.add (j * 6)) = some (.int .i64 l.a) ∧ w'.cell? ⟨(ad.add (j * 6)).block, (ad.add (j * 6)).off + 1, none⟩ = some (.int .i64 l.ae) ∧ w'.cell? ⟨(ad.add (j * 6)).block, (ad.add (j * 6)).off + 2, none⟩ = some (.int .i64 l.b) ∧ w'.cell? ⟨(ad.add (j * 6)).block, (ad.add (j * 6)).off + 3, none⟩ = some (.int .i64 l.be) ∧ w'.cell? ⟨(ad.add (j * 6)).block, (ad.add (j * 6)).off + 4, none⟩ = some (.int .i64 l.pt) ∧ w'.cell? ⟨(ad.add (j * 6)).block, (ad.add (j * 6)).off + 5, none⟩ = some (.int .i64 l.ps) ∧ w'.cell? ⟨P, 0, none⟩ = some (.int .i64 a) ∧ w'.cell? ⟨P, 1, none⟩ = some (.int .i64 ae) ∧ w'.cell? ⟨Q, 0, none⟩ = some (.int .i64 b) ∧ w'.cell? ⟨Q, 1, none⟩ = some (.int .i64 be))
                    (first | exact KA.out _ hb0.drew | exact KA.out _ (hb0.drew.trans hbq1) | exact KA.out _ ((hb0.drew.trans hbq1).trans hbp1))
                    ((first | (go_at_call 91; (with_reducible refine (HHA.out _).mono ?_); rintro e wq ⟨rfl, hbq⟩; have hbq1 : Below wr.heap.size wr.drew wq := hbq) | (go_at_call 91; (with_reducible refine (HHB.out _).mono ?_); rintro e wp ⟨rfl, hbp⟩; have hbp1 : Below wr.heap.size wq wp := hbp.mono (hb0.drew.trans hbq1).size)))
                  have HE2 := Lib.hid (HBwr.out.trans (((hb0.drew.trans hbq1).trans hbp1).mono (by omega)))
                  clear hbp1 hbp hbq1 hbq hb0
                  go_wp2_with fail
                  go_ret
                  exact ⟨ret1 HX2.out.symm, HE2.out⟩
                | false =>
                  rw [hh2] at HHB
                  have HJ2 : Hid ((L.take (j + 1)).any (fun j => has j (a, ae) && has j (b, be)) = false) := by rw [Hid, HAN.out, hh, hh2]; rfl
                  clear hh hh2 HAN HAH
                  go_upto_region 11 with fail
                  go_region_held3 (fun w' => w'.cell? ⟨w.heap.size, 3, none⟩ = some (.slice (some ad) n4 c4) ∧ w'.cell? (ad.add (j * 6)) = some (.int .i64 l.a) ∧ w'.cell? ⟨(ad.add (j * 6)).block, (ad.add (j * 6)).off + 1, none⟩ = some (.int .i64 l.ae) ∧ w'.cell? ⟨(ad.add (j * 6)).block, (ad.add (j * 6)).off + 2, none⟩ = some (.int .i64 l.b) ∧ w'.cell? ⟨(ad.add (j * 6)).block, (ad.add (j * 6)).off + 3, none⟩ = some (.int .i64 l.be) ∧ w'.cell? ⟨(ad.add (j * 6)).block, (ad.add (j * 6)).off + 4, none⟩ = some (.int .i64 l.pt) ∧ w'.cell? ⟨(ad.add (j * 6)).block, (ad.add (j * 6)).off + 5, none⟩ = some (.int .i64 l.ps) ∧ w'.cell? ⟨P, 0, none⟩ = some (.int .i64 a) ∧ w'.cell? ⟨P, 1, none⟩ = some (.int .i64 ae) ∧ w'.cell? ⟨Q, 0, none⟩ = some (.int .i64 b) ∧ w'.cell? ⟨Q, 1, none⟩ = some (.int .i64 be))
                    (first | exact KA.out _ hb0.drew | exact KA.out _ (hb0.drew.trans hbq1) | exact KA.out _ ((hb0.drew.trans hbq1).trans hbp1))
                    ((first | (go_at_call 91; (with_reducible refine (HHA.out _).mono ?_); rintro e wq ⟨rfl, hbq⟩; have hbq1 : Below wr.heap.size wr.drew wq := hbq) | (go_at_call 91; (with_reducible refine (HHB.out _).mono ?_); rintro e wp ⟨rfl, hbp⟩; have hbp1 : Below wr.heap.size wq wp := hbp.mono (hb0.drew.trans hbq1).size)))
                  have HE2 := Lib.hid (HBr.out.trans (((hb0.drew.trans hbq1).trans hbp1).mono hzr))
                  clear hbp1 hbp hbq1 hbq hb0
                  go_wp2_with fail
                  go_roundw
                  case rel => exact ⟨j + 1, by omega, by go_num, HJ2, HE2.out⟩
                  case measure => simp [intOf]; omega
            · have hji : j = i := by omega
              have HNo := Lib.hid (hji ▸ HJ.out)
              have HRr := Lib.hid (HR.out.grow hbr hzr)
              obtain ⟨q0, q1⟩ := HAr.out
              obtain ⟨r0, r1⟩ := HBr3.out
              have hge : ¬ (j : Int) < (i : Int) := by omega
              clear hji hbr hbwr
              cases hfa : free (L.take i) ⟨a, ae, b, be, pt, ps⟩ (a, ae) with
              | false =>
                have HX2 : Hid (linkErr n3 n2 (L.take i) ⟨a, ae, b, be, pt, ps⟩ = 11) := linkErr_free HI.out HNE.out HNo.out (by show (free _ _ (a, ae) && _) = false; rw [hfa]; rfl)
                have HFA := Lib.hid (HFR.out wr a ae HRr.out)
                rw [hfa] at HFA
                clear hfa
                go_wp2_with fail
                (with_reducible refine HFA.out.mono ?_)
                rintro e wq ⟨rfl, hbq⟩
                have HE2 := Lib.hid (HBwr.out.trans (hbq.mono HBwr.out.size))
                clear hbq d0 d1 d2 d3 q0 q1 r0 r1
                go_wp2_with fail
                go_ret
                exact ⟨ret1 HX2.out.symm, HE2.out⟩
              | true =>
                have HFA := Lib.hid (HFR.out wr a ae HRr.out)
                rw [hfa] at HFA
                cases hfb : free (L.take i) ⟨a, ae, b, be, pt, ps⟩ (b, be) with
                | false =>
                  have HX2 : Hid (linkErr n3 n2 (L.take i) ⟨a, ae, b, be, pt, ps⟩ = 11) := linkErr_free HI.out HNE.out HNo.out (by show (free _ _ (a, ae) && free _ _ (b, be)) = false; rw [hfa, hfb]; rfl)
                  have HFB : Hid (∀ wx, Below wr.heap.size wr wx → _) := fun wx hx => HFR.out wx b be (HRr.out.grow hx hx.size)
                  rw [hfb] at HFB
                  clear hfa hfb
                  go_wp2_with fail
                  (with_reducible refine HFA.out.mono ?_)
                  rintro e wq ⟨rfl, hbq⟩
                  have hzq := hbq.size
                  obtain ⟨d0', d1', d2', d3'⟩ := box_kept (g := w.heap.size) (v := ⟨A1, n1, c1, A2, n2, c2, A3, n3, c3, some ad, n4, c4⟩) hbq (by omega) ⟨d0, d1, d2, d3⟩
                  obtain ⟨r0', r1'⟩ := HBr3.out.below hbq (by omega)
                  have HBq := Lib.hid hbq
                  clear d0 d1 d2 d3 q0 q1 r0 r1 hbq
                  go_wp2_with fail
                  (with_reducible refine (HFB.out wq HBq.out).mono ?_)
                  rintro e wp ⟨rfl, hbp⟩
                  have HE2 := Lib.hid (HBwr.out.trans ((HBq.out.trans (hbp.mono hzq)).mono HBwr.out.size))
                  clear hbp d0' d1' d2' d3' r0' r1'
                  go_wp2_with fail
                  go_ret
                  exact ⟨ret1 HX2.out.symm, HE2.out⟩
                | true =>
                  have HX2 : Hid (linkErr n3 n2 (L.take i) ⟨a, ae, b, be, pt, ps⟩ = 0) := linkErr_ok HI.out HNE.out HNo.out (by show (free _ _ (a, ae) && free _ _ (b, be)) = true; rw [hfa, hfb]; rfl)
                  have HFB : Hid (∀ wx, Below wr.heap.size wr wx → _) := fun wx hx => HFR.out wx b be (HRr.out.grow hx hx.size)
                  rw [hfb] at HFB
                  clear hfa hfb
                  go_wp2_with fail
                  (with_reducible refine HFA.out.mono ?_)
                  rintro e wq ⟨rfl, hbq⟩
                  have hzq := hbq.size
                  obtain ⟨d0', d1', d2', d3'⟩ := box_kept (g := w.heap.size) (v := ⟨A1, n1, c1, A2, n2, c2, A3, n3, c3, some ad, n4, c4⟩) hbq (by omega) ⟨d0, d1, d2, d3⟩
                  obtain ⟨r0', r1'⟩ := HBr3.out.below hbq (by omega)
                  have HBq := Lib.hid hbq
                  clear d0 d1 d2 d3 q0 q1 r0 r1 hbq
                  go_wp2_with fail
                  (with_reducible refine (HFB.out wq HBq.out).mono ?_)
                  rintro e wp ⟨rfl, hbp⟩
                  have HE2 := Lib.hid (HBwr.out.trans ((HBq.out.trans (hbp.mono hzq)).mono HBwr.out.size))
                  clear hbp d0' d1' d2' d3' r0' r1'
                  go_wp2_with fail
                  go_ret
                  exact ⟨ret1 HX2.out.symm, HE2.out⟩
end Go.Proofs.YtnfelcjpjodjhaaGreat.RLink

namespace Go.Proofs.YtnfelcjpjodjhaaGreat.RCheck
open Go.ChangeShapes Go.WideShapes Go.ChangeAt Go.RowKit Wd Small Mem Lay LayT Recs Keep Names PNames PSecs PLinks PEnds PTab PLnk PCheck RNames RFree RLink
set_option linter.unusedVariables false

/-- a section's numbers, as the document's function asks for them -/
theorem ins_eq (q : Nat) (s : Sec) : inS q s = (btw s.len 1 400 && (btw s.lim 1000 100000 && (btw s.grade (-40) 40 && btw s.st (-1) ((q : Int) - 1)))) := by
  unfold inS
  rw [Bool.eq_iff_iff]
  unfold btw nof
  simp only [Bool.and_eq_true, Bool.or_eq_true, decide_eq_true_eq, beq_iff_eq]
  omega

set_option maxRecDepth 100000 in
set_option maxHeartbeats 16000000 in
theorem r_check (v : LV) (l : Lay) (w : World) (hL : RdL w w.heap.size v l) : Calls Tryz.prog 38 #[v.val] w (ErrPost (check l) w) := by
  have e1 := hL.st.1
  have e2 := hL.pt.1
  have e3 := hL.sec.1
  have e4 := hL.lnk.1
  have hc := check_chain l
  rw [e1, e2, e3, e4] at hc
  have HC0 := Lib.hid hc
  have HE3 := Lib.hid e3
  have HE1 := Lib.hid e1
  have HE2 := Lib.hid e2
  have HE4 := Lib.hid e4
  clear hc e1 e2 e3 e4
  have hm1 := hL.m1
  have hm2 := hL.m2
  have hm3 := hL.m3
  have hm4 := hL.m4
  have HS1 := Lib.hid hL.sz1
  have HS2 := Lib.hid hL.sz2
  have HS3 := Lib.hid hL.sz3
  obtain ⟨W, hW, HZ, HB0, HBX⟩ := boxed v w
  have HC := Lib.hid HBX
  have hgW : w.heap.size < W.heap.size := by rw [HZ.out]; omega
  have HB := Lib.hid HB0
  have HLW := Lib.hid (hL.grow HB0 (show w.heap.size ≤ W.heap.size by omega))
  have hkeep : ∀ wr, Below W.heap.size W wr → _ := fun wr hb => box_kept hb hgW HC.out
  have HK := Lib.hid hkeep
  clear hL hkeep HB0 HBX
  obtain ⟨c0, c1', c2', c3'⟩ := HC.out
  obtain ⟨A1, n1, c1, A2, n2, c2, A3, n3, c3, A4, n4, c4⟩ := v
  simp only [LV.val] at *
  have E1 : Hid (namesErr [] l.stations = namesErr (l.stations.take 0) (l.stations.drop 0)) := rfl
  have E2 : Hid (namesErr [] l.points = namesErr (l.points.take 0) (l.points.drop 0)) := rfl
  have E3 : Hid (secsErr n1 [] l.sections = secsErr n1 ((l.sections.map Sec.name).take 0) (l.sections.drop 0)) := rfl
  have E4 : Hid (linksErr n3 n2 [] l.links = linksErr n3 n2 (l.links.take 0) (l.links.drop 0)) := rfl
  have HSZ : Hid (24 < n1 ∨ 48 < n2 ∨ 96 < n3 ∨ 192 < n4 → check l = 7) := fun h => by rw [HC0.out, chain, sizeErr, if_pos h]; rfl
  have HSA : Hid (¬ (24 < n1 ∨ 48 < n2 ∨ 96 < n3 ∨ 192 < n4) → n3 = 0 → check l = 1) := fun h h2 => by rw [HC0.out, chain, sizeErr, if_neg h, if_pos h2]; rfl
  have HSO : Hid (¬ (24 < n1 ∨ 48 < n2 ∨ 96 < n3 ∨ 192 < n4) → n3 ≠ 0 → check l = chain 0 (namesErr [] l.stations) (namesErr [] l.points) (secsErr n1 [] l.sections) (linksErr n3 n2 [] l.links)) := fun h h2 => by rw [HC0.out, sizeErr, if_neg h, if_neg h2]
  clear HC0
  go_enter Tryz.func38, Tryz.ntmps38
  go_upto_region 1 with fail
  try rw [hW]
  clear hW
  by_cases g1 : 24 < n1
  · have d1 : (24 : Int) < (n1 : Int) := by omega
    have HX2 := Lib.hid (HSZ.out (by omega))
    go_wp2_with fail
    go_ret
    exact ⟨ret1 HX2.out.symm, HB.out⟩
  · have d1 : ¬ (24 : Int) < (n1 : Int) := by omega
    by_cases g2 : 48 < n2
    · have d2 : (48 : Int) < (n2 : Int) := by omega
      have HX2 := Lib.hid (HSZ.out (by omega))
      go_wp2_with fail
      go_ret
      exact ⟨ret1 HX2.out.symm, HB.out⟩
    · have d2 : ¬ (48 : Int) < (n2 : Int) := by omega
      by_cases g3 : 96 < n3
      · have d3 : (96 : Int) < (n3 : Int) := by omega
        have HX2 := Lib.hid (HSZ.out (by omega))
        go_wp2_with fail
        go_ret
        exact ⟨ret1 HX2.out.symm, HB.out⟩
      · have d3 : ¬ (96 : Int) < (n3 : Int) := by omega
        by_cases g4 : 192 < n4
        · have d4 : (192 : Int) < (n4 : Int) := by omega
          have HX2 := Lib.hid (HSZ.out (by omega))
          go_wp2_with fail
          go_ret
          exact ⟨ret1 HX2.out.symm, HB.out⟩
        · have d4 : ¬ (192 : Int) < (n4 : Int) := by omega
          have hno : ¬ (24 < n1 ∨ 48 < n2 ∨ 96 < n3 ∨ 192 < n4) := by omega
          by_cases g5 : n3 = 0
          · have HX2 := Lib.hid (HSA.out hno g5)
            subst g5
            clear hno
            go_wp2_with fail
            go_ret
            exact ⟨ret1 HX2.out.symm, HB.out⟩
          · have HX0 := Lib.hid (HSO.out hno g5)
            have g5' : ((n3 : Int) == 0) = false := by simpa using g5
            clear hno HSO HSA HSZ g5
            go_wp2_with fail
            go_loopw [3] (fun i wr => ∃ (k : Nat), k ≤ n1 ∧ i = .int .i64 k ∧ Hid (namesErr [] l.stations = namesErr (l.stations.take k) (l.stations.drop k)) ∧ Below W.heap.size W wr) (fun i _ => n1 - (intOf i).toNat)
            case atStart => exact ⟨0, Nat.zero_le _, rfl, E1, Below.refl _ _⟩
            case round =>
              obtain ⟨k, hk, rfl, HE, hbw⟩ := hrel
              obtain ⟨wr1, rfl⟩ : ∃ wo : World, wo = wr := ⟨_, rfl⟩
              clear E1 c0 c1' c2' c3'
              have hzW := hbw.size
              obtain ⟨c0, c1', c2', c3'⟩ := HK.out wr1 hbw
              by_cases hlt : k < n1
              · obtain ⟨ad, s, hA, hab, hs, x0⟩ := loadS (HLW.out.grow hbw hzW).st hlt
                have HX := Lib.hid (HE.out.trans (names_step hs))
                have HN := Lib.hid (r_names A1 n1 c1 k l.stations s wr1 (HLW.out.grow hbw hzW).st hs hlt hm1 (HS1.out s (List.mem_of_getElem? hs)))
                have hki : (k : Int) < (n1 : Int) := by omega
                clear hA hs x0 HE hab
                cases hz0 : decide (nameErr (l.stations.take k) s = 0) with
                | true =>
                  have h0 := of_decide_eq_true hz0
                  have HX2 : Hid (namesErr [] l.stations = namesErr (l.stations.take (k + 1)) (l.stations.drop (k + 1))) := by rw [Hid, HX.out, if_pos h0]
                  rw [h0] at HN
                  clear HX hz0 h0
                  go_wp2_with fail
                  refine HN.out.mono ?_
                  rintro e w1 ⟨rfl, hb1⟩
                  have HBN := Lib.hid (hbw.trans (hb1.mono hzW))
                  clear hb1 c0 c1' c2' c3'
                  go_wp2_with fail
                  go_roundw
                  case rel => exact ⟨k + 1, by omega, by go_num, HX2, HBN.out⟩
                  case measure => simp [intOf]; omega
                | false =>
                  have h0 := of_decide_eq_false hz0
                  have HX2 : Hid (check l = nameErr (l.stations.take k) s) := by rw [Hid, HX0.out, chain, if_neg (by decide), HX.out, if_neg h0, if_pos h0]
                  have hne : ((nameErr (l.stations.take k) s : Int) != 0) = true := by rw [bne_iff_ne]; exact h0
                  clear HX hz0 h0
                  generalize nameErr (l.stations.take k) s = z at *
                  go_wp2_with fail
                  refine HN.out.mono ?_
                  rintro e w1 ⟨rfl, hb1⟩
                  have HBN := Lib.hid (HB.out.trans ((hbw.trans (hb1.mono hzW)).mono (by omega)))
                  clear hb1 c0 c1' c2' c3'
                  go_wp2_with fail
                  go_ret
                  exact ⟨ret1 HX2.out.symm, HBN.out⟩
              · have hki : ¬ (k : Int) < (n1 : Int) := by omega
                have HN1 : Hid (check l = chain 0 0 (namesErr [] l.points) (secsErr n1 [] l.sections) (linksErr n3 n2 [] l.links)) := by rw [Hid, HX0.out, HE.out, List.drop_of_length_le (by have := HE1.out; omega)]; rfl
                clear HE HX0
                go_wp2_with fail
                go_loopw [5] (fun i wr => ∃ (k : Nat), k ≤ n2 ∧ i = .int .i64 k ∧ Hid (namesErr [] l.points = namesErr (l.points.take k) (l.points.drop k)) ∧ Below W.heap.size W wr) (fun i _ => n2 - (intOf i).toNat)
                case atStart => exact ⟨0, Nat.zero_le _, rfl, E2, hbw⟩
                case round =>
                  clear hki hbw hk hlt hzW
                  obtain ⟨k, hk, rfl, HE, hbw⟩ := hrel
                  obtain ⟨wr2, rfl⟩ : ∃ wo : World, wo = wr := ⟨_, rfl⟩
                  clear E2 c0 c1' c2' c3'
                  have hzW := hbw.size
                  obtain ⟨c0, c1', c2', c3'⟩ := HK.out wr2 hbw
                  by_cases hlt : k < n2
                  · obtain ⟨ad, s, hA, hab, hs, x0⟩ := loadS (HLW.out.grow hbw hzW).pt hlt
                    have HX := Lib.hid (HE.out.trans (names_step hs))
                    have HN := Lib.hid (r_names A2 n2 c2 k l.points s wr2 (HLW.out.grow hbw hzW).pt hs hlt hm2 (HS2.out s (List.mem_of_getElem? hs)))
                    have hki : (k : Int) < (n2 : Int) := by omega
                    clear hA hs x0 HE hab
                    cases hz0 : decide (nameErr (l.points.take k) s = 0) with
                    | true =>
                      have h0 := of_decide_eq_true hz0
                      have HX2 : Hid (namesErr [] l.points = namesErr (l.points.take (k + 1)) (l.points.drop (k + 1))) := by rw [Hid, HX.out, if_pos h0]
                      rw [h0] at HN
                      clear HX hz0 h0
                      go_wp2_with fail
                      refine HN.out.mono ?_
                      rintro e w1 ⟨rfl, hb1⟩
                      have HBN := Lib.hid (hbw.trans (hb1.mono hzW))
                      clear hb1 c0 c1' c2' c3'
                      go_wp2_with fail
                      go_roundw
                      case rel => exact ⟨k + 1, by omega, by go_num, HX2, HBN.out⟩
                      case measure => simp [intOf]; omega
                    | false =>
                      have h0 := of_decide_eq_false hz0
                      have HX2 : Hid (check l = nameErr (l.points.take k) s) := by rw [Hid, HN1.out, chain, if_neg (by decide), if_neg (by decide), HX.out, if_neg h0, if_pos h0]
                      have hne : ((nameErr (l.points.take k) s : Int) != 0) = true := by rw [bne_iff_ne]; exact h0
                      clear HX hz0 h0
                      generalize nameErr (l.points.take k) s = z at *
                      go_wp2_with fail
                      refine HN.out.mono ?_
                      rintro e w1 ⟨rfl, hb1⟩
                      have HBN := Lib.hid (HB.out.trans ((hbw.trans (hb1.mono hzW)).mono (by omega)))
                      clear hb1 c0 c1' c2' c3'
                      go_wp2_with fail
                      go_ret
                      exact ⟨ret1 HX2.out.symm, HBN.out⟩
                  · have hki : ¬ (k : Int) < (n2 : Int) := by omega
                    have HN2 : Hid (check l = chain 0 0 0 (secsErr n1 [] l.sections) (linksErr n3 n2 [] l.links)) := by rw [Hid, HN1.out, HE.out, List.drop_of_length_le (by have := HE2.out; omega)]; rfl
                    clear HE HN1
                    have HSN := Lib.hid (sec_names ⟨A1, n1, c1, A2, n2, c2, A3, n3, c3, A4, n4, c4⟩ l.sections wr2 (HLW.out.grow hbw hzW).sec (by show n3 ≤ 100000; omega))
                    simp only [LV.val] at HSN
                    go_wp2_with fail
                    refine HSN.out.mono ?_
                    rintro e ws ⟨As, ns, cs, rfl, hOs, hbs⟩
                    have HBS := Lib.hid (hbw.trans (hbs.mono hzW))
                    have HRs := Lib.hid hOs.rd
                    have hns : ns = n3 := by have h1 := hOs.1; have h2 := HE3.out; simp only [List.length_map] at h1; omega
                    subst hns
                    have hzs := HBS.out.size
                    have HNM := Lib.hid HS3.out
                    clear hOs hbs HSN hbw c0 c1' c2' c3' hki hk hlt hzW
                    obtain ⟨c0, c1', c2', c3'⟩ := HK.out ws HBS.out
                    go_wp2_with fail
                    go_loopw [8] (fun i wr => ∃ (k : Nat), k ≤ ns ∧ i = .int .i64 k ∧ Hid (secsErr n1 [] l.sections = secsErr n1 ((l.sections.map Sec.name).take k) (l.sections.drop k)) ∧ Below ws.heap.size ws wr) (fun i _ => ns - (intOf i).toNat)
                    case atStart => exact ⟨0, Nat.zero_le _, rfl, E3, Below.refl _ _⟩
                    case round =>
                      obtain ⟨k, hk, rfl, HE, hbw0⟩ := hrel
                      obtain ⟨wr3, rfl⟩ : ∃ wo : World, wo = wr := ⟨_, rfl⟩
                      clear E3 c0 c1' c2' c3'
                      have hbw := HBS.out.trans (hbw0.mono hzs)
                      have hzW := hbw.size
                      have hzw0 := hbw0.size
                      have HBW0 := Lib.hid hbw0
                      obtain ⟨c0, c1', c2', c3'⟩ := HK.out wr3 hbw
                      by_cases hlt : k < ns
                      · obtain ⟨ad, s, hA, hab, hs, x0, x1, x2, x3, x4⟩ := loadSec (HLW.out.grow hbw hzW).sec hlt
                        have hs' : (l.sections.map Sec.name)[k]? = some s.name := by simp [hs]
                        have HX := Lib.hid (HE.out.trans (secs_step hs))
                        have HN := Lib.hid (r_names As ns cs k (l.sections.map Sec.name) s.name wr3 (HRs.out.grow hbw0 hzw0) hs' hlt hm3 (HS3.out s (List.mem_of_getElem? hs)))
                        have hki : (k : Int) < (ns : Int) := by omega
                        subst hA
                        clear hs hs' HE hbw0
                        cases hz0 : decide (nameErr ((l.sections.map Sec.name).take k) s.name = 0) with
                        | false =>
                          have h0 := of_decide_eq_false hz0
                          have HX2 : Hid (check l = nameErr ((l.sections.map Sec.name).take k) s.name) := by rw [Hid, HN2.out, chain, if_neg (by decide), if_neg (by decide), if_neg (by decide), HX.out, if_neg h0, if_pos h0]
                          have hne : ((nameErr ((l.sections.map Sec.name).take k) s.name : Int) != 0) = true := by rw [bne_iff_ne]; exact h0
                          clear HX hz0 h0 x0 x1 x2 x3 x4
                          generalize nameErr ((l.sections.map Sec.name).take k) s.name = z at *
                          go_wp2_with fail
                          refine HN.out.mono ?_
                          rintro e w1 ⟨rfl, hb1⟩
                          have HBN := Lib.hid (HB.out.trans ((hbw.trans (hb1.mono hzW)).mono (by omega)))
                          clear hb1 c0 c1' c2' c3'
                          go_wp2_with fail
                          go_ret
                          exact ⟨ret1 HX2.out.symm, HBN.out⟩
                        | true =>
                          have h0 := of_decide_eq_true hz0
                          have HX1 : Hid (secsErr n1 [] l.sections = (if inS n1 s = true then secsErr n1 ((l.sections.map Sec.name).take (k + 1)) (l.sections.drop (k + 1)) else 4)) := by rw [Hid, HX.out, if_pos h0]
                          rw [h0] at HN
                          clear HX hz0 h0
                          have HXS := Lib.hid (⟨x0, x1, x2, x3, x4⟩ : _ ∧ _ ∧ _ ∧ _ ∧ _)
                          clear x0 x1 x2 x3 x4
                          go_wp2_with fail
                          refine HN.out.mono ?_
                          rintro e w1 ⟨rfl, hb1⟩
                          have hz1 := hb1.size
                          have hbw1 := hbw.trans (hb1.mono hzW)
                          have hadk : (ad.add (k * 5)).block < wr3.heap.size := by rw [Mem.block_add]; omega
                          have x0 := (hb1.cell hadk).trans HXS.out.1
                          have x1 := (hb1.cell (p := ⟨_, _, none⟩) hadk).trans HXS.out.2.1
                          have x2 := (hb1.cell (p := ⟨_, _, none⟩) hadk).trans HXS.out.2.2.1
                          have x3 := (hb1.cell (p := ⟨_, _, none⟩) hadk).trans HXS.out.2.2.2.1
                          have x4 := (hb1.cell (p := ⟨_, _, none⟩) hadk).trans HXS.out.2.2.2.2
                          clear c0 c1' c2' c3'
                          obtain ⟨c0, c1', c2', c3'⟩ := HK.out w1 hbw1
                          obtain ⟨wa, hwa⟩ : ∃ wa, w1.alloc (.cells #[.string (str s.name), .int .i64 s.len, .int .i64 s.lim, .int .i64 s.grade, .int .i64 s.st] 81) = wa := ⟨_, rfl⟩
                          have hba : Below w1.heap.size w1 wa := by rw [← hwa]; exact (Below.refl _ _).alloc (Nat.le_refl _) _
                          have hza : w1.heap.size < wa.heap.size := by rw [← hwa]; simp
                          have HE5 := Lib.hid (show wa.cell? ⟨w1.heap.size, 1, none⟩ = some (.int .i64 s.len) ∧ wa.cell? ⟨w1.heap.size, 2, none⟩ = some (.int .i64 s.lim) ∧ wa.cell? ⟨w1.heap.size, 3, none⟩ = some (.int .i64 s.grade) ∧ wa.cell? ⟨w1.heap.size, 4, none⟩ = some (.int .i64 s.st) by rw [← hwa]; simp)
                          have HBA0 := Lib.hid (HBW0.out.trans ((hb1.trans (hba.mono hz1)).mono hzw0))
                          have HCA := Lib.hid (HK.out wa (hbw1.trans (hba.mono (by omega))))
                          have HBN := Lib.hid (HB.out.trans ((hbw1.trans (hba.mono (by omega))).mono (by omega)))
                          clear hb1 hba HXS HN hbw hbw1
                          go_upto_region 25 with fail
                          clear hwa c0 c1' c2' c3' x0 x1 x2 x3 x4
                          obtain ⟨c0, c1', c2', c3'⟩ := HCA.out
                          obtain ⟨y1, y2, y3, y4⟩ := HE5.out
                          have HIS : Hid (inS n1 s = (btw s.len 1 400 && (btw s.lim 1000 100000 && (btw s.grade (-40) 40 && btw s.st (-1) ((n1 : Int) - 1))))) := ins_eq n1 s
                          cases h1 : btw s.len 1 400 with
                          | false =>
                            have HX2 : Hid (check l = 4) := by rw [Hid, HN2.out, HX1.out, HIS.out, h1]; rfl
                            clear HX1 HIS
                            go_wp2_with (go_at_call 62; refine (r_in _ _ _ _).mono ?_; rintro e w' ⟨rfl, rfl⟩; (first | rw [h1]))
                            go_ret
                            exact ⟨ret1 HX2.out.symm, HBN.out⟩
                          | true =>
                            cases h2 : btw s.lim 1000 100000 with
                            | false =>
                              have HX2 : Hid (check l = 4) := by rw [Hid, HN2.out, HX1.out, HIS.out, h1, h2]; rfl
                              clear HX1 HIS
                              go_wp2_with (go_at_call 62; refine (r_in _ _ _ _).mono ?_; rintro e w' ⟨rfl, rfl⟩; (first | rw [h1] | rw [h2]))
                              go_ret
                              exact ⟨ret1 HX2.out.symm, HBN.out⟩
                            | true =>
                              cases h3 : btw s.grade (-40) 40 with
                              | false =>
                                have HX2 : Hid (check l = 4) := by rw [Hid, HN2.out, HX1.out, HIS.out, h1, h2, h3]; rfl
                                clear HX1 HIS
                                go_wp2_with (go_at_call 62; refine (r_in _ _ _ _).mono ?_; rintro e w' ⟨rfl, rfl⟩; (first | rw [h1] | rw [h2] | rw [h3]))
                                go_ret
                                exact ⟨ret1 HX2.out.symm, HBN.out⟩
                              | true =>
                                cases h4 : btw s.st (-1) ((n1 : Int) - 1) with
                                | false =>
                                  have HX2 : Hid (check l = 4) := by rw [Hid, HN2.out, HX1.out, HIS.out, h1, h2, h3, h4]; rfl
                                  clear HX1 HIS
                                  go_wp2_with (go_at_call 62; refine (r_in _ _ _ _).mono ?_; rintro e w' ⟨rfl, rfl⟩; (first | rw [h1] | rw [h2] | rw [h3] | rw [h4]))
                                  go_ret
                                  exact ⟨ret1 HX2.out.symm, HBN.out⟩
                                | true =>
                                  have HX2 : Hid (secsErr n1 [] l.sections = secsErr n1 ((l.sections.map Sec.name).take (k + 1)) (l.sections.drop (k + 1))) := by rw [Hid, HX1.out, HIS.out, h1, h2, h3, h4]; rfl
                                  clear HX1 HIS
                                  go_wp2_with (go_at_call 62; refine (r_in _ _ _ _).mono ?_; rintro e w' ⟨rfl, rfl⟩; (first | rw [h1] | rw [h2] | rw [h3] | rw [h4]))
                                  go_roundw
                                  case rel => exact ⟨k + 1, by omega, by go_num, HX2, HBA0.out⟩
                                  case measure => simp [intOf]; omega
                      · have hki : ¬ (k : Int) < (ns : Int) := by omega
                        have HN3 : Hid (check l = chain 0 0 0 0 (linksErr ns n2 [] l.links)) := by rw [Hid, HN2.out, HE.out, List.drop_of_length_le (by have := HE3.out; omega)]; rfl
                        clear HE HN2
                        go_wp2_with fail
                        go_loopw [11] (fun i wr => ∃ (k : Nat), k ≤ n4 ∧ i = .int .i64 k ∧ Hid (linksErr ns n2 [] l.links = linksErr ns n2 (l.links.take k) (l.links.drop k)) ∧ Below W.heap.size W wr) (fun i _ => n4 - (intOf i).toNat)
                        case atStart => exact ⟨0, Nat.zero_le _, rfl, E4, hbw⟩
                        case round =>
                          clear hki hbw hk hlt hzW hbw0 HBW0 hzw0
                          obtain ⟨k, hk, rfl, HE, hbw⟩ := hrel
                          obtain ⟨wr4, rfl⟩ : ∃ wo : World, wo = wr := ⟨_, rfl⟩
                          clear E4 c0 c1' c2' c3'
                          have hzW := hbw.size
                          obtain ⟨c0, c1', c2', c3'⟩ := HK.out wr4 hbw
                          by_cases hlt : k < n4
                          · obtain ⟨ad, s, hA, hab, hs, x0, x1, x2, x3, x4, x5⟩ := loadLnk (HLW.out.grow hbw hzW).lnk hlt
                            have HX := Lib.hid (HE.out.trans (links_step hs))
                            have HN := Lib.hid (r_link ⟨A1, n1, c1, A2, n2, c2, A3, ns, c3, A4, n4, c4⟩ l.links k s wr4 (HLW.out.grow hbw hzW).lnk hs hlt hm4 hm2 hm3)
                            simp only [LV.val] at HN
                            have hki : (k : Int) < (n4 : Int) := by omega
                            clear hA hs x0 x1 x2 x3 x4 x5 HE hab
                            cases hz0 : decide (linkErr ns n2 (l.links.take k) s = 0) with
                            | true =>
                              have h0 := of_decide_eq_true hz0
                              have HX2 : Hid (linksErr ns n2 [] l.links = linksErr ns n2 (l.links.take (k + 1)) (l.links.drop (k + 1))) := by rw [Hid, HX.out, if_pos h0]
                              rw [h0] at HN
                              clear HX hz0 h0
                              go_wp2_with fail
                              refine HN.out.mono ?_
                              rintro e w1 ⟨rfl, hb1⟩
                              have HBN := Lib.hid (hbw.trans (hb1.mono hzW))
                              clear hb1 c0 c1' c2' c3'
                              go_wp2_with fail
                              go_roundw
                              case rel => exact ⟨k + 1, by omega, by go_num, HX2, HBN.out⟩
                              case measure => simp [intOf]; omega
                            | false =>
                              have h0 := of_decide_eq_false hz0
                              have HX2 : Hid (check l = linkErr ns n2 (l.links.take k) s) := by rw [Hid, HN3.out, chain, if_neg (by decide), if_neg (by decide), if_neg (by decide), if_neg (by decide), HX.out, if_neg h0]
                              have hne : ((linkErr ns n2 (l.links.take k) s : Int) != 0) = true := by rw [bne_iff_ne]; exact h0
                              clear HX hz0 h0
                              generalize linkErr ns n2 (l.links.take k) s = z at *
                              go_wp2_with fail
                              refine HN.out.mono ?_
                              rintro e w1 ⟨rfl, hb1⟩
                              have HBN := Lib.hid (HB.out.trans ((hbw.trans (hb1.mono hzW)).mono (by omega)))
                              clear hb1 c0 c1' c2' c3'
                              go_wp2_with fail
                              go_ret
                              exact ⟨ret1 HX2.out.symm, HBN.out⟩
                          · have hki : ¬ (k : Int) < (n4 : Int) := by omega
                            have HN4 : Hid (check l = 0) := by rw [Hid, HN3.out, HE.out, List.drop_of_length_le (by have := HE4.out; omega)]; rfl
                            have HBN := Lib.hid (HB.out.trans (hbw.mono (by omega)))
                            clear HE HN3 hbw
                            go_wp2_with fail
                            go_ret
                            exact ⟨ret1 HN4.out.symm, HBN.out⟩
end Go.Proofs.YtnfelcjpjodjhaaGreat.RCheck
