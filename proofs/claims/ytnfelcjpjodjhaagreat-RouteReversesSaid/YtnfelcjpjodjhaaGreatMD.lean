/-
  Contracts of the document's own functions on names of lists, on ranges and on the ends of a link.
  Contract of the document's own function that asks whether a link may have an end.
  Contracts of the source of choices.
  Plain mathematics of generated layouts: a row of two or three stations is a valid layout, whatever its sections' numbers. No program in it.
  Contract of the statements' short look that the program is awake.
  From the walk of a statement of this seat to the given row: arguments opened (integers, strings, slices of integers and of bytes), the one cell of the library that searches read, and the row's last step for a call that has changed no old memory.
-/
import Derived.Test.YtnfelcjpjodjhaaGreatMC
import Derived.Deep.QuietTactic
import Derived.BigQuiet
import Derived.Deep.RegionHeld3
import Derived.Test.YtnfelcjpjodjhaaGreatMB
import Derived.Deep.DeepCutAuto
import Derived.HandedShaped
import Derived.Shelf.Vars
import Derived.Deep.SlicePairs
import Derived.Carry
namespace Go.Proofs.YtnfelcjpjodjhaaGreat.RNames
open Go.ChangeShapes Go.WideShapes Go.ChangeAt Go.RowKit Wd Small Mem Lay Recs Keep Names PNames PSecs
set_option linter.unusedVariables false

theorem r_in (x lo hi : Int) (w : World) : Calls Tryz.prog 62 #[.int .i64 x, .int .i64 lo, .int .i64 hi] w (Says (btw x lo hi) w) := by
  have E : Hid (btw x lo hi = (decide (lo ≤ x) && decide (x ≤ hi))) := rfl
  go_enter Tryz.func62, Tryz.ntmps62
  go_wp2
  all_goals go_ret
  all_goals exact ⟨retb (by rw [E.out, Bool.eq_iff_iff]; simp; omega), rfl⟩

theorem str_ne {a b : Bs} (h : a ≠ b) : ((str a).toList == (str b).toList) = false := by
  rw [beq_eq_false_iff_ne]
  intro e
  apply h
  have h1 : bs (str a) = bs (str b) := by
    rw [Lib.toList_data, Lib.toList_data] at e; exact e
  exact h1
theorem contains_take {L : List Bs} {k : Nat} {s t : Bs} (h : L[k]? = some t) (hne : t ≠ s) (h0 : (L.take k).contains s = false) : (L.take (k + 1)).contains s = false := by
  rw [take_succ h, contains_snoc, h0]
  simp [hne.symm]
theorem contains_hit {L : List Bs} {k i : Nat} {s : Bs} (h : L[k]? = some s) (hk : k < i) : (L.take i).contains s = true := by
  simp only [List.contains_iff_mem]
  have : (L.take i)[k]? = some s := by rw [List.getElem?_take, if_pos hk]; exact h
  exact List.mem_of_getElem? this

set_option maxHeartbeats 1000000 in
theorem r_names (A : Option Addr) (n c i : Nat) (L : List Bs) (s : Bs) (w : World) (hL : Rd sR w w.heap.size A n L) (hs : L[i]? = some s) (hi : i < n) (hn : n ≤ 9223372036854775807) (hsz : s.length ≤ 9223372036854775807) :
    Calls Tryz.prog 60 #[.slice A n c, .int .i64 i] w (ErrPost (nameErr (L.take i) s) w) := by
  obtain ⟨ad, s', rfl, hab, hs', c0⟩ := loadS hL hi
  have e : s = s' := by rw [hs] at hs'; exact Option.some.inj hs'
  subst e
  clear hs'
  cases hN : isName s with
  | false =>
    have E := Lib.hid (nameErr_bad (done := L.take i) hN)
    clear hL hs
    go_enter Tryz.func60, Tryz.ntmps60
    go_wp2_with (go_at_call 90; refine (r_name _ _ (by rw [size_str]; omega)).mono ?_; rintro e w' ⟨rfl, rfl⟩; rw [bs_str, hN])
    go_ret
    exact ⟨ret1 E.out.symm, Below.refl _ _⟩
  | true =>
    have E0 : Hid ((L.take 0).contains s = false) := rfl
    have HS := Lib.hid hs
    have HNm := Lib.hid hN
    clear hs
    go_enter Tryz.func60, Tryz.ntmps60
    go_wp2_with (go_at_call 90; refine (r_name _ _ (by rw [size_str]; omega)).mono ?_; rintro e w' ⟨rfl, rfl⟩; rw [bs_str, hN])
    clear hN
    go_loopw [5] (fun t wr => ∃ k : Nat, k ≤ i ∧ t = .int .i64 k ∧ Hid ((L.take k).contains s = false) ∧ Below w.heap.size w wr) (fun t _ => i - (intOf t).toNat)
    case atStart => exact ⟨0, Nat.zero_le _, rfl, E0, Below.refl _ _⟩
    case round =>
      obtain ⟨k, hk, rfl, HE, hbw⟩ := hrel
      clear E0
      by_cases hlt : k < i
      · obtain ⟨ad2, t, ht, hab2, htk, d0⟩ := loadS (hL.below hbw) (show k < n by omega)
        cases ht
        have c0' : wr.cell? (ad.add i) = some (.string (str s)) := (hbw.cell (p := ad.add i) (by rw [Mem.block_add]; exact hab)).trans c0
        have hkn : (k : Int) < (n : Int) := by omega
        have hin : (i : Int) < (n : Int) := by omega
        clear c0 hL
        by_cases e : t = s
        · subst e
          have HR := Lib.hid (nameErr_dup HNm.out (contains_hit htk hlt))
          clear htk HE HS
          go_wp2
          go_quiet (fail)
          go_wp2
          go_ret
          exact ⟨ret1 HR.out.symm, Mem.below_draws hbw _⟩
        · have hne := str_ne e
          have HE2 := Lib.hid (contains_take htk e HE.out)
          clear htk HE e
          go_wp2
          go_quiet (fail)
          go_wp2
          go_roundw
          case rel => exact ⟨k + 1, by omega, by go_num, HE2, Mem.below_draws hbw _⟩
          case measure => simp [intOf]; omega
      · obtain rfl : k = i := by omega
        have HR := Lib.hid (nameErr_ok HNm.out HE.out)
        clear HE HS hL c0
        go_wp2
        go_ret
        exact ⟨ret1 HR.out.symm, hbw⟩

/-- what a call leaves that answers a list of names of its own -/
def StrsPost (L : List Bs) (w : World) (e : Ending) (w' : World) : Prop := ∃ A n c, e = .returned (.slice A n c) ∧ Own sR w' w.heap.size (.slice A n c) n L ∧ Below w.heap.size w w'
theorem infoS : (Tryz.prog.info? 9).map (fun i => (i.zero, i.size, i.bytes)) = some (some (.string ByteArray.empty), 1, 16) := by kernel_rfl

set_option maxRecDepth 100000 in
set_option maxHeartbeats 1000000 in
theorem sec_names (v : LV) (S : List Sec) (w : World) (hL : Rd secR w w.heap.size v.A3 v.n3 S) (hn : v.n3 ≤ 100000) : Calls Tryz.prog 61 #[v.val] w (StrsPost (S.map Sec.name) w) := by
  obtain ⟨ih, hih, hz0, hz1, hz2⟩ := info_parts infoS
  obtain ⟨W, hW, HZ, HB0, HBX⟩ := boxed v w
  have HC := Lib.hid HBX
  have hgW : w.heap.size < W.heap.size := by rw [HZ.out]; omega
  have HB := Lib.hid HB0
  have hr := hL.grow HB0 (show w.heap.size ≤ W.heap.size by omega)
  have hkeep : ∀ wr, Below W.heap.size W wr → _ := fun wr hb => box_kept hb hgW HC.out
  have HK := Lib.hid hkeep
  clear hL hkeep HB0 HBX
  obtain ⟨A1, n1, c1, A2, n2, c2, A3, n3, c3, A4, n4, c4⟩ := v
  simp only [LV.val] at *
  have E : Hid ((S.map Sec.name).take 0 = []) := rfl
  go_enter Tryz.func61, Tryz.ntmps61
  go_upto_region 1 with fail
  clear hW
  go_wp2_with fail
  go_loopw [3, 4] (fun t i wr => ∃ (k c : Nat) (A : Option Addr), k ≤ n3 ∧ i = .int .i64 k ∧ t = .slice A k c ∧ Own sR wr W.heap.size (.slice A k c) k ((S.map Sec.name).take k) ∧ Below W.heap.size W wr) (fun _ i _ => n3 - (intOf i).toNat)
  case atStart => exact ⟨0, 0, none, Nat.zero_le _, rfl, rfl, by rw [E.out]; exact Own.nil _ _, Below.refl _ _⟩
  case round =>
    obtain ⟨k, c, A, hk, rfl, rfl, hO, hbw⟩ := hrel
    clear E
    have hzW := hbw.size
    obtain ⟨c0, c1', c2', c3'⟩ := HK.out wr hbw
    by_cases hlt : k < n3
    · obtain ⟨ad, s, rfl, hab, hs, d0, d1, d2, d3, d4⟩ := loadSec (hr.below hbw) hlt
      have HT := Lib.hid (take_succ (L := S.map Sec.name) (k := k) (s := s.name) (by simp [hs]))
      have hkn : (k : Int) < (n3 : Int) := by omega
      have hn63 : k + 1 ≤ maxLen := by unfold maxLen; omega
      have hby : (k + 1) * 16 ≤ 140737488355328 := by omega
      have HO := Lib.hid hO
      clear hr hO hs d1 d2 d3 d4
      go_wp2_with (at_builtin; refine wpList_append_own _ rfl _ _ 22 rfl W.heap.size 9 ih _ 1 16 Tryz.underlying22 hih hz0 hz1 hz2 rfl (by omega) (.slice A k c) k (sR.cs ((S.map Sec.name).take k)) rfl (HO.out.2.alloc _) ⟨wr.heap.size, 0, none⟩ 1 1 [.string (str s.name)] rfl rfl (cell_one_new _ _ _) (one_cell _ rfl) hn63 hby (by simp; omega) ?_)
      intro v w1 hown hgrow _
      obtain ⟨A', c', hv, hO', hb'⟩ := appended (R := sR) (a := s.name) hbw hzW HO.out.1 HO.out.2 hown hgrow
      rw [← HT.out] at hO'
      have HO2 := Lib.hid hO'
      rw [hv]
      clear hown hgrow hv hO' HO c0 c1' c2' c3' d0
      go_wp2_with fail
      go_roundw
      case rel => exact ⟨k + 1, c', A', by omega, by go_num, rfl, HO2.out, hb'⟩
      case measure => simp [intOf]; omega
    · have HX : Hid ((S.map Sec.name).take k = S.map Sec.name) := List.take_of_length_le (by have := hr.1; simp; omega)
      rw [HX.out] at hO
      go_wp2_with fail
      go_ret
      exact ⟨A, k, c, rfl, hO.base_ (by omega), HB.out.trans (hbw.mono (by omega))⟩

theorem has_split (k : Lnk) (x y : Int) : has k (x, y) = ((k.a == x) && (k.ae == y) || (k.b == x) && (k.be == y)) := by
  rw [Bool.eq_iff_iff, has_iff]
  simp [Lnk.x, Lnk.y]
set_option maxHeartbeats 1000000 in
theorem r_has (k : Lnk) (x y : Int) (w : World) : Calls Tryz.prog 91 #[.agg #[.int .i64 k.a, .int .i64 k.ae, .int .i64 k.b, .int .i64 k.be, .int .i64 k.pt, .int .i64 k.ps], .agg #[.int .i64 x, .int .i64 y]] w (BoolPost (has k (x, y)) w) := by
  have E := Lib.hid (has_split k x y)
  obtain ⟨a, ae, b, be, pt, ps⟩ := k
  simp only at *
  go_enter Tryz.func91, Tryz.ntmps91
  cases h1 : (a == x) <;> cases h2 : (ae == y) <;> cases h3 : (b == x) <;> cases h4 : (be == y)
  all_goals
    rw [h1, h2, h3, h4] at E
    go_wp2
    go_ret
    exact ⟨retb E.out.symm, ((Below.refl _ _).alloc (Nat.le_refl _) _).alloc (by simp) _⟩
end Go.Proofs.YtnfelcjpjodjhaaGreat.RNames

namespace Go.Proofs.YtnfelcjpjodjhaaGreat.RFree
open Go.ChangeShapes Go.WideShapes Go.ChangeAt Go.RowKit Wd Small Mem Lay Recs Keep Names PNames PSecs PEnds PLnk RNames
set_option linter.unusedVariables false

/-- how many earlier links have the end, and which one, where it is one *-/
def LastP (ks : List Lnk) (m : Nat) (o : Lnk) : Prop := m = ks.length ∧ ∀ k, ks = [k] → o = k
theorem LastP.yes {ks : List Lnk} {m : Nat} {o k : Lnk} (h : LastP ks m o) : LastP (ks ++ [k]) (m + 1) k := by
  refine ⟨by simp [h.1], fun k' e => ?_⟩
  cases ks with
  | nil => simpa using e
  | cons a r => simp at e
theorem filter_next {L : List Lnk} {j : Nat} {l : Lnk} (e : Lay.End) (h : L[j]? = some l) : (L.take (j + 1)).filter (has · e) = (L.take j).filter (has · e) ++ if has l e = true then [l] else [] := by
  rw [take_succ h, List.filter_append]
  by_cases hx : has l e = true
  · rw [if_pos hx]; simp [hx]
  · rw [if_neg hx]; simp [hx]
def freeP (m : Nat) (o k : Lnk) : Bool := (m == 0) || ((m == 1) && (decide (0 ≤ k.pt) && ((o.pt == k.pt) && !(o.ps == k.ps))))
theorem free_last (done : List Lnk) (k : Lnk) (e : Lay.End) (m : Nat) (o : Lnk) (h : LastP (done.filter (has · e)) m o) : free done k e = freeP m o k := by
  unfold free freeP
  obtain ⟨h1, h2⟩ := h
  match hf : done.filter (has · e), h1, h2 with
  | [], h1, _ => subst h1; rfl
  | [k'], h1, h2 =>
    subst h1
    rw [h2 k' rfl]
    rw [Bool.eq_iff_iff]
    simp [and_assoc]
  | _ :: _ :: _, h1, _ => subst h1; simp
theorem Row6.put {w : World} {g : Nat} {o k : Lnk} (h : Row6 w g o) : Row6 ((((((w.setCell ⟨g, 0, none⟩ (.int .i64 k.a)).setCell ⟨g, 1, none⟩ (.int .i64 k.ae)).setCell ⟨g, 2, none⟩ (.int .i64 k.b)).setCell ⟨g, 3, none⟩ (.int .i64 k.be)).setCell ⟨g, 4, none⟩ (.int .i64 k.pt)).setCell ⟨g, 5, none⟩ (.int .i64 k.ps)) g k := by
  obtain ⟨h0, h1, h2, h3, h4, h5⟩ := h
  refine ⟨?_, ?_, ?_, ?_, ?_, ?_⟩
  · rw [set_other (by omega), set_other (by omega), set_other (by omega), set_other (by omega), set_other (by omega)]; exact set_same h0
  · rw [set_other (by omega), set_other (by omega), set_other (by omega), set_other (by omega)]; exact set_same ((set_other (by omega)).trans h1)
  · rw [set_other (by omega), set_other (by omega), set_other (by omega)]; exact set_same ((set_other (by omega)).trans ((set_other (by omega)).trans h2))
  · rw [set_other (by omega), set_other (by omega)]; exact set_same ((set_other (by omega)).trans ((set_other (by omega)).trans ((set_other (by omega)).trans h3)))
  · rw [set_other (by omega)]; exact set_same ((set_other (by omega)).trans ((set_other (by omega)).trans ((set_other (by omega)).trans ((set_other (by omega)).trans h4))))
  · exact set_same ((set_other (by omega)).trans ((set_other (by omega)).trans ((set_other (by omega)).trans ((set_other (by omega)).trans ((set_other (by omega)).trans h5)))))

set_option maxRecDepth 100000 in
set_option maxHeartbeats 2000000 in
theorem r_free (v : LV) (L : List Lnk) (i : Nat) (k : Lnk) (x y : Int) (w : World) (hL : Rd lnkR w w.heap.size v.A4 v.n4 L) (hk : L[i]? = some k) (hi : i < v.n4) (hn : v.n4 ≤ 9223372036854775807) :
    Calls Tryz.prog 92 #[v.val, .int .i64 i, .agg #[.int .i64 x, .int .i64 y]] w (BoolPost (free (L.take i) k (x, y)) w) := by
  obtain ⟨W2, hW2⟩ : ∃ W, (w.alloc (.cells #[.slice v.A1 v.n1 v.c1, .slice v.A2 v.n2 v.c2, .slice v.A3 v.n3 v.c3, .slice v.A4 v.n4 v.c4] 26)).alloc (.cells #[.int .i64 x, .int .i64 y] 104) = W := ⟨_, rfl⟩
  have hb2 : Below w.heap.size w W2 := by rw [← hW2]; exact ((Below.refl _ _).alloc (Nat.le_refl _) _).alloc (by simp) _
  have hz2 : w.heap.size + 1 < W2.heap.size := by rw [← hW2]; simp
  have HX2 : Hid (Row2 W2 (w.heap.size + 1) x y) := by rw [Hid, ← hW2]; unfold Row2; simp
  have HC3 : Hid (W2.cell? ⟨w.heap.size, 3, none⟩ = some (.slice v.A4 v.n4 v.c4)) := by rw [Hid, ← hW2]; simp
  obtain ⟨W, hW⟩ : ∃ W, (W2.alloc (.cells #[.int .i64 k.a, .int .i64 k.ae, .int .i64 k.b, .int .i64 k.be, .int .i64 k.pt, .int .i64 k.ps] 106)).alloc (.cells #[.int .i64 0, .int .i64 0, .int .i64 0, .int .i64 0, .int .i64 0, .int .i64 0] 106) = W := ⟨_, rfl⟩
  have hbW : Below W2.heap.size W2 W := by rw [← hW]; exact ((Below.refl _ _).alloc (Nat.le_refl _) _).alloc (by simp) _
  have hzW : W2.heap.size + 1 < W.heap.size := by rw [← hW]; simp
  have HK6 : Hid (Row6 W W2.heap.size k) := by rw [Hid, ← hW]; unfold Row6; simp
  have HO6 : Hid (Row6 W (W2.heap.size + 1) ⟨0, 0, 0, 0, 0, 0⟩) := by rw [Hid, ← hW]; unfold Row6; simp
  have HF6 : Hid (∀ j, W.frozen? ⟨W2.heap.size + 1, j, none⟩ = false) := by rw [Hid, ← hW]; simp
  have HB : Hid (Below w.heap.size w W) := hb2.trans (hbW.mono (by omega))
  have hr2 := hL.grow hb2 (show w.heap.size ≤ W2.heap.size by omega)
  have HR := Lib.hid (hr2.below hbW)
  obtain ⟨ad, k', hA, hab, hk', g0, g1, g2, g3, g4, g5⟩ := loadLnk hr2 hi
  have e : k = k' := by rw [hk] at hk'; exact Option.some.inj hk'
  subst e
  have HE0 : Hid (LastP ((L.take 0).filter (has · (x, y))) 0 ⟨0, 0, 0, 0, 0, 0⟩) := ⟨rfl, fun k h => by simp at h⟩
  have HFR : Hid (∀ m o, LastP ((L.take i).filter (has · (x, y))) m o → free (L.take i) k (x, y) = freeP m o k) := fun m o h => free_last (L.take i) k (x, y) m o h
  have HX := Lib.hid (HX2.out.below hbW (by omega))
  have HCW : Hid (W.cell? ⟨w.heap.size, 3, none⟩ = some (.slice v.A4 v.n4 v.c4)) := (hbW.cell (p := ⟨w.heap.size, 3, none⟩) (by simp; omega)).trans HC3.out
  clear hL hk' hk hb2 hbW hr2
  obtain ⟨A1, n1, c1, A2, n2, c2, A3, n3, c3, A4, n4, c4⟩ := v
  simp only at hA
  subst hA
  simp only [LV.val] at *
  have hin : (i : Int) < (n4 : Int) := by omega
  have c3' := HC3.out
  have HW := Lib.hid hW
  clear hW
  go_enter Tryz.func92, Tryz.ntmps92
  go_upto_region 1 with fail
  clear hW2
  go_upto_region 3 with fail
  rw [HW.out]
  clear HW g0 g1 g2 g3 g4 g5 c3'
  go_wp2_with fail
  go_loopw [8, 10] (fun t8 t10 wr => ∃ (j m : Nat) (o : Lnk), j ≤ i ∧ t8 = .int .i64 m ∧ t10 = .int .i64 j ∧ m ≤ j ∧ Hid (Row6 wr (W2.heap.size + 1) o ∧ ∀ q, wr.frozen? ⟨W2.heap.size + 1, q, none⟩ = false) ∧ Hid (LastP ((L.take j).filter (has · (x, y))) m o) ∧ Below (W2.heap.size + 1) W wr) (fun _ t10 _ => i - (intOf t10).toNat)
  case atStart => exact ⟨0, 0, _, Nat.zero_le _, rfl, rfl, Nat.le_refl _, ⟨HO6.out, HF6.out⟩, HE0, Below.refl _ _⟩
  case round =>
    obtain ⟨j, m, o, hj, rfl, rfl, hmj, HO, HLP, hbr⟩ := hrel
    clear HE0 HO6 HF6
    have hzr := hbr.size
    have HXr := Lib.hid (HX.out.below hbr (by omega))
    have HKr := Lib.hid (HK6.out.below hbr (by omega))
    have c3' : wr.cell? ⟨w.heap.size, 3, none⟩ = some (.slice (some ad) n4 c4) := (hbr.cell (p := ⟨w.heap.size, 3, none⟩) (by simp; omega)).trans HCW.out
    by_cases hlt : j < i
    · have hbr2 : Below W2.heap.size W wr := hbr.mono (by omega)
      obtain ⟨ad2, l, ha2, hab2, hl, d0, d1, d2, d3, d4, d5⟩ := loadLnk (HR.out.below hbr2) (show j < n4 by omega)
      cases ha2
      obtain ⟨x0, x1⟩ := HXr.out
      have hjn : (j : Int) < (n4 : Int) := by omega
      have HFN := Lib.hid (filter_next (x, y) hl)
      have HLP0 := HLP.out
      have hb0 := Below.refl wr.heap.size wr
      have hadb : (ad.add (j * 6)).block < wr.heap.size := by rw [Mem.block_add]; omega
      have hwb : w.heap.size + 1 < wr.heap.size := by omega
      have KA : Hid (∀ w', Below wr.heap.size wr w' → w'.cell? ⟨w.heap.size, 3, none⟩ = some (.slice (some ad) n4 c4) ∧ w'.cell? (ad.add (j * 6)) = some (.int .i64 l.a) ∧ w'.cell? ⟨(ad.add (j * 6)).block, (ad.add (j * 6)).off + 1, none⟩ = some (.int .i64 l.ae) ∧ w'.cell? ⟨(ad.add (j * 6)).block, (ad.add (j * 6)).off + 2, none⟩ = some (.int .i64 l.b) ∧ w'.cell? ⟨(ad.add (j * 6)).block, (ad.add (j * 6)).off + 3, none⟩ = some (.int .i64 l.be) ∧ w'.cell? ⟨(ad.add (j * 6)).block, (ad.add (j * 6)).off + 4, none⟩ = some (.int .i64 l.pt) ∧ w'.cell? ⟨(ad.add (j * 6)).block, (ad.add (j * 6)).off + 5, none⟩ = some (.int .i64 l.ps) ∧ w'.cell? ⟨w.heap.size + 1, 0, none⟩ = some (.int .i64 x) ∧ w'.cell? ⟨w.heap.size + 1, 1, none⟩ = some (.int .i64 y) ∧ Below wr.heap.size wr w') := fun w' hb =>
        ⟨(hb.cell (p := ⟨w.heap.size, 3, none⟩) (by simp; omega)).trans c3', (hb.cell hadb).trans d0, (hb.cell (p := ⟨(ad.add (j * 6)).block, (ad.add (j * 6)).off + 1, none⟩) hadb).trans d1, (hb.cell (p := ⟨(ad.add (j * 6)).block, (ad.add (j * 6)).off + 2, none⟩) hadb).trans d2, (hb.cell (p := ⟨(ad.add (j * 6)).block, (ad.add (j * 6)).off + 3, none⟩) hadb).trans d3,
          (hb.cell (p := ⟨(ad.add (j * 6)).block, (ad.add (j * 6)).off + 4, none⟩) hadb).trans d4, (hb.cell (p := ⟨(ad.add (j * 6)).block, (ad.add (j * 6)).off + 5, none⟩) hadb).trans d5, (hb.cell (p := ⟨w.heap.size + 1, 0, none⟩) hwb).trans x0, (hb.cell (p := ⟨w.heap.size + 1, 1, none⟩) hwb).trans x1, hb⟩
      clear d0 d1 d2 d3 d4 d5 x0 x1 c3' hl HLP0
      cases hh : has l (x, y) with
      | true =>
        rw [hh] at HFN
        have HLP2 : Hid (LastP ((L.take (j + 1)).filter (has · (x, y))) (m + 1) l) := by
          rw [Hid, HFN.out, if_pos rfl]
          exact HLP.out.yes
        go_wp2_with fail
        go_region_held3 (fun w' => w'.cell? ⟨w.heap.size, 3, none⟩ = some (.slice (some ad) n4 c4) ∧ w'.cell? (ad.add (j * 6)) = some (.int .i64 l.a) ∧ w'.cell? ⟨(ad.add (j * 6)).block, (ad.add (j * 6)).off + 1, none⟩ = some (.int .i64 l.ae) ∧ w'.cell? ⟨(ad.add (j * 6)).block, (ad.add (j * 6)).off + 2, none⟩ = some (.int .i64 l.b) ∧ w'.cell? ⟨(ad.add (j * 6)).block, (ad.add (j * 6)).off + 3, none⟩ = some (.int .i64 l.be) ∧ w'.cell? ⟨(ad.add (j * 6)).block, (ad.add (j * 6)).off + 4, none⟩ = some (.int .i64 l.pt) ∧ w'.cell? ⟨(ad.add (j * 6)).block, (ad.add (j * 6)).off + 5, none⟩ = some (.int .i64 l.ps) ∧ w'.cell? ⟨w.heap.size + 1, 0, none⟩ = some (.int .i64 x) ∧ w'.cell? ⟨w.heap.size + 1, 1, none⟩ = some (.int .i64 y) ∧ Below wr.heap.size wr w')
          (first | exact KA.out _ hb0.drew | exact KA.out _ (hb0.drew.trans (hbq.mono (by simp))))
          ((go_at_call 91; refine (r_has l x y _).mono ?_; rintro e wq ⟨rfl, hbq⟩; rw [hh]))
        obtain ⟨f3, e0, e1, e2, e3, e4, e5, y0, y1, hbf⟩ := KA.out wq (hb0.drew.trans (hbq.mono (by simp)))
        have hzq := hbf.size
        obtain ⟨HO1, HO2⟩ := HO.out
        have HOq := Lib.hid (HO1.below hbf (by omega))
        have HFq : Hid (∀ q, wq.frozen? ⟨W2.heap.size + 1, q, none⟩ = false) := fun q => (hbf.frozen (p := ⟨W2.heap.size + 1, q, none⟩) (by simp; omega)).trans (HO2 q)
        have hbrq : Below (W2.heap.size + 1) W wq := hbr.trans (hbf.mono (by omega))
        obtain ⟨u0, u1, u2, u3, u4, u5⟩ := HOq.out
        have hfr := HFq.out
        clear HO1 HO2 y0 y1 hbq
        go_wp2_with fail
        go_roundw
        case rel => exact ⟨j + 1, m + 1, l, by omega, by go_num, by go_num, by omega, ⟨Row6.put HOq.out, fun q => by simp only [World.frozen?_setCell]; exact HFq.out q⟩, HLP2, (((((hbrq.setCell (by simp) _).setCell (by simp) _).setCell (by simp) _).setCell (by simp) _).setCell (by simp) _).setCell (by simp) _⟩
        case measure => simp [intOf]; omega
      | false =>
        rw [hh] at HFN
        have HLP2 : Hid (LastP ((L.take (j + 1)).filter (has · (x, y))) m o) := by
          rw [Hid, HFN.out, if_neg (by decide), List.append_nil]
          exact HLP.out
        go_wp2_with fail
        go_region_held3 (fun w' => w'.cell? ⟨w.heap.size, 3, none⟩ = some (.slice (some ad) n4 c4) ∧ w'.cell? (ad.add (j * 6)) = some (.int .i64 l.a) ∧ w'.cell? ⟨(ad.add (j * 6)).block, (ad.add (j * 6)).off + 1, none⟩ = some (.int .i64 l.ae) ∧ w'.cell? ⟨(ad.add (j * 6)).block, (ad.add (j * 6)).off + 2, none⟩ = some (.int .i64 l.b) ∧ w'.cell? ⟨(ad.add (j * 6)).block, (ad.add (j * 6)).off + 3, none⟩ = some (.int .i64 l.be) ∧ w'.cell? ⟨(ad.add (j * 6)).block, (ad.add (j * 6)).off + 4, none⟩ = some (.int .i64 l.pt) ∧ w'.cell? ⟨(ad.add (j * 6)).block, (ad.add (j * 6)).off + 5, none⟩ = some (.int .i64 l.ps) ∧ w'.cell? ⟨w.heap.size + 1, 0, none⟩ = some (.int .i64 x) ∧ w'.cell? ⟨w.heap.size + 1, 1, none⟩ = some (.int .i64 y) ∧ Below wr.heap.size wr w')
          (first | exact KA.out _ hb0.drew | exact KA.out _ (hb0.drew.trans (hbq.mono (by simp))))
          ((go_at_call 91; refine (r_has l x y _).mono ?_; rintro e wq ⟨rfl, hbq⟩; rw [hh]))
        obtain ⟨f3, e0, e1, e2, e3, e4, e5, y0, y1, hbf⟩ := KA.out wq (hb0.drew.trans (hbq.mono (by simp)))
        have hzq := hbf.size
        obtain ⟨HO1, HO2⟩ := HO.out
        have HOq : Hid (Row6 wq (W2.heap.size + 1) o ∧ ∀ q, wq.frozen? ⟨W2.heap.size + 1, q, none⟩ = false) := ⟨HO1.below hbf (by omega), fun q => (hbf.frozen (p := ⟨W2.heap.size + 1, q, none⟩) (by simp; omega)).trans (HO2 q)⟩
        have hbrq : Below (W2.heap.size + 1) W wq := hbr.trans (hbf.mono (by omega))
        clear HO1 HO2 f3 e0 e1 e2 e3 e4 e5 y0 y1 hbq
        go_wp2_with fail
        go_roundw
        case rel => exact ⟨j + 1, m, o, by omega, rfl, by go_num, by omega, HOq, HLP2, hbrq⟩
        case measure => simp [intOf]; omega
    · obtain rfl : j = i := by omega
      have HX3 := Lib.hid (HFR.out m o HLP.out)
      obtain ⟨⟨k0, k1, k2, k3, k4, k5⟩, _⟩ := HO.out
      obtain ⟨l0, l1, l2, l3, l4, l5⟩ := HKr.out
      have E : Hid (freeP m o k = (((m : Nat) == 0) || ((m == 1) && (decide (0 ≤ k.pt) && ((o.pt == k.pt) && !(o.ps == k.ps)))))) := rfl
      have hbw : Below w.heap.size w wr := HB.out.trans (hbr.mono (by omega))
      match m, HX3, E with
      | 0, HX3, E =>
        go_wp2_with fail
        go_ret
        exact ⟨retb (by rw [HX3.out, E.out]; rfl), hbw⟩
      | 1, HX3, E =>
        cases h1 : decide (0 ≤ k.pt) <;> cases h2 : (o.pt == k.pt) <;> cases h3 : (o.ps == k.ps)
        all_goals
          rw [h1, h2, h3] at E
          have h3' : (o.ps != k.ps) = !(o.ps == k.ps) := rfl
          rw [h3] at h3'
          go_wp2_with fail
          go_ret
          exact ⟨retb (by rw [HX3.out, E.out]; rfl), hbw⟩
      | m + 2, HX3, E =>
        have h1 : (((m + 2 : Nat) : Int) == 0) = false := by rw [beq_eq_false_iff_ne]; omega
        have h2 : (((m + 2 : Nat) : Int) == 1) = false := by rw [beq_eq_false_iff_ne]; omega
        have h3 : (m + 2 == 0) = false := rfl
        have h4 : (m + 2 == 1) = false := by simp
        rw [h3, h4] at E
        generalize ((m + 2 : Nat) : Int) = z at *
        go_wp2_with fail
        go_ret
        exact ⟨retb (by rw [HX3.out, E.out]; rfl), hbw⟩
end Go.Proofs.YtnfelcjpjodjhaaGreat.RFree

namespace Go.Proofs.YtnfelcjpjodjhaaGreat.Src
open Go.ChangeShapes Go.WideShapes Go.ChangeAt Go.RowKit Wd Small Mem Dec PNames PSecs PEnds
set_option linter.unusedVariables false

/-- n integers lie at A, below block B -/
def Ints (w : World) (B : Nat) (A : Option Addr) (n : Nat) : Prop :=
  ∀ j, j < n → ∃ ad z, A = some ad ∧ ad.block < B ∧ w.cell? (ad.add j) = some (.int .i64 z) ∧ -9223372036854775808 ≤ z ∧ z ≤ 9223372036854775807
theorem Ints.keep {w w' : World} {B n : Nat} {A : Option Addr} (h : Ints w B A n) (hk : ∀ p : Addr, p.block < B → w'.cell? p = w.cell? p) : Ints w' B A n := fun j hj => by
  obtain ⟨ad, z, e, hb, hc, h1, h2⟩ := h j hj
  exact ⟨ad, z, e, hb, (hk _ (by rw [Mem.block_add]; exact hb)).trans hc, h1, h2⟩
theorem Ints.below {w w' : World} {B n : Nat} {A : Option Addr} (h : Ints w B A n) (hb : Below B w w') : Ints w' B A n := h.keep fun _ hp => hb.cell hp

/-- block g is a source that has used up i choices of the n at A -/
def Src (w : World) (g : Nat) (A : Option Addr) (n c i : Nat) : Prop := w.heap[g]? = some (.cells #[.slice A n c, .int .i64 i] 102 (0, 0))
theorem Src.lt {w : World} {g n c i : Nat} {A : Option Addr} (h : Src w g A n c i) : g < w.heap.size := lt_of_block h
theorem Src.cell0 {w : World} {g n c i : Nat} {A : Option Addr} (h : Src w g A n c i) : w.cell? ⟨g, 0, none⟩ = some (.slice A n c) := by
  unfold Src at h; simp [World.cell?, h]
theorem Src.cell1 {w : World} {g n c i : Nat} {A : Option Addr} (h : Src w g A n c i) : w.cell? ⟨g, 1, none⟩ = some (.int .i64 i) := by
  unfold Src at h; simp [World.cell?, h]
theorem Src.free {w : World} {g n c i : Nat} {A : Option Addr} (h : Src w g A n c i) (j : Nat) : w.frozen? ⟨g, j, none⟩ = false := by
  unfold Src at h; simp [World.frozen?, h]
theorem Src.put {w : World} {g n c i : Nat} {A : Option Addr} (h : Src w g A n c i) (k : Nat) : Src (w.setCell ⟨g, 1, none⟩ (.int .i64 k)) g A n c k := by
  unfold Src at h ⊢
  simp [World.setCell, Array.getElem?_modify, h]
theorem Src.drewN {w : World} {g n c i : Nat} {A : Option Addr} (h : Src w g A n c i) (k : Nat) : Src (w.drewN k) g A n c i := h
theorem Src.below {w w' : World} {g n c i B : Nat} {A : Option Addr} (h : Src w g A n c i) (hb : Below B w w') (hg : g < B) : Src w' g A n c i := (hb.block g hg).trans h

def NextPost (n : Int) (g : Nat) (A : Option Addr) (l c : Nat) (w : World) (e : Ending) (w' : World) : Prop :=
  ∃ (r : Int) (i : Nat), 0 ≤ r ∧ r < n ∧ e = .returned (.int .i64 r) ∧ i ≤ l ∧ Src w' g A l c i ∧ w.grownBy w' (some g)

theorem quiet_same {P : Program} {f : FuncId} {args : Array Value} {w : World} {n : Nat} {v : Value} (h : Calls P f args (w.drewN n) fun e w' => e = .returned v ∧ w.drewN n = w') :
    Calls P f args (w.drewN n) fun e w' => e = .returned v ∧ ∃ m, w' = w.drewN m := h.mono fun _ _ ⟨he, hm⟩ => ⟨he, n, hm.symm⟩

theorem only_draws {a w : World} {row : Option Nat} (h : a.grownBy w row) (n : Nat) : a.grownBy (w.drewN n) row := ⟨h.os, h.tape, h.output, h.size, h.block⟩
theorem only_set {w : World} {g j : Nat} (u : Value) : w.grownBy (w.setCell ⟨g, j, none⟩ u) (some g) :=
  ⟨rfl, rfl, rfl, by simp [World.setCell], fun k hk hne => Below.heap_setCell w ⟨g, j, none⟩ u k (fun e => hne (by rw [e]))⟩

theorem next_any (g : Nat) (A : Option Addr) (l c i B : Nat) (n : Int) (w : World) (hs : Src w g A l c i) (hi : i ≤ l) (hl : l ≤ 9223372036854775807) (hI : Ints w B A l) (hgB : B ≤ g) (hn : 1 ≤ n) (hn2 : n ≤ 9223372036854775807) :
    Calls Tryz.prog 29 #[.pointer (some ⟨g, 0, none⟩), .int .i64 n] w (NextPost n g A l c w) := by
  have k0 := hs.cell0
  have k1 := hs.cell1
  have HS := Lib.hid hs
  by_cases hlt : i < l
  · obtain ⟨ad, z, rfl, hb, hz, z1, z2⟩ := hI i hlt
    have hr := pick_range z n hn
    have dl : decide ((l : Int) ≤ (i : Int)) = false := by simp; omega
    clear hI hs
    go_enter Tryz.func29, Tryz.ntmps29
    go_wp2
    go_quiet (fail)
    rename_i nq
    have HS2 := Lib.hid (HS.out.drewN nq)
    have f1 := HS2.out.free 1
    have g0 : w.grownBy (w.drewN nq) (some g) := only_draws (World.grownBy.refl w _) nq
    have HG := Lib.hid g0
    have kz : (w.drewN nq).cell? (ad.add i) = some (.int .i64 z) := hz
    have k0' : (w.drewN nq).cell? ⟨g, 0, none⟩ = some (.slice (some ad) l c) := k0
    have k1' : (w.drewN nq).cell? ⟨g, 1, none⟩ = some (.int .i64 i) := k1
    clear g0 hz k0 k1
    generalize w.drewN nq = wq at *
    go_upto_region 4 with fail
    have HS3 : Hid (Src (wq.setCell ⟨g, 1, none⟩ (.int .i64 ((i : Int) + 1))) g (some ad) l c (i + 1)) := by
      have := HS2.out.put (i + 1)
      rwa [show ((i + 1 : Nat) : Int) = (i : Int) + 1 from by omega] at this
    have m0 := HS3.out.cell0
    have m1 := HS3.out.cell1
    have mz : (wq.setCell ⟨g, 1, none⟩ (.int .i64 ((i : Int) + 1))).cell? (ad.add i) = some (.int .i64 z) := by
      rw [World.cell?_setCell_other _ _ _ _ (fun e => by
        have : (ad.add i).block = g := by rw [← e]
        rw [Mem.block_add] at this; omega)]
      exact kz
    have HG2 : Hid (w.grownBy (wq.setCell ⟨g, 1, none⟩ (.int .i64 ((i : Int) + 1))) (some g)) :=
      ⟨HG.out.os, HG.out.tape, HG.out.output, Nat.le_trans HG.out.size (by simp [World.setCell]), fun k hk hne => (Below.heap_setCell wq ⟨g, 1, none⟩ _ k (fun e => hne (by rw [e]))).trans (HG.out.block k hk hne)⟩
    clear k0' k1' kz f1
    generalize wq.setCell ⟨g, 1, none⟩ (.int .i64 ((i : Int) + 1)) = wp at *
    have i0 : (0 : Int) ≤ (i : Int) := by omega
    have i1 : (i : Int) < (l : Int) := by omega
    have s1 : IntKind.i64.wrap ((i : Int) + 1 - 1) = (i : Int) := by rw [show (i : Int) + 1 - 1 = (i : Int) from by omega]; exact IntWalk.i64_in _ (by omega)
    have c1 : ((i + 1 : Nat) : Int) = (i : Int) + 1 := by omega
    rw [c1] at m1
    clear c1
    go_quiet ((go_at_call 13; exact quiet_same (pick_any _ _ _ (by omega) (by omega) (by omega) (by omega))))
    clear s1
    go_wp2
    go_ret
    exact ⟨pick z n, i + 1, hr.1, hr.2, rfl, by omega, HS3.out, only_draws HG2.out _⟩
  · have dl : decide ((l : Int) ≤ (i : Int)) = true := by simp; omega
    clear hI hs
    go_enter Tryz.func29, Tryz.ntmps29
    go_wp2
    go_quiet (fail)
    go_wp2
    go_ret
    exact ⟨0, i, Int.le_refl _, by omega, rfl, hi, HS.out, only_draws (World.grownBy.refl w _) _⟩

theorem from_any (A : Option Addr) (l c : Nat) (w : World) :
    Calls Tryz.prog 28 #[.slice A l c] w fun e w' => e = .returned (.pointer (some ⟨w.heap.size, 0, none⟩)) ∧ w' = w.alloc (.cells #[.slice A l c, .int .i64 0] 102) := by
  go_enter Tryz.func28, Tryz.ntmps28
  go_wp2
  go_ret
  exact ⟨rfl, rfl⟩


end Go.Proofs.YtnfelcjpjodjhaaGreat.Src

namespace Go.Proofs.YtnfelcjpjodjhaaGreat.LayG
open Wd Lay LayT Dec

/-- what of a layout its shape tells: all but the numbers of the sections -/
structure Skel where
  stations : List Bs
  points : List Bs
  secs : List (Bs × Int)
  links : List Lnk
deriving DecidableEq
def numsOK (s : Sec) : Prop := 1 ≤ s.len ∧ s.len ≤ 400 ∧ 1000 ≤ s.lim ∧ s.lim ≤ 100000 ∧ -40 ≤ s.grade ∧ s.grade ≤ 40
structure HasSkel (l : Lay) (k : Skel) : Prop where
  st : l.stations = k.stations
  pt : l.points = k.points
  sec : l.sections.map (fun s => (s.name, s.st)) = k.secs
  lnk : l.links = k.links
  num : ∀ s ∈ l.sections, numsOK s
def good (k : Skel) : Bool :=
  decide (k.stations.length ≤ 24) && decide (k.points.length ≤ 48) && decide (k.secs.length ≤ 96) && decide (k.links.length ≤ 192) && decide (1 ≤ k.secs.length) &&
    decide (namesErr [] k.stations = 0) && decide (namesErr [] k.points = 0) && decide (namesErr [] (k.secs.map (·.1)) = 0) && (k.secs.all fun x => decide (-1 ≤ x.2) && decide (x.2 < k.stations.length)) &&
    decide (linksErr k.secs.length k.points.length [] k.links = 0)

theorem secs_err (q : Nat) : ∀ (l : List Sec) (done : List Bs), namesErr done (l.map Sec.name) = 0 → (∀ s ∈ l, secErr q s = 0) → secsErr q done l = 0
  | [], done, _, _ => rfl
  | s :: r, done, h, hs => by
    unfold secsErr
    simp only [List.map_cons] at h
    unfold namesErr at h
    split at h
    · cases h
    · next h1 =>
      split at h
      · cases h
      · next h2 =>
        rw [if_neg h1, if_neg h2, if_pos (hs s List.mem_cons_self)]
        exact secs_err q r _ h (fun x hx => hs x (List.mem_cons_of_mem _ hx))
theorem check_skel {l : Lay} {k : Skel} (h : HasSkel l k) (hg : good k = true) : check l = 0 := by
  unfold good at hg
  simp only [Bool.and_eq_true, decide_eq_true_eq, List.all_eq_true] at hg
  obtain ⟨⟨⟨⟨⟨⟨⟨⟨⟨g1, g2⟩, g3⟩, g4⟩, g5⟩, g6⟩, g7⟩, g8⟩, g9⟩, g10⟩ := hg
  have hl : l.sections.length = k.secs.length := by rw [← h.sec, List.length_map]
  have hn : l.sections.map Sec.name = k.secs.map (·.1) := by rw [← h.sec, List.map_map]; rfl
  have hs : ∀ s ∈ l.sections, secErr l.stations.length s = 0 := by
    intro s hs
    have hm : (s.name, s.st) ∈ k.secs := by rw [← h.sec]; exact List.mem_map.2 ⟨s, hs, rfl⟩
    have h9 := g9 _ hm
    obtain ⟨n1, n2, n3, n4, n5, n6⟩ := h.num s hs
    unfold secErr
    rw [h.st, if_pos]
    simp only [Bool.and_eq_true, decide_eq_true_eq]
    simp only at h9
    omega
  have e1 := secs_err l.stations.length l.sections [] (by rw [hn]; exact g8) hs
  unfold check
  rw [if_neg (by rw [h.st, h.pt, h.lnk, hl]; omega), if_neg (by omega), h.st, h.pt, g6, g7, ← h.st, e1, h.lnk, hl, g10]
  simp

/-! ### the row -/

def nm (f : Bs) (n : Int) : Bs := f ++ [dig (n % 10).toNat]
/-- a row under construction: the shape, and the numbers of the tracks and of the sections in between -/
structure Bld where
  sk : Skel
  tracks : List (List Int)
  between : List (List Int)
deriving DecidableEq
def addSec (k : Skel) (x : Bs × Int) : Skel := { k with secs := k.secs ++ [x] }
/-- k more sections whose names begin with f; t: their numbers -/
def addLoop (f : Bs) (st : Int) : Nat → Skel → List Int → Skel × List Int
  | 0, s, t => (s, t)
  | k + 1, s, t => addLoop f st k (addSec s (nm f ((k : Int) + 1), st)) (t ++ [(s.secs.length : Int)])
def addStation (b : Bld) (i : Int) (n : Nat) : Bld :=
  let r := addLoop (nm [84] i) i n { b.sk with stations := b.sk.stations ++ [nm [83] i] } []
  { b with sk := r.1, tracks := b.tracks ++ [r.2] }
def stationsOf (i : Int) : List Nat → Bld → Bld
  | [], b => b
  | n :: r, b => stationsOf (i + 1) r (addStation b i n)
def addLink (k : Skel) (a c p q : Int) : Skel := { k with links := k.links ++ [⟨a, 1, c, 0, p, q⟩] }
def fanLoop (x : Int) (east : Bool) (p : Int) (i : Int) : List Int → Skel → Skel
  | [], k => k
  | t :: r, k => fanLoop x east p (i + 1) r (if east then addLink k x t p i else addLink k t x p i)
def fan (x : Int) (tracks : List Int) (east : Bool) (k : Skel) : Skel :=
  if 1 < tracks.length then fanLoop x east k.points.length 0 tracks { k with points := k.points ++ [nm [80] k.points.length] } else fanLoop x east (-1) 0 tracks k
def chain : List Int → Skel → Skel
  | a :: c :: r, k => chain (c :: r) (addLink k a c (-1) 0)
  | _, k => k
def addBetween (b : Bld) (i : Int) (n : Nat) : Bld :=
  let r := addLoop (nm [76] i) (-1) n b.sk []
  let k := chain r.2 r.1
  let k := fan (r.2.headD 0) ((b.tracks[i.toNat]?).getD []) false k
  let k := fan (r.2.getLastD 0) ((b.tracks[i.toNat + 1]?).getD []) true k
  { b with sk := k, between := b.between ++ [r.2] }
def betweensOf (i : Int) : List Nat → Bld → Bld
  | [], b => b
  | n :: r, b => betweensOf (i + 1) r (addBetween b i n)
def start : Bld := ⟨⟨[], [], [], []⟩, [], []⟩
def row (ts ms : List Nat) : Bld := betweensOf 0 ms (stationsOf 0 ts start)

def counts : Nat → List (List Nat)
  | 0 => [[]]
  | n + 1 => (counts n).flatMap fun l => [1 :: l, 2 :: l]
theorem counts_mem : ∀ l : List Nat, (∀ x ∈ l, x = 1 ∨ x = 2) → l ∈ counts l.length
  | [], _ => by simp [counts]
  | x :: l, h => by
    have ih := counts_mem l (fun y hy => h y (List.mem_cons_of_mem _ hy))
    simp only [List.length_cons, counts, List.mem_flatMap]
    refine ⟨l, ih, ?_⟩
    rcases h x List.mem_cons_self with rfl | rfl <;> simp
theorem rows_good2 : ((counts 2).all fun ts => (counts 1).all fun ms => good (row ts ms).sk) = true := by decide +kernel
theorem rows_good3 : ((counts 3).all fun ts => (counts 2).all fun ms => good (row ts ms).sk) = true := by decide +kernel
theorem row_good (ts ms : List Nat) (h : ts.length = 2 ∨ ts.length = 3) (hm : ms.length + 1 = ts.length) (h1 : ∀ x ∈ ts, x = 1 ∨ x = 2) (h2 : ∀ x ∈ ms, x = 1 ∨ x = 2) : good (row ts ms).sk = true := by
  have a := counts_mem ts h1
  have b := counts_mem ms h2
  rcases h with h | h
  · rw [h] at a; rw [show ms.length = 1 by omega] at b
    exact List.all_eq_true.1 (List.all_eq_true.1 rows_good2 ts a) ms b
  · rw [h] at a; rw [show ms.length = 2 by omega] at b
    exact List.all_eq_true.1 (List.all_eq_true.1 rows_good3 ts a) ms b
/-- a row of stations is a valid layout -/
theorem row_valid (ts ms : List Nat) (h : ts.length = 2 ∨ ts.length = 3) (hm : ms.length + 1 = ts.length) (h1 : ∀ x ∈ ts, x = 1 ∨ x = 2) (h2 : ∀ x ∈ ms, x = 1 ∨ x = 2) {l : Lay} (hl : HasSkel l (row ts ms).sk) : check l = 0 := check_skel hl (row_good ts ms h hm h1 h2)

/-! ### lists at their limits -/

theorem names_zero : ∀ (l done : List Bs), (∀ s ∈ l, isName s = true) → (done ++ l).Nodup → namesErr done l = 0
  | [], done, _, _ => rfl
  | s :: r, done, h, hn => by
    unfold namesErr
    have h2 : s ∉ done := by
      rw [List.nodup_append] at hn
      exact fun hm => hn.2.2 s hm s List.mem_cons_self rfl
    rw [if_neg (by rw [h s List.mem_cons_self]; simp), if_neg (by simpa using h2)]
    exact names_zero r (done ++ [s]) (fun x hx => h x (List.mem_cons_of_mem _ hx)) (by simpa using hn)
/-- the i-th name of a long list -/
def numbered (i : Nat) : Bs := 97 :: dec i
def many (n : Nat) : List Bs := (List.range n).map numbered
theorem many_len (n : Nat) : (many n).length = n := by simp [many]
theorem many_snoc (n : Nat) : many (n + 1) = many n ++ [numbered n] := by simp [many, List.range_succ]
theorem numbered_name (i : Nat) (h : i < 1000) : isName (numbered i) = true := by
  have hd : (dec i).all digit = true ∧ (dec i).length ≤ 3 := by
    unfold dec
    split
    · exact ⟨by decide, by simp⟩
    · rw [if_neg (by omega)]
      exact ⟨dz_digits _, dz_len 3 _ (by simpa using h)⟩
  unfold numbered isName
  simp only [Bool.and_eq_true, decide_eq_true_eq]
  refine ⟨⟨by omega, by decide⟩, ?_⟩
  rw [List.all_eq_true]
  intro b hb
  unfold later
  rw [List.all_eq_true.1 hd.1 b hb]
  simp
theorem numbered_inj (i j : Nat) (hi : i < 1000) (hj : j < 1000) (h : numbered i = numbered j) : i = j := by
  unfold numbered at h
  simp only [List.cons.injEq, true_and] at h
  have a := (num_back i (by omega) (by omega)).2
  have b := (num_back j (by omega) (by omega)).2
  rw [h, b] at a
  omega
theorem many_nodup : ∀ (n : Nat), n ≤ 1000 → (many n).Nodup
  | 0, _ => by simp [many]
  | n + 1, h => by
    rw [many_snoc, List.nodup_append]
    refine ⟨many_nodup n (by omega), by simp, fun a ha b hb => ?_⟩
    simp at hb
    subst hb
    unfold many at ha
    obtain ⟨i, hi, rfl⟩ := List.mem_map.1 ha
    rw [List.mem_range] at hi
    exact fun e => by have := numbered_inj i n (by omega) (by omega) e; omega
theorem many_names (n : Nat) (h : n ≤ 1000) : namesErr [] (many n) = 0 := by
  refine names_zero (many n) [] (fun s hs => ?_) (by simpa using many_nodup n h)
  unfold many at hs
  obtain ⟨i, hi, rfl⟩ := List.mem_map.1 hs
  rw [List.mem_range] at hi
  exact numbered_name i (by omega)
def one : Sec := ⟨[88], 400, 100000, -40, -1⟩
def long (kind : Nat) (n : Nat) : Lay := match kind with
  | 0 => ⟨many n, [], [one], []⟩
  | 1 => ⟨[], many n, [one], []⟩
  | _ => ⟨[], [], (many n).map fun s => ⟨s, 1, 1000, 0, -1⟩, []⟩
def most (kind : Nat) : Nat := match kind with
  | 0 => 24
  | 1 => 48
  | _ => 96
theorem flip (n m : Nat) : (if m < n then (7 : Int) else 0) = if n ≤ m then 0 else 7 := by
  by_cases h : n ≤ m
  · rw [if_neg (by omega), if_pos h]
  · rw [if_pos (by omega), if_neg h]
theorem long_check (kind n : Nat) (h1 : 1 ≤ n) (h2 : n ≤ 1000) : check (long kind n) = if n ≤ most kind then 0 else 7 := by
  have hm := many_names n h2
  have ho : ∀ q, secsErr q [] [one] = 0 := fun q => by
    refine secs_err q [one] [] (by decide) (fun s hs => ?_)
    simp at hs; subst hs
    unfold secErr one
    simp; omega
  match kind with
  | 0 => simp [long, check, many_len, most, hm, ho, namesErr, linksErr, flip]
  | 1 => simp [long, check, many_len, most, hm, ho, namesErr, linksErr, flip]
  | k + 2 =>
    have e : ((many n).map fun s => (⟨s, 1, 1000, 0, -1⟩ : Sec)).map Sec.name = many n := by rw [List.map_map]; exact List.map_id _
    have hs : secsErr 0 [] ((many n).map fun s => (⟨s, 1, 1000, 0, -1⟩ : Sec)) = 0 := by
      refine secs_err 0 _ [] (by rw [e]; exact hm) (fun s hs => ?_)
      obtain ⟨x, _, rfl⟩ := List.mem_map.1 hs
      simp [secErr]
    have h0 : ¬ n = 0 := by omega
    simp [long, check, many_len, most, hs, namesErr, linksErr, h0, flip]
end Go.Proofs.YtnfelcjpjodjhaaGreat.LayG

namespace Go.Proofs.YtnfelcjpjodjhaaGreat.Awake
open Go.ChangeShapes Go.WideShapes Go.ChangeAt Go.RowKit Wd Small Mem Lay LayT LayG Recs Keep Names PNames PSecs PCheck PStep
set_option linter.unusedVariables false

/-- what a call leaves that answers yes -/
def Yes (w : World) (e : Ending) (w' : World) : Prop := e = .returned (.bool true) ∧ Below w.heap.size w w'
def lay1 : Lay := ⟨[], [], [⟨[88], 2, 1000, 0, -1⟩], []⟩
theorem lay1_ok : check lay1 = 0 := by decide
theorem zero_err : check zero = 1 := by decide
theorem lay1_has : hasB lay1 (0, 0) = true := by decide
/-- an empty layout -/
def nilL : LV := ⟨none, 0, 0, none, 0, 0, none, 0, 0, none, 0, 0⟩
theorem nil_rd (w : World) (B : Nat) : RdL w B nilL zero := ⟨Rd.nil _ _ _, Rd.nil _ _ _, Rd.nil _ _ _, Rd.nil _ _ _, by decide, by decide, by decide, by decide, nofun, nofun, nofun⟩
/-- a row of one section, in a new block -/
theorem one_sec (w : World) (s : Sec) : Rd secR (w.alloc (.cells #[.string (str s.name), .int .i64 s.len, .int .i64 s.lim, .int .i64 s.grade, .int .i64 s.st] 81)) (w.heap.size + 1) (some ⟨w.heap.size, 0, none⟩) 1 [s] := by
  refine ⟨rfl, fun j u hu => ⟨⟨w.heap.size, 0, none⟩, rfl, by show w.heap.size < w.heap.size + 1; omega, ?_⟩⟩
  rw [show secR.cs [s] = secCells s from cs_single s] at hu
  match j, hu with
  | 0, hu => simp [secCells] at hu; subst hu; simp [Addr.add]
  | 1, hu => simp [secCells] at hu; subst hu; simp [Addr.add]
  | 2, hu => simp [secCells] at hu; subst hu; simp [Addr.add]
  | 3, hu => simp [secCells] at hu; subst hu; simp [Addr.add]
  | 4, hu => simp [secCells] at hu; subst hu; simp [Addr.add]
def one_v (g : Nat) : LV := ⟨none, 0, 0, none, 0, 0, some ⟨g, 0, none⟩, 1, 1, none, 0, 0⟩
theorem one_rd {w : World} {g B : Nat} {s : Sec} (h : Rd secR w B (some ⟨g, 0, none⟩) 1 [s]) (hs : s.name.length ≤ 9223372036854775807) : RdL w B (one_v g) ⟨[], [], [s], []⟩ :=
  ⟨Rd.nil _ _ _, Rd.nil _ _ _, h, Rd.nil _ _ _, by show (0 : Nat) ≤ _; decide, by show (0 : Nat) ≤ _; decide, by show (1 : Nat) ≤ _; decide, by show (0 : Nat) ≤ _; decide, nofun, nofun, fun t ht => by simp at ht; subst ht; exact hs⟩

end Go.Proofs.YtnfelcjpjodjhaaGreat.Awake

namespace Go.Proofs.YtnfelcjpjodjhaaGreat.LawF
open Go.ChangeShapes Go.WideShapes Go.ChangeAt Go.RowKit Wd Mem
set_option linter.unusedVariables false

/-- n bytes lie at A -/
def Byts (w : World) (A : Option Addr) (n : Nat) : Prop := ∀ j, j < n → ∃ ad b, A = some ad ∧ ad.block < w.heap.size ∧ w.cell? (ad.add j) = some (.int .u8 (UInt8.toNat b))
theorem cells3 : Tryz.prog.cellsOf 3 = 1 := by kernel_rfl
theorem cells5 : Tryz.prog.cellsOf 5 = 1 := by kernel_rfl
theorem laid : laidOutB Tryz.prog = true := by kernel_rfl
theorem rr0 : Tryz.prog.readableRec 3 = true ∧ 3 < Tryz.prog.types.size := ⟨by kernel_rfl, of_decide_eq_true (by kernel_rfl)⟩
theorem rr1 : Tryz.prog.readableRec 4 = true ∧ 4 < Tryz.prog.types.size := ⟨by kernel_rfl, of_decide_eq_true (by kernel_rfl)⟩
theorem rr2 : Tryz.prog.readableRec 5 = true ∧ 5 < Tryz.prog.types.size := ⟨by kernel_rfl, of_decide_eq_true (by kernel_rfl)⟩
theorem rr3 : Tryz.prog.readableRec 9 = true ∧ 9 < Tryz.prog.types.size := ⟨by kernel_rfl, of_decide_eq_true (by kernel_rfl)⟩
theorem rr4 : Tryz.prog.readableRec 34 = true ∧ 34 < Tryz.prog.types.size := ⟨by kernel_rfl, of_decide_eq_true (by kernel_rfl)⟩
section
variable {H : Type} {enc : TypeId × Value → H}

set_option maxRecDepth 100000 in
theorem arg_ints {W : World} {r : Reach} {b0 : Nat} {v : Value} {d : DataW H} {p : List MemPlace} (hval : Value.okWide Tryz.prog W r b0 34 v) (hd : DataW.Trod enc Tryz.prog W 0 (fun _ => true) true 34 v d p) :
    ∃ A n c, v = .slice A n c ∧ Src.Ints W W.heap.size A n ∧ n ≤ c ∧ c ≤ 9223372036854775807 := by
  obtain ⟨a, len, cap, rfl⟩ := WideShapes.okWide_slice Tryz.underlying34 hval
  obtain ⟨fuel, hf⟩ := hd
  rcases open_ints Tryz.underlying34 Tryz.underlying3 cells3 hf with ⟨hcs, _⟩ | ⟨a', len', cap', zs, hcs, _, hl, hm, hz, _, hcell, hwz⟩
  · simp [Value.cells] at hcs
    obtain ⟨rfl, rfl, rfl⟩ := hcs
    exact ⟨_, _, _, rfl, fun j hj => absurd hj (by omega), Nat.le_refl _, by omega⟩
  · simp [Value.cells] at hcs
    obtain ⟨rfl, rfl, rfl⟩ := hcs
    simp only [if_true] at hz
    refine ⟨_, _, _, rfl, fun j hj => ?_, hl, by unfold maxLen at hm; omega⟩
    have hj' : j < zs.length := by omega
    have hc := hcell j hj'
    have hw := hwz _ (List.getElem_mem hj')
    have hb := bounds_i64 hw
    have e : zs.getD j 0 = zs[j] := by simp [List.getD, List.getElem?_eq_getElem hj']
    rw [e] at hc
    have hlt := World.block_lt_of_cell? W _ hc
    rw [Mem.block_add] at hlt
    exact ⟨a', zs[j], rfl, hlt, hc, by omega, by omega⟩

theorem bounds_u8 {n : Int} (h : (Lit.int .u8 n).wf = true) : 0 ≤ n ∧ n ≤ 255 := by simpa [Lit.wf, IntKind.min, IntKind.max, IntKind.signed, IntKind.bits] using h

theorem trodAll_below {P : Program} (hl : laidOutB P = true) {W W' : World} (hb : Below W.heap.size W W') : ∀ {ts : List TypeId} {vs : List Value} {ds : List (DataW H)} {ps : List MemPlace}, (∀ t ∈ ts, P.readableRec t = true ∧ t < P.types.size) →
    DataW.TrodAll enc P W 0 (fun _ => true) true ts vs ds ps → (∀ x ∈ ps, x.block < W.heap.size) → DataW.TrodAll enc P W' 0 (fun b => decide (b < W.heap.size)) true ts vs ds ps
  | [], [], [], ps, _, h, _ => h
  | t :: ts, v :: vs, d :: ds, ps, ht, h, hlt => by
    obtain ⟨p, q, h0, h1, rfl⟩ := h
    obtain ⟨r1, r2⟩ := ht t List.mem_cons_self
    exact ⟨p, q, Below.trod hl r1 r2 h0 hb (fun x hx => hlt x (List.mem_append_left _ hx)), trodAll_below hl hb (fun t' h' => ht t' (List.mem_cons_of_mem _ h')) h1 (fun x hx => hlt x (List.mem_append_right _ hx)), rfl⟩

/-- the row's last step of a law: it returned true, and no old memory has changed -/
theorem post_law {P : Program} {f : Func} {s : ChangeSpec} {apart fresh handsOn : Bool} {W W' : World} {args : Array Value} {ds : List (DataW H)} {before : List MemPlace} {t4 : TypeId}
    (hl : laidOutB P = true) (ht : ∀ t ∈ f.params.toList, P.readableRec t = true ∧ t < P.types.size) (h4 : P.underlying t4 = some .bool) (hr : f.resultTypes.toList = [t4]) (hn : f.resultTypes.size = 1) (hv : s.vars = [])
    (hs1 : (s.fn H ds).results = [.lit (.bool true)]) (hs2 : (s.fn H ds).args = ds) (hs3 : (s.fn H ds).vars = [])
    (hW : DataW.Whole enc P f.params.toList s.vars apart W args.toList ds [] before) (hb : Below W.heap.size W W') :
    s.post enc P f apart fresh handsOn false W args (.bool true) W' := by
  have hlt : ∀ p ∈ before, p.block < W.heap.size := fun p hp => hW.lt p hp
  have hW' := hW
  obtain ⟨p, q, hA, hV, rfl, _, _⟩ := hW
  rw [hv] at hV
  obtain ⟨_, rfl⟩ := trodVars_none hV
  refine ⟨ds, [], p ++ [], [], p, [], hW', ?_, ?_, ?_, World.keptBut_mono (fun p' hp => ⟨hp, ?_⟩) (hb.frame (· ∈ p ++ [])), fun h => by cases h⟩
  · rw [List.append_nil, hs1, hr, hn]
    exact trodAll_cons_mk (shut_bool h4 _) trodAll_mk0
  · rw [List.append_nil, hs2]
    exact trodAll_below hl hb ht hA (fun x hx => hlt x (List.mem_append_left _ hx))
  · rw [List.append_nil, hs3, hv]
    exact rfl
  · rw [List.append_nil] at hp
    exact .inr (.inl hp)
end

end Go.Proofs.YtnfelcjpjodjhaaGreat.LawF
