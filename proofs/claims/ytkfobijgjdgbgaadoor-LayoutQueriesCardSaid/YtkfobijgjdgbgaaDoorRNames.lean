/-
  Contracts of the document's own functions on names of lists, on ranges and on the ends of a link.
-/
import Derived.Test.YtkfobijgjdgbgaaDoorPSecs
import Derived.Deep.QuietTactic
import Derived.BigQuiet
namespace Go.Proofs.YtkfobijgjdgbgaaDoor.RNames
open Go.ChangeShapes Go.WideShapes Go.ChangeAt Go.RowKit Wd Small Mem Lay Recs Keep Names PNames PSecs
set_option linter.unusedVariables false

theorem r_in (x lo hi : Int) (w : World) : Calls Tryd.prog 47 #[.int .i64 x, .int .i64 lo, .int .i64 hi] w (Says (btw x lo hi) w) := by
  have E : Hid (btw x lo hi = (decide (lo ≤ x) && decide (x ≤ hi))) := rfl
  go_enter Tryd.func47, Tryd.ntmps47
  go_wp2
  all_goals go_ret
  all_goals exact ⟨retb (by rw [E.out, Bool.eq_iff_iff]; simp; omega), rfl⟩

theorem str_ne {a b : Bs} (h : a ≠ b) : ((str a).toList == (str b).toList) = false := by
  rw [beq_eq_false_iff_ne]
  intro e
  apply h
  have h1 : bs (str a) = bs (str b) := by
    rw [Lib.toList_data, Lib.toList_data] at e; exact e
  exact h1
theorem contains_take {L : List Bs} {k : Nat} {s t : Bs} (h : L[k]? = some t) (hne : t ≠ s) (h0 : (L.take k).contains s = false) : (L.take (k + 1)).contains s = false := by
  rw [take_succ h, contains_snoc, h0]
  simp [hne.symm]
theorem contains_hit {L : List Bs} {k i : Nat} {s : Bs} (h : L[k]? = some s) (hk : k < i) : (L.take i).contains s = true := by
  simp only [List.contains_iff_mem]
  have : (L.take i)[k]? = some s := by rw [List.getElem?_take, if_pos hk]; exact h
  exact List.mem_of_getElem? this

set_option maxHeartbeats 1000000 in
theorem r_names (A : Option Addr) (n c i : Nat) (L : List Bs) (s : Bs) (w : World) (hL : Rd sR w w.heap.size A n L) (hs : L[i]? = some s) (hi : i < n) (hn : n ≤ 9223372036854775807) (hsz : s.length ≤ 9223372036854775807) :
    Calls Tryd.prog 45 #[.slice A n c, .int .i64 i] w (ErrPost (nameErr (L.take i) s) w) := by
  obtain ⟨ad, s', rfl, hab, hs', c0⟩ := loadS hL hi
  have e : s = s' := by rw [hs] at hs'; exact Option.some.inj hs'
  subst e
  clear hs'
  cases hN : isName s with
  | false =>
    have E := Lib.hid (nameErr_bad (done := L.take i) hN)
    clear hL hs
    go_enter Tryd.func45, Tryd.ntmps45
    go_wp2_with (go_at_call 78; refine (r_name _ _ (by rw [size_str]; omega)).mono ?_; rintro e w' ⟨rfl, rfl⟩; rw [bs_str, hN])
    go_ret
    exact ⟨ret1 E.out.symm, Below.refl _ _⟩
  | true =>
    have E0 : Hid ((L.take 0).contains s = false) := rfl
    have HS := Lib.hid hs
    have HNm := Lib.hid hN
    clear hs
    go_enter Tryd.func45, Tryd.ntmps45
    go_wp2_with (go_at_call 78; refine (r_name _ _ (by rw [size_str]; omega)).mono ?_; rintro e w' ⟨rfl, rfl⟩; rw [bs_str, hN])
    clear hN
    go_loopw [5] (fun t wr => ∃ k : Nat, k ≤ i ∧ t = .int .i64 k ∧ Hid ((L.take k).contains s = false) ∧ Below w.heap.size w wr) (fun t _ => i - (intOf t).toNat)
    case atStart => exact ⟨0, Nat.zero_le _, rfl, E0, Below.refl _ _⟩
    case round =>
      obtain ⟨k, hk, rfl, HE, hbw⟩ := hrel
      clear E0
      by_cases hlt : k < i
      · obtain ⟨ad2, t, ht, hab2, htk, d0⟩ := loadS (hL.below hbw) (show k < n by omega)
        cases ht
        have c0' : wr.cell? (ad.add i) = some (.string (str s)) := (hbw.cell (p := ad.add i) (by rw [Mem.block_add]; exact hab)).trans c0
        have hkn : (k : Int) < (n : Int) := by omega
        have hin : (i : Int) < (n : Int) := by omega
        clear c0 hL
        by_cases e : t = s
        · subst e
          have HR := Lib.hid (nameErr_dup HNm.out (contains_hit htk hlt))
          clear htk HE HS
          go_wp2
          go_quiet (fail)
          go_wp2
          go_ret
          exact ⟨ret1 HR.out.symm, Mem.below_draws hbw _⟩
        · have hne := str_ne e
          have HE2 := Lib.hid (contains_take htk e HE.out)
          clear htk HE e
          go_wp2
          go_quiet (fail)
          go_wp2
          go_roundw
          case rel => exact ⟨k + 1, by omega, by go_num, HE2, Mem.below_draws hbw _⟩
          case measure => simp [intOf]; omega
      · obtain rfl : k = i := by omega
        have HR := Lib.hid (nameErr_ok HNm.out HE.out)
        clear HE HS hL c0
        go_wp2
        go_ret
        exact ⟨ret1 HR.out.symm, hbw⟩

/-- what a call leaves that answers a list of names of its own -/
def StrsPost (L : List Bs) (w : World) (e : Ending) (w' : World) : Prop := ∃ A n c, e = .returned (.slice A n c) ∧ Own sR w' w.heap.size (.slice A n c) n L ∧ Below w.heap.size w w'
theorem infoS : (Tryd.prog.info? 9).map (fun i => (i.zero, i.size, i.bytes)) = some (some (.string ByteArray.empty), 1, 16) := by kernel_rfl

set_option maxRecDepth 100000 in
set_option maxHeartbeats 1000000 in
theorem sec_names (v : LV) (S : List Sec) (w : World) (hL : Rd secR w w.heap.size v.A3 v.n3 S) (hn : v.n3 ≤ 100000) : Calls Tryd.prog 46 #[v.val] w (StrsPost (S.map Sec.name) w) := by
  obtain ⟨ih, hih, hz0, hz1, hz2⟩ := info_parts infoS
  obtain ⟨W, hW, HZ, HB0, HBX⟩ := boxed v w
  have HC := Lib.hid HBX
  have hgW : w.heap.size < W.heap.size := by rw [HZ.out]; omega
  have HB := Lib.hid HB0
  have hr := hL.grow HB0 (show w.heap.size ≤ W.heap.size by omega)
  have hkeep : ∀ wr, Below W.heap.size W wr → _ := fun wr hb => box_kept hb hgW HC.out
  have HK := Lib.hid hkeep
  clear hL hkeep HB0 HBX
  obtain ⟨A1, n1, c1, A2, n2, c2, A3, n3, c3, A4, n4, c4⟩ := v
  simp only [LV.val] at *
  have E : Hid ((S.map Sec.name).take 0 = []) := rfl
  go_enter Tryd.func46, Tryd.ntmps46
  go_upto_region 1 with fail
  clear hW
  go_wp2_with fail
  go_loopw [3, 4] (fun t i wr => ∃ (k c : Nat) (A : Option Addr), k ≤ n3 ∧ i = .int .i64 k ∧ t = .slice A k c ∧ Own sR wr W.heap.size (.slice A k c) k ((S.map Sec.name).take k) ∧ Below W.heap.size W wr) (fun _ i _ => n3 - (intOf i).toNat)
  case atStart => exact ⟨0, 0, none, Nat.zero_le _, rfl, rfl, by rw [E.out]; exact Own.nil _ _, Below.refl _ _⟩
  case round =>
    obtain ⟨k, c, A, hk, rfl, rfl, hO, hbw⟩ := hrel
    clear E
    have hzW := hbw.size
    obtain ⟨c0, c1', c2', c3'⟩ := HK.out wr hbw
    by_cases hlt : k < n3
    · obtain ⟨ad, s, rfl, hab, hs, d0, d1, d2, d3, d4⟩ := loadSec (hr.below hbw) hlt
      have HT := Lib.hid (take_succ (L := S.map Sec.name) (k := k) (s := s.name) (by simp [hs]))
      have hkn : (k : Int) < (n3 : Int) := by omega
      have hn63 : k + 1 ≤ maxLen := by unfold maxLen; omega
      have hby : (k + 1) * 16 ≤ 140737488355328 := by omega
      have HO := Lib.hid hO
      clear hr hO hs d1 d2 d3 d4
      go_wp2_with (at_builtin; refine wpList_append_own _ rfl _ _ 22 rfl W.heap.size 9 ih _ 1 16 Tryd.underlying22 hih hz0 hz1 hz2 rfl (by omega) (.slice A k c) k (sR.cs ((S.map Sec.name).take k)) rfl (HO.out.2.alloc _) ⟨wr.heap.size, 0, none⟩ 1 1 [.string (str s.name)] rfl rfl (cell_one_new _ _ _) (one_cell _ rfl) hn63 hby (by simp; omega) ?_)
      intro v w1 hown hgrow _
      obtain ⟨A', c', hv, hO', hb'⟩ := appended (R := sR) (a := s.name) hbw hzW HO.out.1 HO.out.2 hown hgrow
      rw [← HT.out] at hO'
      have HO2 := Lib.hid hO'
      rw [hv]
      clear hown hgrow hv hO' HO c0 c1' c2' c3' d0
      go_wp2_with fail
      go_roundw
      case rel => exact ⟨k + 1, c', A', by omega, by go_num, rfl, HO2.out, hb'⟩
      case measure => simp [intOf]; omega
    · have HX : Hid ((S.map Sec.name).take k = S.map Sec.name) := List.take_of_length_le (by have := hr.1; simp; omega)
      rw [HX.out] at hO
      go_wp2_with fail
      go_ret
      exact ⟨A, k, c, rfl, hO.base_ (by omega), HB.out.trans (hbw.mono (by omega))⟩

theorem has_split (k : Lnk) (x y : Int) : has k (x, y) = ((k.a == x) && (k.ae == y) || (k.b == x) && (k.be == y)) := by
  rw [Bool.eq_iff_iff, has_iff]
  simp [Lnk.x, Lnk.y]
set_option maxHeartbeats 1000000 in
theorem r_has (k : Lnk) (x y : Int) (w : World) : Calls Tryd.prog 79 #[.agg #[.int .i64 k.a, .int .i64 k.ae, .int .i64 k.b, .int .i64 k.be, .int .i64 k.pt, .int .i64 k.ps], .agg #[.int .i64 x, .int .i64 y]] w (BoolPost (has k (x, y)) w) := by
  have E := Lib.hid (has_split k x y)
  obtain ⟨a, ae, b, be, pt, ps⟩ := k
  simp only at *
  go_enter Tryd.func79, Tryd.ntmps79
  cases h1 : (a == x) <;> cases h2 : (ae == y) <;> cases h3 : (b == x) <;> cases h4 : (be == y)
  all_goals
    rw [h1, h2, h3, h4] at E
    go_wp2
    go_ret
    exact ⟨retb E.out.symm, ((Below.refl _ _).alloc (Nat.le_refl _) _).alloc (by simp) _⟩
end Go.Proofs.YtkfobijgjdgbgaaDoor.RNames
