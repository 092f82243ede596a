/-
  Contracts of the program's functions that check a layout's sizes and its sections.
-/
import Derived.Test.YtkfobijgjdgbgaaDoorPNames
import Derived.Deep.DeepCutAuto
namespace Go.Proofs.YtkfobijgjdgbgaaDoor.PSecs
open Go.ChangeShapes Go.WideShapes Go.ChangeAt Go.RowKit Wd Small Mem Lay Recs Keep Names PNames
set_option linter.unusedVariables false

def btw (x lo hi : Int) : Bool := decide (lo ≤ x) && decide (x ≤ hi)
def nof (x n : Int) : Bool := decide (0 ≤ x) && decide (x < n)
theorem is_between (x lo hi : Int) (w : World) : Calls Tryd.prog 83 #[.int .i64 x, .int .i64 lo, .int .i64 hi] w (Says (btw x lo hi) w) := by
  have E : Hid (btw x lo hi = (decide (lo ≤ x) && decide (x ≤ hi))) := rfl
  go_enter Tryd.func83, Tryd.ntmps83
  go_wp2
  all_goals go_ret
  all_goals exact ⟨retb (by rw [E.out, Bool.eq_iff_iff]; simp; omega), rfl⟩
theorem is_number (x n : Int) (w : World) : Calls Tryd.prog 44 #[.int .i64 x, .int .i64 n] w (Says (nof x n) w) := by
  have E : Hid (nof x n = (decide (0 ≤ x) && decide (x < n))) := rfl
  go_enter Tryd.func44, Tryd.ntmps44
  go_wp2
  all_goals go_ret
  all_goals exact ⟨retb (by rw [E.out, Bool.eq_iff_iff]; simp; omega), rfl⟩

/-- are the numbers of a section in their ranges (q stations) -/
def inS (q : Nat) (s : Sec) : Bool := btw s.len 1 400 && (btw s.lim 1000 100000 && (btw s.grade (-40) 40 && ((s.st == -1) || nof s.st q)))
theorem secErr_eq (q : Nat) (s : Sec) : secErr q s = if inS q s = true then 0 else 4 := by
  unfold secErr
  congr 1
  simp only [inS, btw, nof, Bool.and_eq_true, Bool.or_eq_true, decide_eq_true_eq, beq_iff_eq, eq_iff_iff]
  omega

/-- what a call leaves that answers a bool and has changed no old memory -/
def BoolPost (b : Bool) (w : World) (e : Ending) (w' : World) : Prop := e = .returned (.bool b) ∧ Below w.heap.size w w'

set_option maxRecDepth 100000 in
theorem is_section (v : LV) (s : Sec) (w : World) : Calls Tryd.prog 62 #[v.val, .agg #[.string (str s.name), .int .i64 s.len, .int .i64 s.lim, .int .i64 s.grade, .int .i64 s.st]] w (BoolPost (inS v.n1 s) w) := by
  have E : Hid (inS v.n1 s = (btw s.len 1 400 && (btw s.lim 1000 100000 && (btw s.grade (-40) 40 && ((s.st == -1) || nof s.st v.n1))))) := rfl
  obtain ⟨A1, n1, c1, A2, n2, c2, A3, n3, c3, A4, n4, c4⟩ := v
  obtain ⟨nm, len, lim, gr, st⟩ := s
  simp only [LV.val] at E ⊢
  go_enter Tryd.func62, Tryd.ntmps62
  cases h1 : btw len 1 400 <;> cases h2 : btw lim 1000 100000 <;> cases h3 : btw gr (-40) 40 <;> cases h4 : (st == -1) <;> cases h5 : nof st n1
  all_goals
    rw [h1, h2, h3, h4, h5] at E
    go_wp2_with (first | (go_at_call 83; refine (is_between _ _ _ _).mono ?_; rintro e w' ⟨rfl, rfl⟩; (first | rw [h1] | rw [h2] | rw [h3])) | (go_at_call 44; refine (is_number _ _ _).mono ?_; rintro e w' ⟨rfl, rfl⟩; rw [h5]))
    go_ret
    exact ⟨retb E.out.symm, ((Below.refl _ _).alloc (Nat.le_refl _) _).alloc (by simp) _⟩

/-- the first error of the lists' lengths -/
def sizeErr (n1 n2 n3 n4 : Nat) : Int := if 24 < n1 ∨ 48 < n2 ∨ 96 < n3 ∨ 192 < n4 then 7 else if n3 = 0 then 1 else 0
theorem check_sizes (v : LV) (w : World) (h1 : v.n1 ≤ 9223372036854775807) (h2 : v.n2 ≤ 9223372036854775807) (h3 : v.n3 ≤ 9223372036854775807) (h4 : v.n4 ≤ 9223372036854775807) :
    Calls Tryd.prog 29 #[v.val] w (ErrPost (sizeErr v.n1 v.n2 v.n3 v.n4) w) := by
  obtain ⟨A1, n1, c1, A2, n2, c2, A3, n3, c3, A4, n4, c4⟩ := v
  simp only [LV.val] at *
  have E : Hid (sizeErr n1 n2 n3 n4 = if 24 < n1 ∨ 48 < n2 ∨ 96 < n3 ∨ 192 < n4 then 7 else if n3 = 0 then 1 else 0) := rfl
  go_enter Tryd.func29, Tryd.ntmps29
  go_wp2
  all_goals go_ret
  all_goals refine ⟨ret1 ?_, (Below.refl _ _).alloc (Nat.le_refl _) _⟩
  all_goals rw [E.out]
  all_goals simp at *
  all_goals repeat' split
  all_goals first | rfl | omega

theorem secs_step {q : Nat} {L : List Sec} {k : Nat} {s : Sec} (h : L[k]? = some s) :
    secsErr q ((L.map Sec.name).take k) (L.drop k) = if nameErr ((L.map Sec.name).take k) s.name = 0 then (if inS q s = true then secsErr q ((L.map Sec.name).take (k + 1)) (L.drop (k + 1)) else 4) else nameErr ((L.map Sec.name).take k) s.name := by
  have h' : (L.map Sec.name)[k]? = some s.name := by simp [h]
  rw [Strs.drop_at h, take_succ h', show secsErr q ((L.map Sec.name).take k) (s :: L.drop (k + 1)) = if isName s.name = false then 3 else if ((L.map Sec.name).take k).contains s.name then 5 else if secErr q s = 0 then secsErr q ((L.map Sec.name).take k ++ [s.name]) (L.drop (k + 1)) else secErr q s from rfl, secErr_eq]
  unfold nameErr
  by_cases h1 : isName s.name = false
  · rw [if_pos h1, if_pos h1, if_neg (by decide)]
  · rw [if_neg h1, if_neg h1]
    by_cases h2 : ((L.map Sec.name).take k).contains s.name = true
    · rw [if_pos h2, if_pos h2, if_neg (by decide)]
    · rw [if_neg h2, if_neg h2, if_pos rfl]
      by_cases h3 : inS q s = true
      · rw [if_pos h3, if_pos h3, if_pos rfl]
      · rw [if_neg h3, if_neg h3, if_neg (by decide)]

theorem grown_cell {w w' : World} {row : Option Nat} {p : Addr} (hg : w.grownBy w' row) (hp : p.block < w.heap.size) (hne : some p.block ≠ row) : w'.cell? p = w.cell? p := World.cell?_of_block (hg.block p.block hp hne)

/-- the box of a layout: the world behind it, and what of it a walk needs -/
theorem boxed (v : LV) (w : World) : ∃ W, w.alloc (.cells #[.slice v.A1 v.n1 v.c1, .slice v.A2 v.n2 v.c2, .slice v.A3 v.n3 v.c3, .slice v.A4 v.n4 v.c4] 26) = W ∧ Hid (W.heap.size = w.heap.size + 1) ∧ Below w.heap.size w W ∧
    W.cell? ⟨w.heap.size, 0, none⟩ = some (.slice v.A1 v.n1 v.c1) ∧ W.cell? ⟨w.heap.size, 1, none⟩ = some (.slice v.A2 v.n2 v.c2) ∧ W.cell? ⟨w.heap.size, 2, none⟩ = some (.slice v.A3 v.n3 v.c3) ∧ W.cell? ⟨w.heap.size, 3, none⟩ = some (.slice v.A4 v.n4 v.c4) :=
  ⟨_, rfl, by rw [Hid]; simp, (Below.refl _ _).alloc (Nat.le_refl _) _, by simp, by simp, by simp, by simp⟩
/-- the box of a layout still lies where it lay -/
theorem box_kept {W wr : World} {g : Nat} {v : LV} (hb : Below W.heap.size W wr) (hg : g < W.heap.size) (h : W.cell? ⟨g, 0, none⟩ = some (.slice v.A1 v.n1 v.c1) ∧ W.cell? ⟨g, 1, none⟩ = some (.slice v.A2 v.n2 v.c2) ∧ W.cell? ⟨g, 2, none⟩ = some (.slice v.A3 v.n3 v.c3) ∧ W.cell? ⟨g, 3, none⟩ = some (.slice v.A4 v.n4 v.c4)) :
    wr.cell? ⟨g, 0, none⟩ = some (.slice v.A1 v.n1 v.c1) ∧ wr.cell? ⟨g, 1, none⟩ = some (.slice v.A2 v.n2 v.c2) ∧ wr.cell? ⟨g, 2, none⟩ = some (.slice v.A3 v.n3 v.c3) ∧ wr.cell? ⟨g, 3, none⟩ = some (.slice v.A4 v.n4 v.c4) :=
  ⟨(hb.cell (p := ⟨g, 0, none⟩) hg).trans h.1, (hb.cell (p := ⟨g, 1, none⟩) hg).trans h.2.1, (hb.cell (p := ⟨g, 2, none⟩) hg).trans h.2.2.1, (hb.cell (p := ⟨g, 3, none⟩) hg).trans h.2.2.2⟩

set_option maxRecDepth 100000 in
set_option maxHeartbeats 1000000 in
theorem check_sections (v : LV) (l : Lay) (w : World) (hL : RdL w w.heap.size v l) (hn : v.n3 ≤ 96) : Calls Tryd.prog 31 #[v.val] w (ErrPost (secsErr v.n1 [] l.sections) w) := by
  have hR := hL.sec
  have HSZ := Lib.hid hL.sz3
  clear hL
  have HSP := Lib.hid (fun s => is_section v s)
  obtain ⟨W, hW, HZ, HB0, HC0⟩ := boxed v w
  have HC := Lib.hid HC0
  have hr := hR.grow HB0 (show w.heap.size ≤ W.heap.size by have := HB0.size; omega)
  have hgW : w.heap.size < W.heap.size := by rw [HZ.out]; omega
  have HB := Lib.hid HB0
  clear hR HB0 HC0
  have hkeep : ∀ wr, Below W.heap.size W wr → _ := fun wr hb => box_kept hb hgW HC.out
  have HK := Lib.hid hkeep
  obtain ⟨c0, c1', c2', c3'⟩ := HC.out
  obtain ⟨A1, n1, c1, A2, n2, c2, A3, n3, c3, A4, n4, c4⟩ := v
  simp only [LV.val] at *
  have E : Hid (secsErr n1 [] l.sections = secsErr n1 ((l.sections.map Sec.name).take 0) (l.sections.drop 0)) := rfl
  have hmm := make_seen W n3
  have HS := Lib.hid (Seen.made W)
  have HBM := Lib.hid ((Below.refl W.heap.size W).alloc (Nat.le_refl _) (.map #[] 0))
  clear hkeep
  go_enter Tryd.func31, Tryd.ntmps31
  go_upto_region 1 with fail
  clear hW
  go_wp2_with fail
  clear hmm c0 c1' c2' c3'
  go_loopw [14] (fun i wr => ∃ (k : Nat), k ≤ n3 ∧ i = .int .i64 k ∧ Seen wr W.heap.size k ((l.sections.map Sec.name).take k) ∧ Hid (secsErr n1 [] l.sections = secsErr n1 ((l.sections.map Sec.name).take k) (l.sections.drop k)) ∧ Below W.heap.size W wr) (fun i _ => n3 - (intOf i).toNat)
  case atStart => exact ⟨0, Nat.zero_le _, rfl, HS.out, E, HBM.out⟩
  case round =>
    obtain ⟨k, hk, rfl, hS, HE, hbw⟩ := hrel
    clear HS HBM E
    have hzW := hbw.size
    by_cases hlt : k < n3
    · obtain ⟨ad, s, rfl, hab, hs, d0, d1, d2, d3, d4⟩ := loadSec (hr.below hbw) hlt
      obtain ⟨c0, c1', c2', c3'⟩ := HK.out wr hbw
      have hsl := HSZ.out s (List.mem_of_getElem? hs)
      have HX := Lib.hid (HE.out.trans (secs_step hs))
      have HT := Lib.hid (take_succ (L := l.sections.map Sec.name) (k := k) (s := s.name) (by simp [hs]))
      have hgb := hS.lt
      obtain ⟨wa, hwa⟩ : ∃ wa, wr.alloc (.cells #[.string (str s.name), .int .i64 s.len, .int .i64 s.lim, .int .i64 s.grade, .int .i64 s.st] 45) = wa := ⟨_, rfl⟩
      have hba : Below wr.heap.size wr wa := by rw [← hwa]; exact (Below.refl _ _).alloc (Nat.le_refl _) _
      have HSn := Lib.hid (hS.below hba hgb)
      have hbw' := hbw.trans (hba.mono hzW)
      have hza : wr.heap.size < wa.heap.size := by rw [← hwa]; simp
      clear hs HE hr hS
      have e0 : wa.cell? ⟨wr.heap.size, 0, none⟩ = some (.string (str s.name)) := by rw [← hwa]; simp
      have HE5 := Lib.hid (show wa.cell? ⟨wr.heap.size, 1, none⟩ = some (.int .i64 s.len) ∧ wa.cell? ⟨wr.heap.size, 2, none⟩ = some (.int .i64 s.lim) ∧ wa.cell? ⟨wr.heap.size, 3, none⟩ = some (.int .i64 s.grade) ∧ wa.cell? ⟨wr.heap.size, 4, none⟩ = some (.int .i64 s.st) by rw [← hwa]; simp)
      clear c0 c1' c2' c3'
      go_upto_region 5 with fail
      clear hwa
      go_wp2_with fail
      refine (add_name W.heap.size k _ s.name _ HSn.out hsl (by omega)).mono ?_
      rintro e w1 ⟨rfl, hS1, hg1⟩
      have hb1 : Below W.heap.size W w1 := hbw'.grown hg1 (by omega) (fun j hj => by injection hj with hj; omega)
      have hz1 : wa.heap.size ≤ w1.heap.size := hg1.size
      have k0 := (grown_cell (p := ⟨wr.heap.size, 0, none⟩) hg1 hza (by simp; omega)).trans e0
      have k1 := (grown_cell (p := ⟨wr.heap.size, 1, none⟩) hg1 hza (by simp; omega)).trans HE5.out.1
      have k2 := (grown_cell (p := ⟨wr.heap.size, 2, none⟩) hg1 hza (by simp; omega)).trans HE5.out.2.1
      have k3 := (grown_cell (p := ⟨wr.heap.size, 3, none⟩) hg1 hza (by simp; omega)).trans HE5.out.2.2.1
      have k4 := (grown_cell (p := ⟨wr.heap.size, 4, none⟩) hg1 hza (by simp; omega)).trans HE5.out.2.2.2
      obtain ⟨c0, c1', c2', c3'⟩ := HK.out w1 hb1
      have HS1 := Lib.hid hS1
      clear d0 d1 d2 d3 d4 e0 HE5 hS1 hg1 HSn
      cases hz0 : decide (nameErr ((l.sections.map Sec.name).take k) s.name = 0) with
      | true =>
        have h0 := of_decide_eq_true hz0
        have HS2 := Lib.hid (HS1.out h0)
        rw [← HT.out] at HS2
        have HX2 := HX.out
        rw [if_pos h0] at HX2
        have HX3 := Lib.hid HX2
        rw [h0]
        clear hz0 HX HX2 HS1 h0 HT
        go_wp2_with fail
        refine (HSP.out s w1).mono ?_
        rintro e w2 ⟨rfl, hb2⟩
        have hb3 := hb1.trans (hb2.mono (by omega))
        have HS3 := Lib.hid (HS2.out.below hb2 (by have := HS2.out.lt; omega))
        cases hI : inS n1 s with
        | true =>
          have HX4 := HX3.out
          rw [if_pos hI] at HX4
          have HX5 := Lib.hid HX4
          clear hI HX3 HX4 hb2 HS2 k0 k1 k2 k3 k4 c0 c1' c2' c3'
          go_wp2_with fail
          go_roundw
          case rel => exact ⟨k + 1, by omega, by go_num, HS3.out, HX5, hb3⟩
          case measure => simp [intOf]; omega
        | false =>
          have HX4 := HX3.out
          rw [if_neg (by rw [hI]; decide)] at HX4
          have HX5 := Lib.hid HX4
          clear hI HX3 HX4 hb2 HS2 k0 k1 k2 k3 k4 c0 c1' c2' c3'
          go_wp2_with fail
          go_ret
          exact ⟨ret1 HX5.out.symm, HB.out.trans (hb3.mono (by omega))⟩
      | false =>
        have h0 := of_decide_eq_false hz0
        have HX2 := HX.out
        rw [if_neg h0] at HX2
        have HX3 := Lib.hid HX2
        have hne : ((nameErr ((l.sections.map Sec.name).take k) s.name : Int) != 0) = true := by rw [bne_iff_ne]; exact h0
        clear hz0 HX HX2 HS1 h0 HT
        generalize nameErr ((l.sections.map Sec.name).take k) s.name = z at *
        go_wp2_with fail
        go_ret
        exact ⟨ret1 HX3.out.symm, HB.out.trans (hb1.mono (by omega))⟩
    · have HX : Hid (secsErr n1 [] l.sections = 0) := by rw [Hid, HE.out, List.drop_eq_nil_of_le (by have := hr.1; omega)]; rfl
      clear HE hr hS
      go_wp2_with fail
      go_ret
      exact ⟨ret1 HX.out.symm, HB.out.trans (hbw.mono (by omega))⟩
end Go.Proofs.YtkfobijgjdgbgaaDoor.PSecs
