/-
  Contracts of the program: speeds.
-/
import Derived.Test.YtglcimahdgnnnaaPSq
import Derived.Test.YtglcimahdgnnnaaArithRoot
namespace Go.Proofs.Ytglcimahdgnnnaa.PSpd
open Go.ChangeShapes Go.WideShapes Go.ChangeAt Go.RowKit Dyn Mem Src PSm PChk PLim PPer
set_option linter.unusedVariables false

/-- what a call leaves that answers a new row of n numbers and no error -/
def TupRow (n : Nat) (f : Nat → Int) (w : World) (e : Ending) (w' : World) : Prop := ∃ g, e = .returned (.tuple #[.slice (some ⟨g, 0, none⟩) n n, .int .i64 0]) ∧ w.heap.size ≤ g ∧ Row w' g n f ∧ Below w.heap.size w w'
/-- what a call leaves that answers no row and an error -/
def TupErr (er : Int) (w : World) (e : Ending) (w' : World) : Prop := e = .returned (.tuple #[.slice none 0 0, .int .i64 er]) ∧ Below w.heap.size w w'

/-- arguments of a run, whatever they are -/
structure AnyArgs (w : World) (A : Option Addr) (n c : Nat) (st : Int) (L : List Cel) (s : Stk) : Prop where
  rd : Rd celR w w.heap.size A n L
  nc : n ≤ c
  cb : c ≤ 9223372036854775807
  hst : -9223372036854775808 ≤ st ∧ st ≤ 9223372036854775807
theorem AnyArgs.keep {w w' : World} {A : Option Addr} {n c : Nat} {st : Int} {L : List Cel} {s : Stk} (h : AnyArgs w A n c st L s) (hb : Below w.heap.size w w') : AnyArgs w' A n c st L s := ⟨(h.rd.below hb).more hb.size, h.nc, h.cb, h.hst⟩
theorem AnyArgs.run {w : World} {A : Option Addr} {n c : Nat} {st : Int} {L : List Cel} {s : Stk} (h : AnyArgs w A n c st L s) (he : err L st s = 0) : ∃ (k m : Nat), st = k ∧ n = k + m ∧ 2 ≤ m ∧ RunArgs w A n c k L s := by
  have hl := h.rd.1
  have e := err_is L st s
  rw [he, hl] at e
  cases h1 : okStk s with
  | false => rw [h1, if_neg (by decide)] at e; omega
  | true =>
    rw [h1, if_pos rfl] at e
    by_cases h2 : (4000 : Int) < n
    · rw [if_pos h2] at e; omega
    · rw [if_neg h2] at e
      cases h3 : L.all okCel with
      | false => rw [h3, if_neg (by decide)] at e; omega
      | true =>
        rw [h3, if_pos rfl] at e
        cases h4 : btw st 0 ((n : Int) - 2) with
        | false => rw [h4, if_neg (by decide)] at e; omega
        | true =>
          simp [btw] at h4
          exact ⟨st.toNat, n - st.toNat, by omega, by omega, by omega, ⟨h.rd, h.nc, h.cb, by omega, by omega, h1, h3⟩⟩
theorem RunArgs.err {w : World} {A : Option Addr} {n c st : Nat} {L : List Cel} {s : Stk} (h : RunArgs w A n c st L s) : err L st s = 0 := by
  have hl := h.rd.1
  have h1 := h.n4
  have h2 := h.kn
  rw [err_is, h.hs, if_pos rfl, if_neg (by omega), h.hc, if_pos rfl, if_pos]
  simp [btw]; omega
theorem RunArgs.any {w : World} {A : Option Addr} {n c st : Nat} {L : List Cel} {s : Stk} (h : RunArgs w A n c st L s) : AnyArgs w A n c st L s := ⟨h.rd, h.nc, h.cb, by have := h.n4; have := h.kn; omega⟩
theorem RunArgs.keep {w w' : World} {A : Option Addr} {n c st : Nat} {L : List Cel} {s : Stk} (h : RunArgs w A n c st L s) (hb : Below w.heap.size w w') : RunArgs w' A n c st L s := ⟨(h.rd.below hb).more hb.size, h.nc, h.cb, h.kn, h.n4, h.hs, h.hc⟩

theorem p_sqrt (n : Int) (w : World) (h0 : 0 ≤ n) (h1 : n ≤ 9223372036854775807) : Calls Try.prog 25 #[.int .i64 n] w fun e w' => e = .returned (.int .i64 (root n)) ∧ w = w' := by
  by_cases h : 1 ≤ n
  · refine (Root.sqrt_one n w h h1).mono ?_
    rintro e w' ⟨r, rfl, r0, r1, r2, r3, rfl⟩
    exact ⟨ret1 (root_eq r0 r2 r3).symm, rfl⟩
  · obtain rfl : n = 0 := by omega
    refine (Root.sqrt_low 0 w (by omega) (by omega)).mono ?_
    rintro e w' ⟨rfl, rfl⟩
    exact ⟨ret1 root_zero.symm, rfl⟩

set_option maxRecDepth 100000 in
set_option maxHeartbeats 2000000 in
theorem p_speeds_no (A : Option Addr) (n c : Nat) (L : List Cel) (st : Int) (x : ByteArray) (s : Stk) (w : World) (h : AnyArgs w A n c st L s) (he : err L st s ≠ 0) :
    Calls Try.prog 13 #[.slice A n c, .int .i64 st, stk x s] w (TupErr (err L st s) w) := by
  have HC := Lib.hid (fun w' (hb : Below w.heap.size w w') => p_checkRun A n c L st x s w' ((h.rd.below hb).more hb.size) (by have := h.nc; have := h.cb; omega) h.hst)
  have hb0 : Below w.heap.size w (w.alloc (.cells #[.string x, .int .i64 s.len, .int .i64 s.spd, .int .i64 s.acc, .int .i64 s.brk] 23)) := (Below.refl _ _).alloc (Nat.le_refl _) _
  obtain ⟨hx0, hx1, hx2, hx3, hx4⟩ := (Bx.new w x s).cells
  clear h
  obtain ⟨len, spd, ac, bk⟩ := s
  simp only [stk] at *
  generalize err L st ⟨len, spd, ac, bk⟩ = er at *
  go_enter Try.func13, Try.ntmps13
  go_wp2_with (go_at_call 23; refine (HC.out _ hb0).mono ?_; rintro e w2 ⟨rfl, hb2⟩)
  all_goals go_ret2
  all_goals exact ⟨rfl, hb0.trans (hb2.mono hb0.size)⟩

set_option maxRecDepth 100000 in
set_option maxHeartbeats 4000000 in
theorem p_speeds (A : Option Addr) (n c st m : Nat) (L : List Cel) (x : ByteArray) (s : Stk) (w : World) (h : RunArgs w A n c st L s) (hm : n = st + m) :
    Calls Try.prog 13 #[.slice A n c, .int .i64 st, stk x s] w (TupRow (m + 1) (vel L s st m) w) := by
  have hlen := h.rd.1
  have h4 := h.n4
  have hkn := h.kn
  have hm2 := hm
  have HC := Lib.hid (fun w' (hb : Below w.heap.size w w') => p_checkRun A n c L st x s w' ((h.rd.below hb).more hb.size) (by have := h.nc; have := h.cb; omega) (by omega))
  have HQ := Lib.hid (fun w' (hb : Below w.heap.size w w') => PSq.p_squared A n c st m L x s w' (RunArgs.keep h hb) hm)
  rw [RunArgs.err h] at HC
  have hsq : Hid (∀ i, i < m + 1 → 0 ≤ sq L s st m i ∧ sq L s st m i ≤ 10000000000) := fun i hi => by
    have := sq_in (b := i) h.hs h.hc (show st + m ≤ L.length by omega) (by omega)
    exact ⟨this.1, this.2.1⟩
  have hb0 : Below w.heap.size w (w.alloc (.cells #[.string x, .int .i64 s.len, .int .i64 s.spd, .int .i64 s.acc, .int .i64 s.brk] 23)) := (Below.refl _ _).alloc (Nat.le_refl _) _
  have hbx := Bx.new w x s
  have hxl := hbx.lt
  have hmk := run_make_row' (P := Try.prog) 24 3 (.int .i64 0) 8 Try.underlying24 infoI rfl .i64 .i64 (m + 1) (by omega) (by omega)
  obtain ⟨hx0, hx1, hx2, hx3, hx4⟩ := hbx.cells
  have HX := Lib.hid hbx
  clear h hm hbx
  obtain ⟨len, spd, ac, bk⟩ := s
  simp only [stk] at *
  obtain ⟨N, hN⟩ : ∃ N, m + 1 = N := ⟨_, rfl⟩
  rw [hN] at hmk HQ hsq ⊢
  have hN4 : N ≤ 4001 := by omega
  clear hN hm2
  obtain ⟨W0, hW0⟩ : ∃ W0, w.alloc (.cells #[.string x, .int .i64 len, .int .i64 spd, .int .i64 ac, .int .i64 bk] 23) = W0 := ⟨_, rfl⟩
  rw [hW0] at HX hb0 hx0 hx1 hx2 hx3 hx4 hxl
  have HB0 := Lib.hid hb0
  clear hb0
  go_enter Try.func13, Try.ntmps13
  go_upto_region 6 with (first
    | (go_at_call 23; refine (HC.out _ HB0.out).mono ?_; rintro e w2 ⟨rfl, hb2⟩; have hbx2 := HX.out.below hb2 hxl; have hxl2 := hbx2.lt; have HB2 := Lib.hid (HB0.out.trans (hb2.mono HB0.out.size)); obtain ⟨y0, y1, y2, y3, y4⟩ := hbx2.cells; clear hb2 hbx2)
    | (go_at_call 24; refine (HQ.out _ HB2.out).mono ?_; rintro e w3 ⟨g, rfl, hg, hR, hb3⟩; have HB3 := Lib.hid (HB2.out.trans (hb3.mono HB2.out.size)); have HR := Lib.hid hR; clear hR hb3))
  have hR4 : Row (w3.alloc (.cells (madeCells #[.int .i64 0] N) 3)) w3.heap.size N (fun _ => 0) := Row.made w3 N
  have hgl := HR.out.lt
  have hG4 : Row (w3.alloc (.cells (madeCells #[.int .i64 0] N) 3)) g N (sq L ⟨len, spd, ac, bk⟩ st m) := HR.out.alloc _
  have hb4 : Below w.heap.size w (w3.alloc (.cells (madeCells #[.int .i64 0] N) 3)) := HB3.out.alloc HB3.out.size _
  have hz3 := HB3.out.size
  obtain ⟨h, hh⟩ : ∃ h, w3.heap.size = h := ⟨_, rfl⟩
  rw [hh] at hR4 hgl hz3 ⊢
  generalize w3.alloc (.cells (madeCells #[.int .i64 0] N) 3) = W4 at *
  have HS4 : Hid (Row W4 h N (fun j => if j < 0 then vel L ⟨len, spd, ac, bk⟩ st m j else 0) ∧ Row W4 g N (sq L ⟨len, spd, ac, bk⟩ st m) ∧ Below w.heap.size w W4) := ⟨hR4.congr fun j hj => by rw [if_neg (by omega)], hG4, hb4⟩
  clear hR4 hG4 hb4 hx0 hx1 hx2 hx3 hx4 y0 y1 y2 y3 y4 HX HB0 HB2 HB3 HR hW0 hmk hh HC HQ
  go_wp2
  go_loopw [29] (fun i wr => ∃ k : Nat, k ≤ N ∧ i = .int .i64 k ∧ Hid (Row wr h N (fun j => if j < k then vel L ⟨len, spd, ac, bk⟩ st m j else 0) ∧ Row wr g N (sq L ⟨len, spd, ac, bk⟩ st m) ∧ Below w.heap.size w wr)) (fun i _ => N - (intOf i).toNat)
  case atStart => exact ⟨0, Nat.zero_le _, rfl, HS4⟩
  case round =>
    obtain ⟨k, hk, rfl, hS⟩ := hrel
    by_cases hlt : k < N
    · have hq := hsq.out k hlt
      have c0 := hS.out.2.1.cell hlt
      have c1 := hS.out.1.cell hlt
      have c2 := hS.out.1.frozen k
      rw [if_neg (by omega)] at c1
      obtain ⟨q, hqe⟩ : ∃ q, sq L ⟨len, spd, ac, bk⟩ st m k = q := ⟨_, rfl⟩
      rw [hqe] at hq c0
      have HV : Hid (vel L ⟨len, spd, ac, bk⟩ st m k = root q) := by rw [Hid, vel, hqe]
      clear hqe
      go_wp2_with (go_at_call 25; refine (p_sqrt q _ (by omega) (by omega)).mono ?_; rintro e w' ⟨rfl, rfl⟩)
      go_roundw
      case rel =>
        refine ⟨k + 1, by omega, by go_num, (hS.out.1.set_ k (root q)).congr fun j hj => ?_, hS.out.2.1.other (by simp only; omega) _, hS.out.2.2.setCell (by simp only; omega) _⟩
        by_cases e : j = k
        · subst e; rw [if_pos rfl, if_pos (by omega), HV.out]
        · rw [if_neg e]
          by_cases e2 : j < k
          · rw [if_pos e2, if_pos (by omega)]
          · rw [if_neg e2, if_neg (by omega)]
      case measure => simp [intOf]; omega
    · obtain rfl : k = N := by omega
      have HF : Hid (Row wr h k (vel L ⟨len, spd, ac, bk⟩ st m)) := hS.out.1.congr fun j hj => by rw [if_pos hj]
      have HB := Lib.hid hS.out.2.2
      clear hS
      go_wp2
      all_goals go_ret2
      all_goals exact ⟨h, rfl, hz3, HF.out, HB.out⟩
end Go.Proofs.Ytglcimahdgnnnaa.PSpd
