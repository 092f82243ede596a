/-
  Contracts of the program: times and the duration of a run.
-/
import Derived.Test.YtglcimahdgnnnaaPSpd
import Derived.Test.YtglcimahdgnnnaaArithCalls
namespace Go.Proofs.Ytglcimahdgnnnaa.PTim
open Go.ChangeShapes Go.WideShapes Go.ChangeAt Go.RowKit Dyn Mem Src PSm PChk PLim PPer PSpd
set_option linter.unusedVariables false

theorem p_ceil (a b : Int) (w : World) (h1 : 0 ≤ a) (h2 : a ≤ 9223372036854775807) (hb : 1 ≤ b) (hb2 : b ≤ 9223372036854775807) :
    Calls Try.prog 26 #[.int .i64 a, .int .i64 b] w fun e w' => e = .returned (.tuple #[.int .i64 (ceil a b), .int .i64 0]) ∧ w = w' := Calls1.ceil_any a b w (by omega) h2 hb hb2

set_option maxRecDepth 100000 in
set_option maxHeartbeats 2000000 in
theorem p_times_no (A : Option Addr) (n c : Nat) (L : List Cel) (st : Int) (x : ByteArray) (s : Stk) (w : World) (h : AnyArgs w A n c st L s) (he : err L st s ≠ 0) :
    Calls Try.prog 15 #[.slice A n c, .int .i64 st, stk x s] w (TupErr (err L st s) w) := by
  have HC := Lib.hid (fun w' (hb : Below w.heap.size w w') => p_speeds_no A n c L st x s w' (h.keep hb) he)
  have hb0 : Below w.heap.size w (w.alloc (.cells #[.string x, .int .i64 s.len, .int .i64 s.spd, .int .i64 s.acc, .int .i64 s.brk] 23)) := (Below.refl _ _).alloc (Nat.le_refl _) _
  obtain ⟨hx0, hx1, hx2, hx3, hx4⟩ := (Bx.new w x s).cells
  clear h
  obtain ⟨len, spd, ac, bk⟩ := s
  simp only [stk] at *
  generalize err L st ⟨len, spd, ac, bk⟩ = er at *
  go_enter Try.func15, Try.ntmps15
  go_wp2_with (go_at_call 13; refine (HC.out _ hb0).mono ?_; rintro e w2 ⟨rfl, hb2⟩)
  all_goals go_ret2
  all_goals exact ⟨rfl, hb0.trans (hb2.mono hb0.size)⟩

set_option maxRecDepth 100000 in
set_option maxHeartbeats 4000000 in
theorem p_times (A : Option Addr) (n c st m : Nat) (L : List Cel) (x : ByteArray) (s : Stk) (w : World) (h : RunArgs w A n c st L s) (hm : n = st + m) :
    Calls Try.prog 15 #[.slice A n c, .int .i64 st, stk x s] w (TupRow (m + 1) (tim (vel L s st m)) w) := by
  have hlen := h.rd.1
  have h4 := h.n4
  have hkn := h.kn
  have hm2 := hm
  have HQ := Lib.hid (fun w' (hb : Below w.heap.size w w') => p_speeds A n c st m L x s w' (RunArgs.keep h hb) hm)
  have hvb : Hid (∀ i, i ≤ m → 0 ≤ vel L s st m i ∧ vel L s st m i ≤ 100000) := fun i hi => by
    have := vel_bounds (b := i) h.hs h.hc (show st + m ≤ L.length by omega) hi
    exact ⟨this.1, this.2.1⟩
  have hvp : Hid (∀ i, i < m → 0 < vel L s st m i + vel L s st m (i + 1)) := fun i hi => vel_pos h.hs h.hc (show st + m ≤ L.length by omega) (by omega) hi
  have htb : Hid (∀ i, i ≤ m → 0 ≤ tim (vel L s st m) i ∧ tim (vel L s st m) i ≤ 20000000 * i) := fun i hi => tim_bounds hvp.out i hi
  have hb0 : Below w.heap.size w (w.alloc (.cells #[.string x, .int .i64 s.len, .int .i64 s.spd, .int .i64 s.acc, .int .i64 s.brk] 23)) := (Below.refl _ _).alloc (Nat.le_refl _) _
  have hmk := run_make_row' (P := Try.prog) 24 3 (.int .i64 0) 8 Try.underlying24 infoI rfl .i64 .i64 (m + 1) (by omega) (by omega)
  obtain ⟨hx0, hx1, hx2, hx3, hx4⟩ := (Bx.new w x s).cells
  clear h hm
  obtain ⟨len, spd, ac, bk⟩ := s
  simp only [stk] at *
  obtain ⟨v, hv⟩ : ∃ v, vel L ⟨len, spd, ac, bk⟩ st m = v := ⟨_, rfl⟩
  rw [hv] at HQ hvb hvp htb ⊢
  clear hv
  obtain ⟨N, hN⟩ : ∃ N, m + 1 = N := ⟨_, rfl⟩
  rw [hN] at hmk HQ ⊢
  have hN4 : N ≤ 4001 := by omega
  have hN1 : m < N := by omega
  have hN2 : N ≤ m + 1 := by omega
  have hN3 : 3 ≤ N := by omega
  clear hN hm2
  obtain ⟨W0, hW0⟩ : ∃ W0, w.alloc (.cells #[.string x, .int .i64 len, .int .i64 spd, .int .i64 ac, .int .i64 bk] 23) = W0 := ⟨_, rfl⟩
  rw [hW0] at hb0 hx0 hx1 hx2 hx3 hx4
  have HB0 := Lib.hid hb0
  clear hb0
  go_enter Try.func15, Try.ntmps15
  go_upto_region 5 with (go_at_call 13; refine (HQ.out _ HB0.out).mono ?_; rintro e w3 ⟨g, rfl, hg, hR, hb3⟩; have HB3 := Lib.hid (HB0.out.trans (hb3.mono HB0.out.size)); have HR := Lib.hid hR; clear hR hb3)
  have hR4 : Row (w3.alloc (.cells (madeCells #[.int .i64 0] N) 3)) w3.heap.size N (fun _ => 0) := Row.made w3 N
  have hgl := HR.out.lt
  have hG4 : Row (w3.alloc (.cells (madeCells #[.int .i64 0] N) 3)) g N v := HR.out.alloc _
  have hb4 : Below w.heap.size w (w3.alloc (.cells (madeCells #[.int .i64 0] N) 3)) := HB3.out.alloc HB3.out.size _
  have hz3 := HB3.out.size
  obtain ⟨h, hh⟩ : ∃ h, w3.heap.size = h := ⟨_, rfl⟩
  rw [hh] at hR4 hgl hz3 ⊢
  generalize w3.alloc (.cells (madeCells #[.int .i64 0] N) 3) = W4 at *
  have HS4 : Hid (Row W4 h N (fun j => if j < 0 + 1 then tim v j else 0) ∧ Row W4 g N v ∧ Below w.heap.size w W4) := ⟨hR4.congr fun j hj => by
    by_cases e : j < 0 + 1
    · obtain rfl : j = 0 := by omega
      rw [if_pos e]; rfl
    · rw [if_neg e], hG4, hb4⟩
  clear hR4 hG4 hb4 hx0 hx1 hx2 hx3 hx4 HB0 HB3 HR hW0 hmk hh HQ
  go_wp2
  go_loopw [11] (fun i wr => ∃ k : Nat, k ≤ m ∧ i = .int .i64 ((k : Int) + 1) ∧ Hid (Row wr h N (fun j => if j < k + 1 then tim v j else 0) ∧ Row wr g N v ∧ Below w.heap.size w wr)) (fun i _ => N - (intOf i).toNat)
  case atStart => exact ⟨0, Nat.zero_le _, rfl, HS4⟩
  case round =>
    obtain ⟨k, hk, rfl, hS⟩ := hrel
    by_cases hlt : k < m
    · obtain ⟨k', hk'⟩ : ∃ k', k + 1 = k' := ⟨_, rfl⟩
      have e1 : (k : Int) + 1 = (k' : Int) := by omega
      have e2 : (k' : Int) - 1 = (k : Int) := by omega
      have hv0 := hvb.out k (by omega)
      have hv1 := hvb.out k' (by omega)
      have hvs := hvp.out k hlt
      have ht := htb.out k (by omega)
      have HT : Hid (tim v k' = tim v k + ceil 20000000 (v k + v k')) := by rw [Hid, ← hk']; rfl
      have hcp : 0 ≤ ceil 20000000 (v k + v k') ∧ ceil 20000000 (v k + v k') ≤ 20000000 := by
        rw [hk'] at hvs
        have a := ceil_pos (a := 20000000) (by omega) hvs
        have b := ceil_le (a := 20000000) (by omega) hvs
        omega
      rw [hk'] at hvs
      have HK := Lib.hid hk'
      have a0 := hS.out.2.1.cell (i := k) (by omega)
      have a1 := hS.out.2.1.cell (i := k') (by omega)
      have c0 := hS.out.1.cell (i := k) (by omega)
      have c1 := hS.out.1.cell (i := k') (by omega)
      have c2 := hS.out.1.frozen k'
      have i0 : k < N := by omega
      have i1 : k' < N := by omega
      rw [if_pos (by omega)] at c0
      rw [if_neg (by omega)] at c1
      clear hk'
      rw [e1]
      generalize v k = va at *
      generalize v k' = vb at *
      generalize tim v k = tk at *
      have s0 : IntKind.i64.wrap (va + vb) = va + vb := IntWalk.i64_in _ (by omega)
      have HCE := Lib.hid (fun w => p_ceil 20000000 (va + vb) w (by omega) (by omega) (by omega) (by omega))
      generalize ceil 20000000 (va + vb) = cc at *
      go_upto_region 8 with fail
      go_quiet ((go_at_call 26; exact quiet_same (HCE.out _)))
      rename_i nq
      have d0 : (wr.drewN nq).cell? ⟨h, k, none⟩ = some (.int .i64 tk) := c0
      have d1 : (wr.drewN nq).cell? ⟨h, k', none⟩ = some (.int .i64 0) := c1
      have d2 : (wr.drewN nq).frozen? ⟨h, k', none⟩ = false := c2
      have HQ : Hid (Row (wr.drewN nq) h N (fun j => if j < k + 1 then tim v j else 0) ∧ Row (wr.drewN nq) g N v ∧ Below w.heap.size w (wr.drewN nq)) := ⟨hS.out.1.drewN nq, hS.out.2.1.drewN nq, below_draws hS.out.2.2 nq⟩
      have s1 : IntKind.i64.wrap (tk + cc) = tk + cc := IntWalk.i64_in _ (by omega)
      clear c0 c1 c2 a0 a1 hS
      generalize wr.drewN nq = wq at *
      go_wp2
      go_roundw
      case rel =>
        have hk' := HK.out
        refine ⟨k', by omega, by go_num, (HQ.out.1.set_ k' (tk + cc)).congr fun j hj => ?_, HQ.out.2.1.other (by simp only; omega) _, HQ.out.2.2.setCell (by simp only; omega) _⟩
        by_cases e : j = k'
        · subst e; rw [if_pos rfl, if_pos (by omega), HT.out]
        · rw [if_neg e]
          by_cases e2 : j < k + 1
          · rw [if_pos e2, if_pos (by omega)]
          · rw [if_neg e2, if_neg (by omega)]
      case measure => simp [intOf]; omega
    · obtain rfl : k = m := by omega
      have HF : Hid (Row wr h N (tim v)) := hS.out.1.congr fun j hj => by rw [if_pos (by omega)]
      have HB := Lib.hid hS.out.2.2
      clear hS
      go_wp2
      all_goals go_ret2
      all_goals exact ⟨h, rfl, hz3, HF.out, HB.out⟩

/-- what a call leaves that answers a number and an error -/
def TupInt (n er : Int) (w : World) (e : Ending) (w' : World) : Prop := e = .returned (.tuple #[.int .i64 n, .int .i64 er]) ∧ Below w.heap.size w w'

set_option maxRecDepth 100000 in
set_option maxHeartbeats 2000000 in
theorem p_run_no (A : Option Addr) (n c : Nat) (L : List Cel) (st : Int) (x : ByteArray) (s : Stk) (w : World) (h : AnyArgs w A n c st L s) (he : err L st s ≠ 0) :
    Calls Try.prog 16 #[.slice A n c, .int .i64 st, stk x s] w (TupInt 0 (err L st s) w) := by
  have HC := Lib.hid (fun w' (hb : Below w.heap.size w w') => p_times_no A n c L st x s w' (h.keep hb) he)
  have hb0 : Below w.heap.size w (w.alloc (.cells #[.string x, .int .i64 s.len, .int .i64 s.spd, .int .i64 s.acc, .int .i64 s.brk] 23)) := (Below.refl _ _).alloc (Nat.le_refl _) _
  obtain ⟨hx0, hx1, hx2, hx3, hx4⟩ := (Bx.new w x s).cells
  clear h
  obtain ⟨len, spd, ac, bk⟩ := s
  simp only [stk] at *
  generalize err L st ⟨len, spd, ac, bk⟩ = er at *
  go_enter Try.func16, Try.ntmps16
  go_wp2_with (go_at_call 15; refine (HC.out _ hb0).mono ?_; rintro e w2 ⟨rfl, hb2⟩)
  all_goals go_ret2
  all_goals exact ⟨rfl, hb0.trans (hb2.mono hb0.size)⟩

set_option maxRecDepth 100000 in
set_option maxHeartbeats 2000000 in
theorem p_run (A : Option Addr) (n c st m : Nat) (L : List Cel) (x : ByteArray) (s : Stk) (w : World) (h : RunArgs w A n c st L s) (hm : n = st + m) :
    Calls Try.prog 16 #[.slice A n c, .int .i64 st, stk x s] w (TupInt (ceil (tim (vel L s st m) m) 1000) 0 w) := by
  have hlen := h.rd.1
  have h4 := h.n4
  have hkn := h.kn
  have HC := Lib.hid (fun w' (hb : Below w.heap.size w w') => p_times A n c st m L x s w' (RunArgs.keep h hb) hm)
  have htb : 0 ≤ tim (vel L s st m) m ∧ tim (vel L s st m) m ≤ 20000000 * m := tim_bounds (v := vel L s st m) (fun i hi => vel_pos h.hs h.hc (show st + m ≤ L.length by omega) (by omega) hi) m (Nat.le_refl _)
  have hb0 : Below w.heap.size w (w.alloc (.cells #[.string x, .int .i64 s.len, .int .i64 s.spd, .int .i64 s.acc, .int .i64 s.brk] 23)) := (Below.refl _ _).alloc (Nat.le_refl _) _
  obtain ⟨hx0, hx1, hx2, hx3, hx4⟩ := (Bx.new w x s).cells
  clear h
  obtain ⟨len, spd, ac, bk⟩ := s
  simp only [stk] at *
  obtain ⟨f, hf⟩ : ∃ f, tim (vel L ⟨len, spd, ac, bk⟩ st m) = f := ⟨_, rfl⟩
  rw [hf] at HC htb ⊢
  clear hf
  have hm4 : m ≤ 4000 := by omega
  have HCE := Lib.hid (fun w => p_ceil (f m) 1000 w (by omega) (by omega) (by omega) (by omega))
  obtain ⟨N, hN⟩ : ∃ N, m + 1 = N := ⟨_, rfl⟩
  rw [hN] at HC
  have e1 : (N : Int) - 1 = (m : Int) := by omega
  have hmN : m < N := by omega
  clear hN hm
  go_enter Try.func16, Try.ntmps16
  go_wp2_with (first
    | (go_at_call 15; refine (HC.out _ hb0).mono ?_; rintro e w2 ⟨g, rfl, hg, hR, hb2⟩; have a0 := hR.cell hmN; have HB2 := Lib.hid (hb0.trans (hb2.mono hb0.size)); clear hR hb2)
    | (go_at_call 26; refine (HCE.out _).mono ?_; rintro e w3 ⟨rfl, rfl⟩))
  all_goals go_ret2
  all_goals exact ⟨rfl, HB2.out⟩
end Go.Proofs.Ytglcimahdgnnnaa.PTim
