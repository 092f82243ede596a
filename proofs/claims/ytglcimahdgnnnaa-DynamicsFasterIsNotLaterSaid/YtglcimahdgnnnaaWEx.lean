/-
  Walks of the statements on the example and on the limit.
-/
import Derived.Test.YtglcimahdgnnnaaEq6
import Derived.Test.YtglcimahdgnnnaaLawF
import Derived.Deep.RegionHeld3
namespace Go.Proofs.Ytglcimahdgnnnaa.WEx
open Go.ChangeShapes Go.WideShapes Go.ChangeAt Go.RowKit Dyn Mem Src PSm PChk PLim PPer PSpd PTim Mak Eq6 LawF
set_option linter.unusedVariables false

theorem run_of_own {w : World} {b n c st : Nat} {A : Option Addr} {L : List Cel} {s : Stk} (hO : Mem.Own celR w b (.slice A n c) n L) (hnc : n ≤ c) (hcb : c ≤ 9223372036854775807) (hk : st + 2 ≤ n) (h4 : n ≤ 4000) (hs : okStk s = true) (hc : L.all okCel = true) : RunArgs w A n c st L s :=
  ⟨hO.rd, hnc, hcb, hk, h4, hs, hc⟩

theorem plain_int (z : Int) (n : Nat) (w : World) (h : z = n) (hn : n ≤ 100000) : Calls Try.prog 14 #[.int .i64 z] w (CellsPost (fun m L => m = n ∧ L = flat n) w) := by subst h; exact plain_any n w hn
theorem speeds_int (A : Option Addr) (n c : Nat) (z : Int) (st m : Nat) (L : List Cel) (x : ByteArray) (s : Stk) (w : World) (hz : z = st) (h : RunArgs w A n c st L s) (hm : n = st + m) :
    Calls Try.prog 13 #[.slice A n c, .int .i64 z, stk x s] w (TupRow (m + 1) (vel L s st m) w) := by subst hz; exact p_speeds A n c st m L x s w h hm
theorem times_int (A : Option Addr) (n c : Nat) (z : Int) (st m : Nat) (L : List Cel) (x : ByteArray) (s : Stk) (w : World) (hz : z = st) (h : RunArgs w A n c st L s) (hm : n = st + m) :
    Calls Try.prog 15 #[.slice A n c, .int .i64 z, stk x s] w (TupRow (m + 1) (tim (vel L s st m)) w) := by subst hz; exact p_times A n c st m L x s w h hm
theorem run_int (A : Option Addr) (n c : Nat) (z : Int) (st m : Nat) (L : List Cel) (x : ByteArray) (s : Stk) (w : World) (hz : z = st) (h : RunArgs w A n c st L s) (hm : n = st + m) :
    Calls Try.prog 16 #[.slice A n c, .int .i64 z, stk x s] w (TupInt (ceil (tim (vel L s st m) m) 1000) 0 w) := by subst hz; exact p_run A n c st m L x s w h hm

/-! ### the example -/
def exS : Stk := ⟨1, 30000, 500, 500⟩
theorem exS_ok : okStk exS = true := by decide
theorem ex_vel : ∀ i, i < 3 → vel (flat 2) exS 0 2 i = [0, 3162, 0].getD i 0 := by
  have h := fun b (hb : b ≤ 2) => level (cs := flat 2) (s := exS) (n := 2) (L := 30000) exS_ok rfl (fun i hi => flat_cel 2 i hi) (by decide) rfl hb
  intro i hi
  unfold vel
  rw [h i (by omega)]
  match i, hi with
  | 0, _ => exact root_eq (by decide) (by decide) (by decide)
  | 1, _ => exact root_eq (by decide) (by decide) (by decide)
  | 2, _ => exact root_eq (by decide) (by decide) (by decide)
theorem ex_tim : ∀ i, i < 3 → tim (vel (flat 2) exS 0 2) i = [0, 6326, 12652].getD i 0 := by
  have h0 : vel (flat 2) exS 0 2 0 = 0 := ex_vel 0 (by omega)
  have h1 : vel (flat 2) exS 0 2 1 = 3162 := ex_vel 1 (by omega)
  have h2 : vel (flat 2) exS 0 2 2 = 0 := ex_vel 2 (by omega)
  intro i hi
  match i, hi with
  | 0, _ => rfl
  | 1, _ => simp only [tim, h0, h1]; decide
  | 2, _ => simp only [tim, h0, h1, h2]; decide
theorem ex_run : ceil (tim (vel (flat 2) exS 0 2) 2) 1000 = 13 := by
  have h : tim (vel (flat 2) exS 0 2) 2 = 12652 := ex_tim 2 (by omega)
  rw [h]; decide
theorem fn_three {w : World} {a b c : Int} {g : Nat} (h : w.heap[g]? = some (.cells #[.int .i64 a, .int .i64 b, .int .i64 c] 3 (0, 0))) : Eq6.Fn w (some ⟨g, 0, none⟩) 3 (fun i => [a, b, c].getD i 0) := fun i hi => by
  refine ⟨_, rfl, lt_of_block h, ?_⟩
  have e : ∀ k, (⟨g, 0, none⟩ : Addr).add k = ⟨g, k, none⟩ := fun k => by
    unfold Addr.add
    by_cases h0 : k = 0
    · subst h0; rfl
    · simp [h0]
  rw [e]
  match i, hi with
  | 0, _ => simp [World.cell?, h]
  | 1, _ => simp [World.cell?, h]
  | 2, _ => simp [World.cell?, h]

theorem same_lit (w : World) (g : Nat) (f : Nat → Int) (a b c : Int) (hF : Eq6.Fn w (some ⟨g, 0, none⟩) 3 f) (he : ∀ i, i < 3 → f i = [a, b, c].getD i 0) :
    Calls Try.prog 17 #[.slice (some ⟨g, 0, none⟩) 3 3, .slice (some ⟨w.heap.size, 0, none⟩) 3 3] (w.alloc (.cells #[.int .i64 a, .int .i64 b, .int .i64 c] 3)) fun e w' => e = .returned (.bool true) ∧ Below w.heap.size w w' := by
  have hb : Below w.heap.size w (w.alloc (.cells #[.int .i64 a, .int .i64 b, .int .i64 c] 3)) := (Below.refl _ _).alloc (Nat.le_refl _) _
  refine (same_fn (some ⟨g, 0, none⟩) 3 3 (some ⟨w.heap.size, 0, none⟩) 3 (fun i => [a, b, c].getD i 0) _ ((hF.congr he).below hb) (fn_three (heap_alloc_new _ _)) (by omega)).mono ?_
  rintro e w' ⟨rfl, hb2⟩
  exact ⟨rfl, hb.trans (hb2.mono hb.size)⟩

set_option maxRecDepth 100000 in
set_option maxHeartbeats 8000000 in
theorem examples (w : World) : Calls Try.prog 3 #[] w (Yes w) := by
  have hbx := Bx.new w ⟨#[]⟩ exS
  have hb0 : Below w.heap.size w (w.alloc (.cells #[.string ⟨#[]⟩, .int .i64 exS.len, .int .i64 exS.spd, .int .i64 exS.acc, .int .i64 exS.brk] 23)) := (Below.refl _ _).alloc (Nat.le_refl _) _
  simp only [exS] at hbx hb0
  go_enter Try.func3, Try.ntmps3
  go_upto_region 2 with fail
  generalize w.alloc (.cells #[.string ⟨#[]⟩, .int .i64 1, .int .i64 30000, .int .i64 500, .int .i64 500] 23) = W at *
  have hwl := hbx.lt
  obtain ⟨x0, x1, x2, x3, x4⟩ := hbx.cells
  simp only at x1 x2 x3 x4
  have hKK : ∀ w' : World, Below W.heap.size W w' → (w'.cell? ⟨w.heap.size, 0, none⟩ = some (.string ⟨#[]⟩) ∧ w'.cell? ⟨w.heap.size, 1, none⟩ = some (.int .i64 1) ∧ w'.cell? ⟨w.heap.size, 2, none⟩ = some (.int .i64 30000) ∧ w'.cell? ⟨w.heap.size, 3, none⟩ = some (.int .i64 500) ∧ w'.cell? ⟨w.heap.size, 4, none⟩ = some (.int .i64 500)) := fun w' hb =>
    ⟨(hb.cell (p := ⟨w.heap.size, 0, none⟩) hwl).trans x0, (hb.cell (p := ⟨w.heap.size, 1, none⟩) hwl).trans x1, (hb.cell (p := ⟨w.heap.size, 2, none⟩) hwl).trans x2, (hb.cell (p := ⟨w.heap.size, 3, none⟩) hwl).trans x3, (hb.cell (p := ⟨w.heap.size, 4, none⟩) hwl).trans x4⟩
  have HK := Lib.hid hKK
  have HB := Lib.hid hb0
  clear hKK x0 x1 x2 x3 x4 hbx hb0
  have Hspeeds_int : Hid (∀ (A : Option Addr) (c b : Nat) (w' : World), Mem.Own celR w' b (.slice A 2 c) 2 (flat 2) → 2 ≤ c → c ≤ 9223372036854775807 → Calls Try.prog 13 #[.slice A 2 c, .int .i64 0, .agg #[.string ⟨#[]⟩, .int .i64 1, .int .i64 30000, .int .i64 500, .int .i64 500]] w' (TupRow 3 (vel (flat 2) exS 0 2) w')) :=
    fun A c b w' hO hnc hcb => speeds_int A 2 c 0 0 2 (flat 2) ⟨#[]⟩ exS w' rfl (run_of_own hO hnc hcb (by omega) (by omega) exS_ok (flat_ok 2)) rfl
  have Htimes_int : Hid (∀ (A : Option Addr) (c b : Nat) (w' : World), Mem.Own celR w' b (.slice A 2 c) 2 (flat 2) → 2 ≤ c → c ≤ 9223372036854775807 → Calls Try.prog 15 #[.slice A 2 c, .int .i64 0, .agg #[.string ⟨#[]⟩, .int .i64 1, .int .i64 30000, .int .i64 500, .int .i64 500]] w' (TupRow 3 (tim (vel (flat 2) exS 0 2)) w')) :=
    fun A c b w' hO hnc hcb => times_int A 2 c 0 0 2 (flat 2) ⟨#[]⟩ exS w' rfl (run_of_own hO hnc hcb (by omega) (by omega) exS_ok (flat_ok 2)) rfl
  have Hrun_int : Hid (∀ (A : Option Addr) (c b : Nat) (w' : World), Mem.Own celR w' b (.slice A 2 c) 2 (flat 2) → 2 ≤ c → c ≤ 9223372036854775807 → Calls Try.prog 16 #[.slice A 2 c, .int .i64 0, .agg #[.string ⟨#[]⟩, .int .i64 1, .int .i64 30000, .int .i64 500, .int .i64 500]] w' (TupInt (ceil (tim (vel (flat 2) exS 0 2) 2) 1000) 0 w')) :=
    fun A c b w' hO hnc hcb => run_int A 2 c 0 0 2 (flat 2) ⟨#[]⟩ exS w' rfl (run_of_own hO hnc hcb (by omega) (by omega) exS_ok (flat_ok 2)) rfl
  have HPL := Lib.hid (fun w => plain_int 2 2 w rfl (by omega))
  have hbw := Below.refl W.heap.size W
  go_region_held3 (fun w' => (w'.cell? ⟨w.heap.size, 0, none⟩ = some (.string ⟨#[]⟩) ∧ w'.cell? ⟨w.heap.size, 1, none⟩ = some (.int .i64 1) ∧ w'.cell? ⟨w.heap.size, 2, none⟩ = some (.int .i64 30000) ∧ w'.cell? ⟨w.heap.size, 3, none⟩ = some (.int .i64 500) ∧ w'.cell? ⟨w.heap.size, 4, none⟩ = some (.int .i64 500)))
    (first | exact HK.out _ hbw.drew | exact HK.out _ (hbw.drew.trans hp2) | exact HK.out _ ((hbw.drew.trans hp2).trans hq2))
    ((first
      | (go_at_call 14; (with_reducible refine (HPL.out _).mono ?_); rintro e wp2 ⟨A2, n2, c2, L2, rfl, hO2, ⟨rfl, rfl⟩, hnc2, hcb2, hwp2⟩; have hp2 := Below.mono hwp2 hbw.drew.size)
      | (go_at_call 13; (with_reducible refine (Hspeeds_int.out _ _ _ _ hO2 hnc2 hcb2).mono ?_); rintro e wq2 ⟨g2, rfl, hg2, hR2, hwq2⟩; have hq2 := Below.mono hwq2 (hbw.drew.trans hp2).size)))
  have HQ2 := Lib.hid ((hbw.drew.trans hp2).trans hq2)
  have HF2 := Lib.hid (Fn.row hR2)
  go_upto_region 3 with fail
  have hb2 := HQ2.out
  go_region_held3 (fun w' => (w'.cell? ⟨w.heap.size, 0, none⟩ = some (.string ⟨#[]⟩) ∧ w'.cell? ⟨w.heap.size, 1, none⟩ = some (.int .i64 1) ∧ w'.cell? ⟨w.heap.size, 2, none⟩ = some (.int .i64 30000) ∧ w'.cell? ⟨w.heap.size, 3, none⟩ = some (.int .i64 500) ∧ w'.cell? ⟨w.heap.size, 4, none⟩ = some (.int .i64 500)))
    (first | exact HK.out _ hb2.drew | exact HK.out _ (hb2.drew.trans hp3) | exact HK.out _ ((hb2.drew.trans hp3).trans hq3))
    ((first
      | (go_at_call 14; (with_reducible refine (HPL.out _).mono ?_); rintro e wp3 ⟨A3, n3, c3, L3, rfl, hO3, ⟨rfl, rfl⟩, hnc3, hcb3, hwp3⟩; have hp3 := Below.mono hwp3 hb2.drew.size)
      | (go_at_call 15; (with_reducible refine (Htimes_int.out _ _ _ _ hO3 hnc3 hcb3).mono ?_); rintro e wq3 ⟨g3, rfl, hg3, hR3, hwq3⟩; have hq3 := Below.mono hwq3 (hb2.drew.trans hp3).size)))
  have HQ3 := Lib.hid ((hb2.drew.trans hp3).trans hq3)
  have HF3 := Lib.hid (Fn.row hR3)
  have HB23 : Hid (Below wq2.heap.size wq2 wq3) := ((Below.refl wq2.heap.size wq2).drew.trans hwp3).trans (hwq3.mono hwp3.size)
  go_upto_region 4 with fail
  have hb3 := HQ3.out
  go_region_held3 (fun w' => (w'.cell? ⟨w.heap.size, 0, none⟩ = some (.string ⟨#[]⟩) ∧ w'.cell? ⟨w.heap.size, 1, none⟩ = some (.int .i64 1) ∧ w'.cell? ⟨w.heap.size, 2, none⟩ = some (.int .i64 30000) ∧ w'.cell? ⟨w.heap.size, 3, none⟩ = some (.int .i64 500) ∧ w'.cell? ⟨w.heap.size, 4, none⟩ = some (.int .i64 500)))
    (first | exact HK.out _ hb3.drew | exact HK.out _ (hb3.drew.trans hp4) | exact HK.out _ ((hb3.drew.trans hp4).trans hq4))
    ((first
      | (go_at_call 14; (with_reducible refine (HPL.out _).mono ?_); rintro e wp4 ⟨A4, n4, c4, L4, rfl, hO4, ⟨rfl, rfl⟩, hnc4, hcb4, hwp4⟩; have hp4 := Below.mono hwp4 hb3.drew.size)
      | (go_at_call 16; (with_reducible refine (Hrun_int.out _ _ _ _ hO4 hnc4 hcb4).mono ?_); rintro e wq4 ⟨rfl, hwq4⟩; have hq4 := Below.mono hwq4 (hb3.drew.trans hp4).size)))
  have HQ4 := Lib.hid ((hb3.drew.trans hp4).trans hq4)
  have HB34 : Hid (Below wq3.heap.size wq3 wq4) := ((Below.refl wq3.heap.size wq3).drew.trans hwp4).trans (hwq4.mono hwp4.size)
  have HS2 := Lib.hid (same_lit wq4 g2 _ 0 3162 0 ((HF2.out.below HB23.out).below HB34.out) ex_vel)
  have HS3 := Lib.hid (fun w' (hb : Below wq4.heap.size wq4 w') => same_lit w' g3 _ 0 6326 12652 ((HF3.out.below HB34.out).below hb) ex_tim)
  have HCK := Lib.hid (fun w' => p_check ⟨#[]⟩ exS w')
  rw [exS_ok] at HCK
  simp only [stk, exS] at HCK
  have hrun : ceil (tim (vel (flat 2) exS 0 2) 2) 1000 = 13 := ex_run
  rw [hrun]
  have HBW := Lib.hid (HB.out.trans (HQ4.out.mono HB.out.size))
  clear hrun hR2 hR3 hO2 hO3 hO4 HF2 HF3 HB23 HB34 hwp2 hwq2 hwp3 hwq3 hwp4 hwq4 hp2 hq2 hp3 hq3 hp4 hq4 hb2 hb3 hbw Hspeeds_int Htimes_int Hrun_int HPL
  go_upto_region 5 with fail
  go_wp2_with (first
    | (go_at_call 17; (with_reducible refine (HS2.out).mono ?_); rintro e wr ⟨rfl, hwr⟩; have HR1 := Lib.hid hwr; clear hwr)
    | (go_at_call 17; (with_reducible refine (HS3.out _ HR1.out).mono ?_); rintro e ws ⟨rfl, hws⟩; have HR2 := Lib.hid (HR1.out.trans (hws.mono HR1.out.size)); clear hws; obtain ⟨y0, y1, y2, y3, y4⟩ := HK.out _ (HQ4.out.trans (HR2.out.mono HQ4.out.size)))
    | (go_at_call 18; refine (HCK.out _).mono ?_; rintro e wt ⟨rfl, hwt⟩))
  all_goals go_ret
  all_goals exact ⟨rfl, HBW.out.trans ((HR2.out.trans (hwt.mono HR2.out.size)).mono HBW.out.size)⟩


/-! ### the limit -/
def lmS : Stk := ⟨3, 20000, 400, 400⟩
theorem lmS_ok : okStk lmS = true := by decide
theorem any_of_own {w : World} {b n c : Nat} {st : Int} {A : Option Addr} {L : List Cel} {s : Stk} (hO : Mem.Own celR w b (.slice A n c) n L) (hnc : n ≤ c) (hcb : c ≤ 9223372036854775807) (h : -9223372036854775808 ≤ st ∧ st ≤ 9223372036854775807) : AnyArgs w A n c st L s := ⟨hO.rd, hnc, hcb, h⟩
theorem lm_pos (n st m : Nat) (hn : n = st + m) (h2 : 2 ≤ m) (h4 : n ≤ 4000) : 0 < ceil (tim (vel (flat n) lmS st m) m) 1000 := by
  have hl : st + m ≤ (flat n).length := by rw [flat_len]; omega
  have h := tim_bounds (v := vel (flat n) lmS st m) (fun i hi => vel_pos lmS_ok (flat_ok n) hl h2 hi) (m - 1) (by omega)
  have h1 := tim_step (v := vel (flat n) lmS st m) (b := m - 1) (vel_pos lmS_ok (flat_ok n) hl h2 (by omega))
  rw [show m - 1 + 1 = m by omega] at h1
  exact ceil_pos (by omega) (by omega)

set_option maxRecDepth 100000 in
set_option maxHeartbeats 8000000 in
theorem limits (a0 : Int) (w0 : (Lit.int .i64 a0).wf = true) (a1 : Int) (w1 : (Lit.int .i64 a1).wf = true) (w : World) : Calls Try.prog 6 #[.int .i64 a0, .int .i64 a1] w (Yes w) := by
  have b0 := bounds_i64 w0
  have b1 := bounds_i64 w1
  have p0 := pick_range a0 3 (by omega)
  obtain ⟨n, hn⟩ : ∃ n : Nat, 4000 + pick a0 3 - 1 = (n : Int) := ⟨(4000 + pick a0 3 - 1).toNat, by omega⟩
  have p1 := pick_range a1 ((n : Int) - 1) (by omega)
  obtain ⟨st, hst⟩ : ∃ st : Nat, pick a1 ((n : Int) - 1) = (st : Int) := ⟨(pick a1 ((n : Int) - 1)).toNat, by omega⟩
  obtain ⟨m, hm⟩ : ∃ m, n = st + m := ⟨n - st, by omega⟩
  have hnb : 3999 ≤ n ∧ n ≤ 4001 := by omega
  have hsn : st + 2 ≤ n := by omega
  have hm2 : 2 ≤ m := by omega
  have HPK0 := Lib.hid (fun w => pick_any a0 3 w (by omega) (by omega) (by omega) (by omega))
  have HPK1 := Lib.hid (fun w => pick_any a1 ((n : Int) - 1) w (by omega) (by omega) (by omega) (by omega))
  rw [hst] at HPK1
  have HM := Lib.hid hm
  obtain ⟨r, hr⟩ : ∃ r, pick a0 3 = r := ⟨_, rfl⟩
  rw [hr] at HPK0 hn p0
  have HPL := Lib.hid (fun w => plain_any n w (by omega))
  have hbx := Bx.new w ⟨#[]⟩ lmS
  have hb0 : Below w.heap.size w (w.alloc (.cells #[.string ⟨#[]⟩, .int .i64 lmS.len, .int .i64 lmS.spd, .int .i64 lmS.acc, .int .i64 lmS.brk] 23)) := (Below.refl _ _).alloc (Nat.le_refl _) _
  have HRU : Hid (∀ (A : Option Addr) (c b : Nat) (w' : World), Mem.Own celR w' b (.slice A n c) n (flat n) → n ≤ c → c ≤ 9223372036854775807 → Calls Try.prog 16 #[.slice A n c, .int .i64 st, .agg #[.string ⟨#[]⟩, .int .i64 3, .int .i64 20000, .int .i64 400, .int .i64 400]] w' fun e w'' => ∃ t er : Int, e = .returned (.tuple #[.int .i64 t, .int .i64 er]) ∧ Hid ((n ≤ 4000 ∧ er = 0 ∧ 0 < t) ∨ (¬ n ≤ 4000 ∧ er = 7 ∧ t = 0)) ∧ Below w'.heap.size w' w'') := fun A c b w' hO hnc hcb => by
    by_cases h4 : n ≤ 4000
    · refine (p_run A n c st m (flat n) ⟨#[]⟩ lmS w' (run_of_own hO hnc hcb hsn h4 lmS_ok (flat_ok n)) hm).mono ?_
      rintro e w'' ⟨rfl, hb⟩
      exact ⟨_, _, rfl, .inl ⟨h4, rfl, lm_pos n st m hm hm2 h4⟩, hb⟩
    · have he : err (flat n) st lmS = 7 := by rw [err_is, lmS_ok, if_pos rfl, flat_len, if_pos (by omega)]
      refine (p_run_no A n c (flat n) st ⟨#[]⟩ lmS w' (any_of_own hO hnc hcb (by omega)) (by rw [he]; decide)).mono ?_
      rintro e w'' ⟨rfl, hb⟩
      exact ⟨_, _, rfl, .inr ⟨h4, he, rfl⟩, hb⟩
  simp only [lmS] at hbx hb0
  have e1 : 4000 + r - 1 = (n : Int) := hn
  have s0 : IntKind.i64.wrap (4000 + r - 1) = (n : Int) := by rw [e1]; exact IntWalk.i64_in _ (by omega)
  clear hst hr hm hn
  go_enter Try.func6, Try.ntmps6
  go_upto_region 4 with (first
    | (go_at_call 22; (with_reducible refine (HPK0.out _).mono ?_); rintro e w' ⟨rfl, rfl⟩)
    | (go_at_call 22; (with_reducible refine (HPK1.out _).mono ?_); rintro e w' ⟨rfl, rfl⟩))
  generalize w.alloc (.cells #[.string ⟨#[]⟩, .int .i64 3, .int .i64 20000, .int .i64 400, .int .i64 400] 23) = W at *
  have hwl := hbx.lt
  obtain ⟨x0, x1, x2, x3, x4⟩ := hbx.cells
  simp only at x1 x2 x3 x4
  have hKK : ∀ w' : World, Below W.heap.size W w' → (w'.cell? ⟨w.heap.size, 0, none⟩ = some (.string ⟨#[]⟩) ∧ w'.cell? ⟨w.heap.size, 1, none⟩ = some (.int .i64 3) ∧ w'.cell? ⟨w.heap.size, 2, none⟩ = some (.int .i64 20000) ∧ w'.cell? ⟨w.heap.size, 3, none⟩ = some (.int .i64 400) ∧ w'.cell? ⟨w.heap.size, 4, none⟩ = some (.int .i64 400)) := fun w' hb =>
    ⟨(hb.cell (p := ⟨w.heap.size, 0, none⟩) hwl).trans x0, (hb.cell (p := ⟨w.heap.size, 1, none⟩) hwl).trans x1, (hb.cell (p := ⟨w.heap.size, 2, none⟩) hwl).trans x2, (hb.cell (p := ⟨w.heap.size, 3, none⟩) hwl).trans x3, (hb.cell (p := ⟨w.heap.size, 4, none⟩) hwl).trans x4⟩
  have HK := Lib.hid hKK
  have HB := Lib.hid hb0
  clear hKK x0 x1 x2 x3 x4 hbx hb0
  have hbw := Below.refl W.heap.size W
  go_region_held3 (fun w' => (w'.cell? ⟨w.heap.size, 0, none⟩ = some (.string ⟨#[]⟩) ∧ w'.cell? ⟨w.heap.size, 1, none⟩ = some (.int .i64 3) ∧ w'.cell? ⟨w.heap.size, 2, none⟩ = some (.int .i64 20000) ∧ w'.cell? ⟨w.heap.size, 3, none⟩ = some (.int .i64 400) ∧ w'.cell? ⟨w.heap.size, 4, none⟩ = some (.int .i64 400)))
    (first | exact HK.out _ hbw.drew | exact HK.out _ (hbw.drew.trans hp) | exact HK.out _ ((hbw.drew.trans hp).trans hq))
    ((first
      | (go_at_call 14; (with_reducible refine (HPL.out _).mono ?_); rintro e wp ⟨A, n2, c, L, rfl, hO, ⟨hn2, hL2⟩, hnc, hcb, hwp⟩; subst hn2 hL2; have hp := Below.mono hwp hbw.drew.size)
      | (go_at_call 16; (with_reducible refine (HRU.out _ _ _ _ hO hnc hcb).mono ?_); rintro e wq ⟨t, er, rfl, hter, hwq⟩; have hq := Below.mono hwq (hbw.drew.trans hp).size)))
  have HQ := Lib.hid (HB.out.trans (((hbw.drew.trans hp).trans hq).mono HB.out.size))
  clear hO hwp hwq hp hq hbw HK HRU HPL
  rcases hter.out with ⟨h4, rfl, ht⟩ | ⟨h4, rfl, rfl⟩
  · have hle : (n2 : Int) ≤ 4000 := by omega
    have hng : ¬ (4000 : Int) < (n2 : Int) := by omega
    clear hter
    go_wp2
    all_goals go_ret
    all_goals exact ⟨by first | rfl | simp, HQ.out⟩
  · have hle : ¬ (n2 : Int) ≤ 4000 := by omega
    have hng : (4000 : Int) < (n2 : Int) := by omega
    clear hter
    go_wp2
    all_goals go_ret
    all_goals exact ⟨by first | rfl | simp, HQ.out⟩
end Go.Proofs.Ytglcimahdgnnnaa.WEx
