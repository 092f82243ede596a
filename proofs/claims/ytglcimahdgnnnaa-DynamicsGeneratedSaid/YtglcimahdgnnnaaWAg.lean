/-
  Walks of the statements that compare all answers with the document's.
-/
import Derived.Test.YtglcimahdgnnnaaEq6
import Derived.Test.YtglcimahdgnnnaaLawF
import Derived.Test.YtglcimahdgnnnaaRTim
import Derived.Test.YtglcimahdgnnnaaWEx
namespace Go.Proofs.Ytglcimahdgnnnaa.WAg
open Go.ChangeShapes Go.WideShapes Go.ChangeAt Go.RowKit Dyn Mem Src PSm PChk PLim PPer PSpd PTim RSm RLim RSpd RTim Mak Eq6 LawF WEx
set_option linter.unusedVariables false

/-- what a call for a list of numbers leaves, whatever its arguments: the list, or none, and the error -/
def Answer (m : Nat) (f : Nat → Int) (er : Int) (w : World) (e : Ending) (w' : World) : Prop :=
  ∃ A, e = .returned (.tuple #[.slice A m m, .int .i64 er]) ∧ Eq6.Fn w' A m f ∧ Below w.heap.size w w'
theorem answer_row {n : Nat} {f : Nat → Int} {w : World} {e : Ending} {w' : World} (h : TupRow n f w e w') : Answer n f 0 w e w' := by
  obtain ⟨g, rfl, hg, hR, hb⟩ := h
  exact ⟨_, rfl, Fn.row hR, hb⟩
theorem answer_err {f : Nat → Int} {er : Int} {w : World} {e : Ending} {w' : World} (h : TupErr er w e w') : Answer 0 f er w e w' := by
  obtain ⟨rfl, hb⟩ := h
  exact ⟨_, rfl, Fn.nil, hb⟩

section
variable {A : Option Addr} {n c : Nat} {L : List Cel} {st : Int} {x : ByteArray} {s : Stk} {w : World}
/-- how many numbers are answered -/
def cnt (L : List Cel) (s : Stk) (n : Nat) (st : Int) : Nat := if err L st s = 0 then n - st.toNat + 1 else 0
theorem cnt_le (h : AnyArgs w A n c st L s) : cnt L s n st ≤ 5000 := by
  unfold cnt
  by_cases he : err L st s = 0
  · obtain ⟨k, m, rfl, hm, h2, hr⟩ := h.run he
    have := hr.n4
    rw [if_pos he]; omega
  · rw [if_neg he]; omega
theorem a_speeds (h : AnyArgs w A n c st L s) : Calls Try.prog 13 #[.slice A n c, .int .i64 st, stk x s] w (Answer (cnt L s n st) (vel L s st.toNat (n - st.toNat)) (err L st s) w) := by
  by_cases he : err L st s = 0
  · obtain ⟨k, m, rfl, hm, h2, hr⟩ := h.run he
    rw [cnt, if_pos he, he, show ((k : Int)).toNat = k from rfl, show n - k = m by omega]
    exact (p_speeds A n c k m L x s w hr hm).mono fun _ _ h => answer_row h
  · rw [cnt, if_neg he]
    exact (p_speeds_no A n c L st x s w h he).mono fun _ _ h => answer_err h
theorem b_speeds (h : AnyArgs w A n c st L s) : Calls Try.prog 28 #[.slice A n c, .int .i64 st, stk x s] w (Answer (cnt L s n st) (vel L s st.toNat (n - st.toNat)) (err L st s) w) := by
  by_cases he : err L st s = 0
  · obtain ⟨k, m, rfl, hm, h2, hr⟩ := h.run he
    rw [cnt, if_pos he, he, show ((k : Int)).toNat = k from rfl, show n - k = m by omega]
    exact (r_speeds A n c k m L x s w hr hm).mono fun _ _ h => answer_row h
  · rw [cnt, if_neg he]
    exact (r_speeds_no A n c L st x s w h he).mono fun _ _ h => answer_err h
theorem a_times (h : AnyArgs w A n c st L s) : Calls Try.prog 15 #[.slice A n c, .int .i64 st, stk x s] w (Answer (cnt L s n st) (tim (vel L s st.toNat (n - st.toNat))) (err L st s) w) := by
  by_cases he : err L st s = 0
  · obtain ⟨k, m, rfl, hm, h2, hr⟩ := h.run he
    rw [cnt, if_pos he, he, show ((k : Int)).toNat = k from rfl, show n - k = m by omega]
    exact (p_times A n c k m L x s w hr hm).mono fun _ _ h => answer_row h
  · rw [cnt, if_neg he]
    exact (p_times_no A n c L st x s w h he).mono fun _ _ h => answer_err h
theorem b_times (h : AnyArgs w A n c st L s) : Calls Try.prog 29 #[.slice A n c, .int .i64 st, stk x s] w (Answer (cnt L s n st) (tim (vel L s st.toNat (n - st.toNat))) (err L st s) w) := by
  by_cases he : err L st s = 0
  · obtain ⟨k, m, rfl, hm, h2, hr⟩ := h.run he
    rw [cnt, if_pos he, he, show ((k : Int)).toNat = k from rfl, show n - k = m by omega]
    exact (r_times A n c k m L x s w hr hm).mono fun _ _ h => answer_row h
  · rw [cnt, if_neg he]
    exact (r_times_no A n c L st x s w h he).mono fun _ _ h => answer_err h
noncomputable def dur (L : List Cel) (s : Stk) (n : Nat) (st : Int) : Int := if err L st s = 0 then ceil (tim (vel L s st.toNat (n - st.toNat)) (n - st.toNat)) 1000 else 0
theorem a_run (h : AnyArgs w A n c st L s) : Calls Try.prog 16 #[.slice A n c, .int .i64 st, stk x s] w (TupInt (dur L s n st) (err L st s) w) := by
  unfold dur
  by_cases he : err L st s = 0
  · obtain ⟨k, m, rfl, hm, h2, hr⟩ := h.run he
    rw [if_pos he, he, show ((k : Int)).toNat = k from rfl, show n - k = m by omega]
    exact p_run A n c k m L x s w hr hm
  · rw [if_neg he]
    exact p_run_no A n c L st x s w h he
theorem b_run (h : AnyArgs w A n c st L s) : Calls Try.prog 30 #[.slice A n c, .int .i64 st, stk x s] w (TupInt (dur L s n st) (err L st s) w) := by
  unfold dur
  by_cases he : err L st s = 0
  · obtain ⟨k, m, rfl, hm, h2, hr⟩ := h.run he
    rw [if_pos he, he, show ((k : Int)).toNat = k from rfl, show n - k = m by omega]
    exact r_run A n c k m L x s w hr hm
  · rw [if_neg he]
    exact r_run_no A n c L st x s w h he
end

set_option maxRecDepth 100000 in
set_option maxHeartbeats 8000000 in
theorem agrees (A : Option Addr) (n c : Nat) (L : List Cel) (st : Int) (x : ByteArray) (s : Stk) (w : World) (h : AnyArgs w A n c st L s) :
    Calls Try.prog 19 #[.slice A n c, .int .i64 st, stk x s] w (BoolPost true w) := by
  have hnn : n ≤ 9223372036854775807 := by have := h.nc; have := h.cb; omega
  have hcn := cnt_le h
  have HA1 := Lib.hid (fun w' (hb : Below w.heap.size w w') => a_speeds (x := x) (h.keep hb))
  have HB1 := Lib.hid (fun w' (hb : Below w.heap.size w w') => b_speeds (x := x) (h.keep hb))
  have HA2 := Lib.hid (fun w' (hb : Below w.heap.size w w') => a_times (x := x) (h.keep hb))
  have HB2 := Lib.hid (fun w' (hb : Below w.heap.size w w') => b_times (x := x) (h.keep hb))
  have HA3 := Lib.hid (fun w' (hb : Below w.heap.size w w') => a_run (x := x) (h.keep hb))
  have HB3 := Lib.hid (fun w' (hb : Below w.heap.size w w') => b_run (x := x) (h.keep hb))
  have HC1 := Lib.hid (fun w' => p_check x s w')
  have HC2 := Lib.hid (fun w' => r_check x s w')
  have hbx := Bx.new w x s
  have hb0 : Below w.heap.size w (w.alloc (.cells #[.string x, .int .i64 s.len, .int .i64 s.spd, .int .i64 s.acc, .int .i64 s.brk] 23)) := (Below.refl _ _).alloc (Nat.le_refl _) _
  clear h
  obtain ⟨len, spd, ac, bk⟩ := s
  simp only [stk] at *
  obtain ⟨er, her⟩ : ∃ er, err L st ⟨len, spd, ac, bk⟩ = er := ⟨_, rfl⟩
  rw [her] at HA1 HB1 HA2 HB2 HA3 HB3
  generalize vel L ⟨len, spd, ac, bk⟩ st.toNat (n - st.toNat) = f at *
  generalize dur L ⟨len, spd, ac, bk⟩ n st = du at *
  generalize okStk ⟨len, spd, ac, bk⟩ = ok at *
  generalize cnt L ⟨len, spd, ac, bk⟩ n st = N at *
  clear her
  obtain ⟨W0, hW0⟩ : ∃ W0, w.alloc (.cells #[.string x, .int .i64 len, .int .i64 spd, .int .i64 ac, .int .i64 bk] 23) = W0 := ⟨_, rfl⟩
  rw [hW0] at hbx hb0
  have hxl := hbx.lt
  have HX := Lib.hid (fun w' (hb : Below W0.heap.size W0 w') => (hbx.below hb hxl).cells)
  obtain ⟨x0, x1, x2, x3, x4⟩ := hbx.cells
  have HB0 := Lib.hid hb0
  have HI := Lib.hid (Below.refl W0.heap.size W0)
  clear hbx hb0
  simp only at HX x1 x2 x3 x4
  go_enter Try.func19, Try.ntmps19
  go_upto_region 7 with (first
    | (go_at_call 13; refine (HA1.out _ (HB0.out.trans (HI.out.mono HB0.out.size))).mono ?_; rintro e wa ⟨Aa, rfl, hfa, hba⟩; have HIa := Lib.hid (HI.out.trans (hba.mono HI.out.size)); have HFa := Lib.hid hfa; have Hba := Lib.hid hba; clear hfa hba; obtain ⟨ya0, ya1, ya2, ya3, ya4⟩ := HX.out _ HIa.out)
    | (go_at_call 28; refine (HB1.out _ (HB0.out.trans (HIa.out.mono HB0.out.size))).mono ?_; rintro e wb ⟨Ab, rfl, hfb, hbb⟩; have HIb := Lib.hid (HIa.out.trans (hbb.mono HIa.out.size)); have HFb := Lib.hid hfb; have Hbb := Lib.hid hbb; clear hfb hbb; obtain ⟨yb0, yb1, yb2, yb3, yb4⟩ := HX.out _ HIb.out)
    | (go_at_call 15; refine (HA2.out _ (HB0.out.trans (HIb.out.mono HB0.out.size))).mono ?_; rintro e wc ⟨Ac, rfl, hfc, hbc⟩; have HIc := Lib.hid (HIb.out.trans (hbc.mono HIb.out.size)); have HFc := Lib.hid hfc; have Hbc := Lib.hid hbc; clear hfc hbc; obtain ⟨yc0, yc1, yc2, yc3, yc4⟩ := HX.out _ HIc.out)
    | (go_at_call 29; refine (HB2.out _ (HB0.out.trans (HIc.out.mono HB0.out.size))).mono ?_; rintro e wd ⟨Ad, rfl, hfd, hbd⟩; have HId := Lib.hid (HIc.out.trans (hbd.mono HIc.out.size)); have HFd := Lib.hid hfd; have Hbd := Lib.hid hbd; clear hfd hbd; obtain ⟨yd0, yd1, yd2, yd3, yd4⟩ := HX.out _ HId.out)
    | (go_at_call 16; refine (HA3.out _ (HB0.out.trans (HId.out.mono HB0.out.size))).mono ?_; rintro e we ⟨rfl, hbe⟩; have HIe := Lib.hid (HId.out.trans (hbe.mono HId.out.size)); have Hbe := Lib.hid hbe; clear hbe; obtain ⟨ye0, ye1, ye2, ye3, ye4⟩ := HX.out _ HIe.out)
    | (go_at_call 30; refine (HB3.out _ (HB0.out.trans (HIe.out.mono HB0.out.size))).mono ?_; rintro e wf ⟨rfl, hbf⟩; have HIf := Lib.hid (HIe.out.trans (hbf.mono HIe.out.size)); have Hbf := Lib.hid hbf; clear hbf; obtain ⟨yf0, yf1, yf2, yf3, yf4⟩ := HX.out _ HIf.out))
  have HS1 := Lib.hid (fun w' (hb : Below wf.heap.size wf w') => same_fn Aa N N Ab N f w' ((((((HFa.out.below Hbb.out).below Hbc.out).below Hbd.out).below Hbe.out).below Hbf.out).below hb) (((((HFb.out.below Hbc.out).below Hbd.out).below Hbe.out).below Hbf.out).below hb) (by omega))
  have HS2 := Lib.hid (fun w' (hb : Below wf.heap.size wf w') => same_fn Ac N N Ad N (tim f) w' ((((HFc.out.below Hbd.out).below Hbe.out).below Hbf.out).below hb) (((HFd.out.below Hbe.out).below Hbf.out).below hb) (by omega))
  have HXF := Lib.hid (fun w' (hb : Below wf.heap.size wf w') => HX.out w' (HIf.out.trans (hb.mono HIf.out.size)))
  have HBW := Lib.hid (HB0.out.trans (HIf.out.mono HB0.out.size))
  clear HA1 HB1 HA2 HB2 HA3 HB3 HX x0 x1 x2 x3 x4 ya0 ya1 ya2 ya3 ya4 yb0 yb1 yb2 yb3 yb4 yc0 yc1 yc2 yc3 yc4 yd0 yd1 yd2 yd3 yd4 ye0 ye1 ye2 ye3 ye4 yf0 yf1 yf2 yf3 yf4 HFa HFb HFc HFd Hba Hbb Hbc Hbd Hbe Hbf HI HIa HIb HIc HId HIe HIf HB0 hW0
  have h0 := Below.refl wf.heap.size wf
  go_region_held3 (fun w' => (w'.cell? ⟨w.heap.size, 0, none⟩ = some (.string x) ∧ w'.cell? ⟨w.heap.size, 1, none⟩ = some (.int .i64 len) ∧ w'.cell? ⟨w.heap.size, 2, none⟩ = some (.int .i64 spd) ∧ w'.cell? ⟨w.heap.size, 3, none⟩ = some (.int .i64 ac) ∧ w'.cell? ⟨w.heap.size, 4, none⟩ = some (.int .i64 bk)))
    (first | exact HXF.out _ h0.drew | exact HXF.out _ (h0.drew.trans h1) | exact HXF.out _ ((h0.drew.trans h1).trans h2) | exact HXF.out _ (((h0.drew.trans h1).trans h2).trans h3) | exact HXF.out _ ((((h0.drew.trans h1).trans h2).trans h3).trans h4))
    ((first
      | (go_at_call 18; (with_reducible refine (HC1.out wf.drew).mono ?_); rintro e w1 ⟨rfl, q1⟩; have h1 := Below.mono q1 h0.drew.size)
      | (go_at_call 18; (with_reducible refine (HC1.out w1).mono ?_); rintro e w2 ⟨rfl, q2⟩; have h2 := Below.mono q2 (h0.drew.trans h1).size)
      | (go_at_call 31; (with_reducible refine (HC2.out wf.drew).mono ?_); rintro e w1 ⟨rfl, q1⟩; have h1 := Below.mono q1 h0.drew.size)
      | (go_at_call 31; (with_reducible refine (HC2.out w1).mono ?_); rintro e w2 ⟨rfl, q2⟩; have h2 := Below.mono q2 (h0.drew.trans h1).size)
      | (go_at_call 17; (with_reducible refine (HS1.out _ ((h0.drew.trans h1).trans h2)).mono ?_); rintro e w3 ⟨rfl, q3⟩; have h3 := Below.mono q3 ((h0.drew.trans h1).trans h2).size)
      | (go_at_call 17; (with_reducible refine (HS2.out _ (((h0.drew.trans h1).trans h2).trans h3)).mono ?_); rintro e w4 ⟨rfl, q4⟩; have h4 := Below.mono q4 (((h0.drew.trans h1).trans h2).trans h3).size)))
  all_goals
    have HBF := Lib.hid (HBW.out.trans (((((h0.drew.trans h1).trans h2).trans h3).trans h4).mono HBW.out.size))
    clear h0 h1 h2 h3 h4 q1 q2 q3 q4 HXF HS1 HS2 HC1 HC2 HBW
    go_wp2
    go_ret
    exact ⟨rfl, HBF.out⟩

theorem agrees_int (A : Option Addr) (n c : Nat) (L : List Cel) (z : Int) (st : Nat) (x : ByteArray) (s : Stk) (w : World) (hz : z = st) (h : AnyArgs w A n c st L s) :
    Calls Try.prog 19 #[.slice A n c, .int .i64 z, stk x s] w (BoolPost true w) := by subst hz; exact agrees A n c L st x s w h

set_option maxRecDepth 100000 in
set_option maxHeartbeats 8000000 in
theorem reference (A : Option Addr) (n c : Nat) (L : List Cel) (hn : n ≤ c) (hc : c ≤ 9223372036854775807) (st : Int) (w1 : (Lit.int .i64 st).wf = true) (x : ByteArray) (s : Stk) (w : World) (hL : Rd celR w w.heap.size A n L) :
    Calls Try.prog 4 #[.slice A n c, .int .i64 st, stk x s] w (Yes w) := by
  have b1 := bounds_i64 w1
  have HAG := Lib.hid (fun w' (hb : Below w.heap.size w w') => agrees A n c L st x s w' ⟨(hL.below hb).more hb.size, hn, hc, by omega⟩)
  have HPL := Lib.hid (fun w => plain_int 3 3 w rfl (by omega))
  have HA2 : Hid (∀ (A : Option Addr) (c b : Nat) (w' : World), Mem.Own celR w' b (.slice A 3 c) 3 (flat 3) → 3 ≤ c → c ≤ 9223372036854775807 → Calls Try.prog 19 #[.slice A 3 c, .int .i64 0, .agg #[.string ⟨#[]⟩, .int .i64 2, .int .i64 9000, .int .i64 300, .int .i64 200]] w' (BoolPost true w')) :=
    fun A c b w' hO hnc hcb => agrees_int A 3 c (flat 3) 0 0 ⟨#[]⟩ ⟨2, 9000, 300, 200⟩ w' rfl (any_of_own hO hnc hcb (by omega))
  have HCK : Hid (∀ w' : World, Calls Try.prog 18 #[.agg #[.string ⟨#[]⟩, .int .i64 1, .int .i64 5000, .int .i64 500, .int .i64 500]] w' (BoolPost true w')) := fun w' => by
    have := p_check ⟨#[]⟩ ⟨1, 5000, 500, 500⟩ w'
    rw [show okStk ⟨1, 5000, 500, 500⟩ = true by decide] at this
    exact this
  have hbx := Bx.new w x s
  have hb0 : Below w.heap.size w (w.alloc (.cells #[.string x, .int .i64 s.len, .int .i64 s.spd, .int .i64 s.acc, .int .i64 s.brk] 23)) := (Below.refl _ _).alloc (Nat.le_refl _) _
  obtain ⟨len, spd, ac, bk⟩ := s
  simp only [stk] at *
  obtain ⟨x0, x1, x2, x3, x4⟩ := hbx.cells
  clear hL hbx
  simp only at x1 x2 x3 x4
  go_enter Try.func4, Try.ntmps4
  go_wp2_with (first
    | (go_at_call 19; (with_reducible refine (HAG.out _ hb0).mono ?_); rintro e wa ⟨rfl, ha⟩; have HA := Lib.hid (hb0.trans (ha.mono hb0.size)); clear ha)
    | (go_at_call 14; (with_reducible refine (HPL.out _).mono ?_); rintro e wp ⟨A3, n3, c3, L3, rfl, hO, ⟨rfl, rfl⟩, hnc, hcb, hwp⟩; have HP := Lib.hid (HA.out.trans (hwp.mono HA.out.size)); clear hwp)
    | (go_at_call 19; (with_reducible refine (HA2.out _ _ _ _ hO hnc hcb).mono ?_); rintro e wb ⟨rfl, hb⟩; have HB := Lib.hid (HP.out.trans (hb.mono HP.out.size)); clear hb)
    | (go_at_call 18; (with_reducible refine (HCK.out _).mono ?_); rintro e wt ⟨rfl, ht⟩; have HT := Lib.hid (HB.out.trans (ht.mono HB.out.size)); clear ht))
  all_goals go_ret
  all_goals exact ⟨rfl, HT.out⟩

/-! ### statements over made cells and stocks: how they begin -/
/-- what stands in memory when cells and a stock have been made: the cells at A, the stock in block b -/
structure Gn (w W : World) (b : Nat) (A : Option Addr) (n c : Nat) (L : List Cel) (s : Stk) : Prop where
  rd : Rd celR W W.heap.size A n L
  made : made n L
  nc : n ≤ c
  cb : c ≤ 9223372036854775807
  box : Bx W b xX s
  stk : mkStk s
  below : Below w.heap.size w W
section
variable {w W W' : World} {b : Nat} {A : Option Addr} {n c : Nat} {L : List Cel} {s : Stk}
theorem Gn.keep (h : Gn w W b A n c L s) (hb : Below W.heap.size W W') : Gn w W' b A n c L s :=
  ⟨(h.rd.below hb).more hb.size, h.made, h.nc, h.cb, h.box.below hb h.box.lt, h.stk, h.below.trans (hb.mono h.below.size)⟩
theorem Gn.any (h : Gn w W b A n c L s) {st : Int} (hs : -9223372036854775808 ≤ st ∧ st ≤ 9223372036854775807) (r : Stk) : AnyArgs W A n c st L r := ⟨h.rd, h.nc, h.cb, hs⟩
theorem Gn.run (h : Gn w W b A n c L s) {st : Nat} (hk : st + 2 ≤ n) {r : Stk} (hr : okStk r = true) : RunArgs W A n c st L r := ⟨h.rd, h.nc, h.cb, hk, by have := h.made.2.2; omega, hr, h.made.1⟩
end
theorem gn_start {w wc ws : World} {A : Option Addr} {n c : Nat} {L : List Cel} {s : Stk} (hO : Mem.Own celR wc w.heap.size (.slice A n c) n L) (hm : made n L) (hnc : n ≤ c) (hcb : c ≤ 9223372036854775807) (hb : Below w.heap.size w wc) (hs : mkStk s) (hb2 : Below wc.heap.size wc ws) :
    Gn w (ws.alloc (.cells #[.string xX, .int .i64 s.len, .int .i64 s.spd, .int .i64 s.acc, .int .i64 s.brk] 23)) ws.heap.size A n c L s := by
  have h1 : Below ws.heap.size ws (ws.alloc (.cells #[.string xX, .int .i64 s.len, .int .i64 s.spd, .int .i64 s.acc, .int .i64 s.brk] 23)) := (Below.refl _ _).alloc (Nat.le_refl _) _
  have hbs := hb.trans (hb2.mono hb.size)
  have hr : Rd celR ws ws.heap.size A n L := (hO.rd.below hb2).more hb2.size
  exact ⟨(hr.below h1).more h1.size, hm, hnc, hcb, Bx.new ws xX s, hs, hbs.trans (h1.mono hbs.size)⟩


end Go.Proofs.Ytglcimahdgnnnaa.WAg
