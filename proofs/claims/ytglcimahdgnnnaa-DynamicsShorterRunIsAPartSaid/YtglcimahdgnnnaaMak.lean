/-
  Contracts of the makers of stocks and cells, and of the comparison of two lists of numbers.
-/
import Derived.Test.YtglcimahdgnnnaaPTim
namespace Go.Proofs.Ytglcimahdgnnnaa.Mak
open Go.ChangeShapes Go.WideShapes Go.ChangeAt Go.RowKit Dyn Mem Src PSm PChk PLim PPer PSpd PTim
set_option linter.unusedVariables false

/-- a source of choices, in a world that has changed nothing of the old memory -/
def SS (w0 w : World) (g : Nat) (A : Option Addr) (l c : Nat) : Prop := (∃ i, i ≤ l ∧ Src w g A l c i) ∧ Below w0.heap.size w0 w ∧ w0.heap.size ≤ g
theorem SS.glt {w0 w : World} {g : Nat} {A : Option Addr} {l c : Nat} (h : SS w0 w g A l c) : g < w.heap.size := by obtain ⟨⟨i, _, hs⟩, _⟩ := h; exact hs.lt
theorem SS.keep {w0 w w' : World} {g : Nat} {A : Option Addr} {l c : Nat} (h : SS w0 w g A l c) (hb : Below w.heap.size w w') : SS w0 w' g A l c := by
  obtain ⟨⟨i, hi, hs⟩, h2, h3⟩ := h
  exact ⟨⟨i, hi, hs.below hb hs.lt⟩, h2.trans (hb.mono h2.size), h3⟩
theorem SS.grows {w0 w w' : World} {g : Nat} {A : Option Addr} {l c : Nat} {row : Option Nat} (h : SS w0 w g A l c) (hg : w.grownBy w' row) (hr : ∀ r, row = some r → w0.heap.size ≤ r ∧ r ≠ g) : SS w0 w' g A l c := by
  obtain ⟨⟨i, hi, hs⟩, h2, h3⟩ := h
  exact ⟨⟨i, hi, (hg.block g hs.lt (fun e => (hr _ e.symm).2 rfl)).trans hs⟩, h2.grown hg h2.size (fun r e => (hr r e).1), h3⟩
theorem SS.new (w : World) (A : Option Addr) (l c : Nat) : SS w (w.alloc (.cells #[.slice A l c, .int .i64 0] 63)) w.heap.size A l c :=
  ⟨⟨0, Nat.zero_le _, heap_alloc_new _ _⟩, (Below.refl _ _).alloc (Nat.le_refl _) _, Nat.le_refl _⟩
def NextSS (n : Int) (w0 : World) (g : Nat) (A : Option Addr) (l c : Nat) (w : World) (e : Ending) (w' : World) : Prop :=
  ∃ r : Int, 0 ≤ r ∧ r < n ∧ e = .returned (.int .i64 r) ∧ SS w0 w' g A l c ∧ w.grownBy w' (some g)
theorem next_ss (w0 w : World) (g : Nat) (A : Option Addr) (l c : Nat) (n : Int) (h : SS w0 w g A l c) (hI : Ints w0 w0.heap.size A l) (hl : l ≤ 9223372036854775807) (hn : 1 ≤ n) (hn2 : n ≤ 9223372036854775807) :
    Calls Try.prog 33 #[.pointer (some ⟨g, 0, none⟩), .int .i64 n] w (NextSS n w0 g A l c w) := by
  obtain ⟨⟨i, hi, hs⟩, h2, h3⟩ := h
  refine (next_any g A l c i w0.heap.size n w hs hi hl (hI.below h2) h3 hn hn2).mono ?_
  rintro e w' ⟨r, j, r0, r1, rfl, hj, hs', hg⟩
  exact ⟨r, r0, r1, rfl, ⟨⟨j, hj, hs'⟩, h2.grown hg h2.size (fun k e => by cases e; exact h3), h3⟩, hg⟩

/-- a stock of the maker -/
def mkStk (s : Stk) : Prop := okStk s = true ∧ s.len ≤ 4
def xX : ByteArray := ⟨#[88]⟩
theorem Bx.free {w : World} {b : Nat} {x : ByteArray} {s : Stk} (h : Bx w b x s) (i : Nat) : w.frozen? ⟨b, i, none⟩ = false := by
  unfold Bx at h; simp [World.frozen?, h]
theorem next_sb (w0 w : World) (g b : Nat) (x : ByteArray) (s : Stk) (A : Option Addr) (l c : Nat) (n : Int) (h : Hid (SS w0 w g A l c ∧ Bx w b x s)) (hne : b ≠ g) (hI : Ints w0 w0.heap.size A l) (hl : l ≤ 9223372036854775807) (hn : 1 ≤ n) (hn2 : n ≤ 9223372036854775807) :
    Calls Try.prog 33 #[.pointer (some ⟨g, 0, none⟩), .int .i64 n] w fun e w' => ∃ r : Int, 0 ≤ r ∧ r < n ∧ e = .returned (.int .i64 r) ∧ Hid (SS w0 w' g A l c ∧ Bx w' b x s) := by
  refine (next_ss w0 w g A l c n h.out.1 hI hl hn hn2).mono ?_
  rintro e w' ⟨r, r0, r1, rfl, hs, hg⟩
  exact ⟨r, r0, r1, rfl, hs, (hg.block b h.out.2.lt (fun e => hne (Option.some.inj e))).trans h.out.2⟩
set_option maxRecDepth 100000 in
set_option maxHeartbeats 4000000 in
theorem stock_any (A : Option Addr) (l c : Nat) (w : World) (hI : Ints w w.heap.size A l) (hl : l ≤ 9223372036854775807) :
    Calls Try.prog 21 #[.slice A l c] w fun e w' => ∃ s, e = .returned (stk xX s) ∧ mkStk s ∧ Below w.heap.size w w' := by
  have HI := Lib.hid hI
  have hne : w.heap.size ≠ w.heap.size + 1 := by omega
  clear hI
  go_enter Try.func21, Try.ntmps21
  go_upto_region 2 with (go_at_call 32; refine (from_any _ _ _ _).mono ?_; rintro e w' ⟨rfl, rfl⟩)
  obtain ⟨W, hW⟩ : ∃ W, (w.alloc (.cells #[.string ⟨#[]⟩, .int .i64 0, .int .i64 0, .int .i64 0, .int .i64 0] 23)).alloc (.cells #[.slice A l c, .int .i64 0] 63) = W := ⟨_, rfl⟩
  have hB := Bx.new w ⟨#[]⟩ ⟨0, 0, 0, 0⟩
  have hb0 : Below w.heap.size w (w.alloc (.cells #[.string ⟨#[]⟩, .int .i64 0, .int .i64 0, .int .i64 0, .int .i64 0] 23)) := (Below.refl _ _).alloc (Nat.le_refl _) _
  have hz : (w.alloc (.cells #[.string ⟨#[]⟩, .int .i64 0, .int .i64 0, .int .i64 0, .int .i64 0] 23)).heap.size = w.heap.size + 1 := by simp
  have hS := SS.new (w.alloc (.cells #[.string ⟨#[]⟩, .int .i64 0, .int .i64 0, .int .i64 0, .int .i64 0] 23)) A l c
  have HS : Hid (SS w W (w.heap.size + 1) A l c ∧ Bx W w.heap.size ⟨#[]⟩ ⟨0, 0, 0, 0⟩) := by
    rw [Hid, ← hW]
    rw [hz] at hS
    obtain ⟨⟨i, hi, hs⟩, h2, h3⟩ := hS
    exact ⟨⟨⟨i, hi, hs⟩, hb0.trans (h2.mono (by omega)), by omega⟩, hB.below h2 (by omega)⟩
  rw [hW]
  clear hB hb0 hz hS hW
  obtain ⟨g, hg⟩ : ∃ g, w.heap.size + 1 = g := ⟨_, rfl⟩
  rw [hg] at HS hne ⊢
  clear hg
  obtain ⟨b, hb⟩ : ∃ b, w.heap.size = b := ⟨_, rfl⟩
  rw [hb] at HS hne ⊢
  have HBW : Hid (w.heap.size = b) := hb
  clear hb
  go_wp2_with (go_at_call 33; (try clear c0 c1 c2 c3 c4 f0 f1 f2 f3 f4); refine (next_sb w _ g b _ _ A l c _ (by assumption) hne HI.out hl (by omega) (by omega)).mono ?_; rintro e w' ⟨r, r0, r1, rfl, HS'⟩; obtain ⟨c0, c1, c2, c3, c4⟩ := HS'.out.2.cells; have f0 := Bx.free HS'.out.2 0; have f1 := Bx.free HS'.out.2 1; have f2 := Bx.free HS'.out.2 2; have f3 := Bx.free HS'.out.2 3; have f4 := Bx.free HS'.out.2 4)
  rename_i w1 a a0 a1 HSa w2 d d0 d1 HSd w3 e e0 e1 HSe
  have hbb := HBW.out
  have hz := HS'.out.1.2.1.size
  have hBB := HS'.out.1.2.1
  have hBx := HS'.out.2
  have hFin : Bx (((((w'.setCell ⟨b, 0, none⟩ (.string ⟨#[88]⟩)).setCell ⟨b, 1, none⟩ (.int .i64 (1 + a))).setCell ⟨b, 2, none⟩ (.int .i64 (5000 + 2500 * d))).setCell ⟨b, 3, none⟩ (.int .i64 (200 + 100 * e))).setCell ⟨b, 4, none⟩ (.int .i64 (200 + 100 * r))) b ⟨#[88]⟩ ⟨1 + a, 5000 + 2500 * d, 200 + 100 * e, 200 + 100 * r⟩ := by
    unfold Bx at hBx ⊢
    simp [World.setCell, Array.getElem?_modify, hBx]
  have hFB : Below w.heap.size w (((((w'.setCell ⟨b, 0, none⟩ (.string ⟨#[88]⟩)).setCell ⟨b, 1, none⟩ (.int .i64 (1 + a))).setCell ⟨b, 2, none⟩ (.int .i64 (5000 + 2500 * d))).setCell ⟨b, 3, none⟩ (.int .i64 (200 + 100 * e))).setCell ⟨b, 4, none⟩ (.int .i64 (200 + 100 * r))) :=
    ((((hBB.setCell (p := ⟨b, 0, none⟩) (by simp only; omega) _).setCell (p := ⟨b, 1, none⟩) (by simp only; omega) _).setCell (p := ⟨b, 2, none⟩) (by simp only; omega) _).setCell (p := ⟨b, 3, none⟩) (by simp only; omega) _).setCell (p := ⟨b, 4, none⟩) (by simp only; omega) _
  generalize ((((w'.setCell ⟨b, 0, none⟩ (.string ⟨#[88]⟩)).setCell ⟨b, 1, none⟩ (.int .i64 (1 + a))).setCell ⟨b, 2, none⟩ (.int .i64 (5000 + 2500 * d))).setCell ⟨b, 3, none⟩ (.int .i64 (200 + 100 * e))).setCell ⟨b, 4, none⟩ (.int .i64 (200 + 100 * r)) = WF at *
  obtain ⟨q0, q1, q2, q3, q4⟩ := hFin.cells
  refine bodyPost_ret (v := stk xX ⟨1 + a, 5000 + 2500 * d, 200 + 100 * e, 200 + 100 * r⟩) ?_ rfl ⟨_, rfl, ⟨okStk_iff.2 (by simp only; omega), by simp only; omega⟩, hFB⟩
  simp [results, Try.results21, go_sem, stk, xX, q0, q1, q2, q3, q4]

/-! ### level cells, and cells of the maker -/
theorem infoC : (Try.prog.info? 42).map (fun i => (i.zero, i.size, i.bytes)) = some (some (.agg #[.int .i64 0, .int .i64 0]), 2, 16) := by kernel_rfl
def flat (n : Nat) : List Cel := List.replicate n ⟨30000, 0⟩
theorem flat_succ (n : Nat) : flat (n + 1) = flat n ++ [⟨30000, 0⟩] := by unfold flat; rw [List.replicate_succ']
theorem flat_cel (n i : Nat) (h : i < n) : cel (flat n) i = ⟨30000, 0⟩ := cel_eq (by simp [flat, h])
theorem flat_ok (n : Nat) : (flat n).all okCel = true := by
  rw [List.all_eq_true]
  intro x hx
  rw [List.eq_of_mem_replicate hx]
  decide
theorem flat_len (n : Nat) : (flat n).length = n := by simp [flat]

/-- what a call leaves that answers a new list of cells -/
def CellsPost (P : Nat → List Cel → Prop) (w : World) (e : Ending) (w' : World) : Prop := ∃ A n c L, e = .returned (.slice A n c) ∧ Mem.Own celR w' w.heap.size (.slice A n c) n L ∧ P n L ∧ n ≤ c ∧ c ≤ 9223372036854775807 ∧ Below w.heap.size w w'

set_option maxRecDepth 100000 in
set_option maxHeartbeats 2000000 in
theorem plain_any (n : Nat) (w : World) (hn : n ≤ 100000) : Calls Try.prog 14 #[.int .i64 n] w (CellsPost (fun m L => m = n ∧ L = flat n) w) := by
  obtain ⟨ih, hih, hz0, hz1, hz2⟩ := info_parts infoC
  go_enter Try.func14, Try.ntmps14
  go_wp2
  go_loopw [3, 4] (fun s i wr => ∃ (k c : Nat) (A : Option Addr), k ≤ n ∧ s = .slice A k c ∧ i = .int .i64 k ∧ Mem.Own celR wr w.heap.size (.slice A k c) k (flat k) ∧ Below w.heap.size w wr) (fun _ i _ => n - (intOf i).toNat)
  case atStart => exact ⟨0, 0, none, Nat.zero_le _, rfl, rfl, Mem.Own.nil _ _, Below.refl _ _⟩
  case round =>
    obtain ⟨k, c, A, hk, rfl, rfl, hO, hbw⟩ := hrel
    by_cases hlt : k < n
    · have hkn : (k : Int) < (n : Int) := by omega
      have hn63 : k + 1 ≤ maxLen := by unfold maxLen; omega
      have hby : (k + 1) * 16 ≤ 140737488355328 := by omega
      have hz := hbw.size
      have HO := Lib.hid hO
      have HB := Lib.hid hbw
      clear hO hbw
      go_wp2_with (at_builtin; refine wpList_append_own _ rfl _ _ 28 rfl w.heap.size 42 ih _ 2 16 Try.underlying28 hih hz0 hz1 hz2 rfl (by omega) (.slice A k c) k (celR.cs (flat k)) rfl (HO.out.2.alloc _) ⟨wr.heap.size, 0, none⟩ 1 1 [.int .i64 30000, .int .i64 0] rfl rfl (World.news_of_block (cs := #[.int .i64 30000, .int .i64 0]) (t := 42) (fr := (0, 0)) (heap_alloc_new _ _)) (by simp [Value.oneCell']) hn63 hby (by simp; omega) ?_)
      intro v w1 hown hgrow _
      obtain ⟨A', c', rfl, hO', hb'⟩ := Mem.appended (R := celR) (a := ⟨30000, 0⟩) HB.out hz HO.out.1 HO.out.2 hown hgrow
      have HO2 : Hid (Mem.Own celR w1 w.heap.size (.slice A' (k + 1) c') (k + 1) (flat (k + 1))) := by rw [Hid, flat_succ]; exact hO'
      have HB2 := Lib.hid hb'
      clear hown hgrow hO' hb' HO HB
      go_wp2_with fail
      go_roundw
      case rel => exact ⟨k + 1, c', A', by omega, rfl, by go_num, HO2.out, HB2.out⟩
      case measure => simp [intOf]; omega
    · obtain rfl : k = n := by omega
      obtain ⟨A1, c1, hv, h1, h2⟩ := hO.form
      injection hv with e1 e2 e3
      subst e1 e3
      have HO := Lib.hid hO
      clear hO
      go_wp2
      all_goals go_ret
      all_goals exact ⟨_, _, _, _, rfl, HO.out, ⟨rfl, rfl⟩, h1, by unfold maxLen at h2; omega, hbw⟩

theorem own_src {w : World} {base g n l c i : Nat} {v : Value} {L : List Cel} {A : Option Addr} (h : Mem.Own celR w base v n L) (hs : Src w g A l c i) : v.ownBlock ≠ some g := by
  rcases h.2.2 with ⟨rfl, _⟩ | ⟨g1, cap, cur, rfl, _, hh, _⟩
  · simp [Value.ownBlock]
  · simp [Value.ownBlock]
    rintro rfl
    unfold Src at hs
    rw [hh] at hs
    injection hs with hs
    injection hs with _ ht
    exact absurd ht (by decide)
/-- the list of cells so far, the source, and how many there are -/
structure Out (w0 wr : World) (g : Nat) (A0 : Option Addr) (l c0 : Nat) (A : Option Addr) (k c : Nat) (L : List Cel) : Prop where
  own : Mem.Own celR wr w0.heap.size (.slice A k c) k L
  ok : L.all okCel = true
  src : SS w0 wr g A0 l c0
section
variable {w0 wr w' : World} {g : Nat} {A0 : Option Addr} {l c0 : Nat} {A : Option Addr} {k c : Nat} {L : List Cel}
theorem Out.ne (h : Out w0 wr g A0 l c0 A k c L) : (Value.slice A k c).ownBlock ≠ some g := by
  obtain ⟨⟨i, _, hs⟩, _⟩ := h.src
  exact own_src h.own hs
theorem Out.lt (h : Out w0 wr g A0 l c0 A k c L) {b : Nat} (hb : (Value.slice A k c).ownBlock = some b) : w0.heap.size ≤ b ∧ b < wr.heap.size := h.own.2.lt b hb
theorem Out.alloc (h : Out w0 wr g A0 l c0 A k c L) (o : Obj) : Out w0 (wr.alloc o) g A0 l c0 A k c L := ⟨h.own.alloc o, h.ok, h.src.keep ((Below.refl _ _).alloc (Nat.le_refl _) _)⟩
theorem Out.next (h : Hid (Out w0 wr g A0 l c0 A k c L)) (hI : Ints w0 w0.heap.size A0 l) (hl : l ≤ 9223372036854775807) (n : Int) (hn : 1 ≤ n) (hn2 : n ≤ 9223372036854775807) :
    Calls Try.prog 33 #[.pointer (some ⟨g, 0, none⟩), .int .i64 n] wr fun e w' => ∃ r : Int, 0 ≤ r ∧ r < n ∧ e = .returned (.int .i64 r) ∧ Hid (Out w0 w' g A0 l c0 A k c L) ∧ Hid (wr.grownBy w' (some g)) := by
  refine (next_ss w0 wr g A0 l c0 n h.out.src hI hl hn hn2).mono ?_
  rintro e w' ⟨r, r0, r1, rfl, hs, hg⟩
  exact ⟨r, r0, r1, rfl, ⟨h.out.own.grown hg (.inr h.out.ne), h.out.ok, hs⟩, hg⟩
end
def made (n : Nat) (L : List Cel) : Prop := L.all okCel = true ∧ 1 ≤ n ∧ n ≤ 56

set_option maxRecDepth 100000 in
set_option maxHeartbeats 8000000 in
theorem cells_any (A0 : Option Addr) (l c0 : Nat) (w : World) (hI : Ints w w.heap.size A0 l) (hl : l ≤ 9223372036854775807) :
    Calls Try.prog 20 #[.slice A0 l c0] w (CellsPost made w) := by
  obtain ⟨ih, hih, hz0, hz1, hz2⟩ := info_parts infoC
  have HI := Lib.hid hI
  have HO0 : Hid (Out w (w.alloc (.cells #[.slice A0 l c0, .int .i64 0] 63)) w.heap.size A0 l c0 none 0 0 []) := ⟨Mem.Own.nil _ _, rfl, SS.new w A0 l c0⟩
  clear hI
  go_enter Try.func20, Try.ntmps20
  go_upto_region 4 with (first
    | (go_at_call 32; refine (from_any _ _ _ _).mono ?_; rintro e w' ⟨rfl, rfl⟩)
    | (go_at_call 33; refine (Out.next HO0 HI.out hl _ (by omega) (by omega)).mono ?_; rintro e w1 ⟨T, T0, T1, rfl, HO1, _⟩))
  have HN := Lib.hid (fun (wr : World) (A : Option Addr) (k c : Nat) (L : List Cel) (h : Hid (Out w wr w.heap.size A0 l c0 A k c L)) (n : Int) (hn : 1 ≤ n) (hn2 : n ≤ 9223372036854775807) => Out.next h HI.out hl n hn hn2)
  clear HO0
  obtain ⟨g, hg⟩ : ∃ g, w.heap.size = g := ⟨_, rfl⟩
  rw [hg] at HO1 HN ⊢
  have HG := Lib.hid hg
  clear hg
  go_loopw [4, 5] (fun s i wr => ∃ (j k c : Nat) (A : Option Addr) (L : List Cel), s = .slice A k c ∧ i = .int .i64 j ∧ k + 4 * j ≤ 56 ∧ (1 ≤ k ∨ 1 ≤ j) ∧ Hid (Out w wr g A0 l c0 A k c L)) (fun _ i _ => (intOf i).toNat)
  case atStart => exact ⟨(1 + T).toNat, 0, 0, none, [], rfl, by rw [Int.toNat_of_nonneg (by omega)], by omega, by omega, HO1⟩
  case round =>
    obtain ⟨j, k, c, A, L, rfl, rfl, hkj, h1, HO⟩ := hrel
    by_cases hj : 1 ≤ j
    · have hj1 : (0 : Int) < (j : Int) := by omega
      go_upto_region 7 with (go_at_call 33; refine (HN.out _ A k c L (by assumption) _ (by omega) (by omega)).mono ?_; rintro e w2 ⟨r, r0, r1, rfl, HO2, _⟩)
      rename_i wa a a0 a1 HOa _ _ _ _
      have HO3 := Lib.hid (HO2.out.alloc (.cells #[.int .i64 (1000 + 1000 * a), .int .i64 (r - 40)] 42))
      have hp := heap_alloc_new w2 (.cells #[.int .i64 (1000 + 1000 * a), .int .i64 (r - 40)] 42)
      have hzp : (w2.alloc (.cells #[.int .i64 (1000 + 1000 * a), .int .i64 (r - 40)] 42)).heap.size = w2.heap.size + 1 := by simp
      have hne : (Value.slice A k c).ownBlock ≠ some w2.heap.size := fun e => by have := (HO2.out.lt e).2; omega
      have hgp : g < w2.heap.size := HO2.out.src.glt
      obtain ⟨lim, hlim⟩ : ∃ lim, 1000 + 1000 * a = lim := ⟨_, rfl⟩
      obtain ⟨gr, hgr⟩ : ∃ gr, r - 40 = gr := ⟨_, rfl⟩
      have hok : okCel ⟨lim, gr⟩ = true := okCel_iff.2 (by simp only; omega)
      rw [hlim, hgr] at HO3 hp hzp ⊢
      obtain ⟨p, hpe⟩ : ∃ p, w2.heap.size = p := ⟨_, rfl⟩
      rw [hpe] at hp hzp hne hgp ⊢
      have hpz : p < (w2.alloc (.cells #[.int .i64 lim, .int .i64 gr] 42)).heap.size := by omega
      generalize w2.alloc (.cells #[.int .i64 lim, .int .i64 gr] 42) = w3 at *
      have HP := Lib.hid hp
      clear hp hzp hpe HO2 HOa hlim hgr
      go_upto_region 8 with (go_at_call 33; refine (HN.out _ A k c L HO3 _ (by omega) (by omega)).mono ?_; rintro e w4 ⟨q, q0, q1, rfl, HO4, HG4⟩)
      have HP4 : Hid (w4.heap[p]? = some (.cells #[.int .i64 lim, .int .i64 gr] 42 (0, 0))) := (HG4.out.block p hpz (fun e => by injection e; omega)).trans HP.out
      clear HG4 HP HO3 hpz
      go_loopw [4, 7] (fun s i wr => ∃ (j2 k2 c2 : Nat) (A2 : Option Addr) (L2 : List Cel), s = .slice A2 k2 c2 ∧ i = .int .i64 j2 ∧ k2 + j2 ≤ k + 4 ∧ (1 ≤ k2 ∨ 1 ≤ j2) ∧ (Value.slice A2 k2 c2).ownBlock ≠ some p ∧ Hid (Out w wr g A0 l c0 A2 k2 c2 L2) ∧ Hid (wr.heap[p]? = some (.cells #[.int .i64 lim, .int .i64 gr] 42 (0, 0)))) (fun _ i _ => (intOf i).toNat)
      case atStart => exact ⟨(1 + q).toNat, k, c, A, L, rfl, by rw [Int.toNat_of_nonneg (by omega)], by omega, by omega, hne, HO4, HP4⟩
      case round =>
        obtain ⟨j2, k2, c2, A2, L2, rfl, rfl, hk2, h2, hne2, HO, HP⟩ := hrel
        by_cases hj2 : 1 ≤ j2
        · have hjj : (0 : Int) < (j2 : Int) := by omega
          have hpo := HP.out
          have pc0 : wr.cell? ⟨p, 0, none⟩ = some (.int .i64 lim) := by simp [World.cell?, hpo]
          have pc1 : wr.cell? ⟨p, 1, none⟩ = some (.int .i64 gr) := by simp [World.cell?, hpo]
          have hpl : p < wr.heap.size := (Array.getElem?_eq_some_iff.1 hpo).1
          have hbs : w.heap.size ≤ wr.heap.size := HO.out.src.2.1.size
          have hn63 : k2 + 1 ≤ maxLen := by unfold maxLen; omega
          have hby : (k2 + 1) * 16 ≤ 140737488355328 := by omega
          clear hpo
          go_wp2_with (at_builtin; refine wpList_append_lies _ rfl _ _ 28 rfl w.heap.size 42 ih _ 2 16 Try.underlying28 hih hz0 hz1 hz2 rfl (by omega) (.slice A2 k2 c2) k2 (celR.cs L2) rfl (HO.out.own.2.alloc _) ⟨wr.heap.size, 0, none⟩ 1 1 [.int .i64 lim, .int .i64 gr] rfl rfl (World.news_of_block (cs := #[.int .i64 lim, .int .i64 gr]) (t := 42) (fr := (0, 0)) (heap_alloc_new _ _)) (by simp [Value.oneCell']) (by omega) hn63 hby (by simp; omega) (wr.heap.size + 1) (by simp) ?_)
          intro g5 c5 w5 hown hgrow hat _
          have hA := HO.out.alloc (.cells #[.int .i64 lim, .int .i64 gr] 42)
          have hO5 := Mem.Own.push (R := celR) (a := ⟨lim, gr⟩) HO.out.own.1 hown
          have hge : ∀ b, (Value.slice A2 k2 c2).ownBlock = some b → w.heap.size ≤ b := fun b hb => (HO.out.lt hb).1
          have HO5 : Hid (Out w w5 g A0 l c0 (some ⟨g5, 0, none⟩) (k2 + 1) c5 (L2 ++ [⟨lim, gr⟩])) := ⟨hO5, by rw [List.all_append, HO.out.ok]; simpa using hok, hA.src.grows hgrow (fun b hb => ⟨hge b hb, fun e => HO.out.ne (by rw [hb, e])⟩)⟩
          have HP5 : Hid (w5.heap[p]? = some (.cells #[.int .i64 lim, .int .i64 gr] 42 (0, 0))) := (hgrow.block p (by simp; omega) (fun e => hne2 e.symm)).trans ((Below.heap_alloc wr _ p hpl).trans HP.out)
          have hn5 : (Value.slice (some ⟨g5, 0, none⟩) (k2 + 1) c5).ownBlock ≠ some p := by
            show some g5 ≠ some p
            intro e
            injection e with e
            rcases hat with h | h
            · exact hne2 (by rw [h, e])
            · omega
          clear hown hgrow hat hA hO5 HO HP pc0 pc1 hge
          go_wp2_with fail
          go_roundw
          case rel => exact ⟨j2 - 1, k2 + 1, c5, _, _, rfl, by congr 1; omega, by omega, by omega, hn5, HO5, HP5⟩
          case measure => simp [intOf]; omega
        · obtain rfl : j2 = 0 := by omega
          go_wp2
          go_roundw
          case rel => exact ⟨j - 1, k2, c2, A2, L2, rfl, by congr 1; omega, by omega, by omega, HO⟩
          case measure => simp [intOf]; omega
    · obtain rfl : j = 0 := by omega
      obtain ⟨A1, c1, hv, f1, f2⟩ := HO.out.own.form
      injection hv with e1 e2 e3
      subst e1 e3
      have hgo := HG.out
      go_wp2
      all_goals go_ret
      all_goals exact ⟨_, _, _, _, rfl, HO.out.own, ⟨HO.out.ok, by omega, by omega⟩, f1, by unfold maxLen at f2; omega, HO.out.src.2.1⟩
end Go.Proofs.Ytglcimahdgnnnaa.Mak
