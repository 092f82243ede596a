/-
  Contracts of the program: the permitted squares of the speeds.
-/
import Derived.Test.YtglcimahdgnnnaaPLim
namespace Go.Proofs.Ytglcimahdgnnnaa.PPer
open Go.ChangeShapes Go.WideShapes Go.ChangeAt Go.RowKit Dyn Mem Src PSm PChk PLim
set_option linter.unusedVariables false

/-- block b holds a stock -/
def Bx (w : World) (b : Nat) (x : ByteArray) (s : Stk) : Prop := w.heap[b]? = some (.cells #[.string x, .int .i64 s.len, .int .i64 s.spd, .int .i64 s.acc, .int .i64 s.brk] 23 (0, 0))
section
variable {w w' : World} {b B : Nat} {x : ByteArray} {s : Stk}
theorem Bx.lt (h : Bx w b x s) : b < w.heap.size := lt_of_block h
theorem Bx.cells (h : Bx w b x s) : w.cell? ⟨b, 0, none⟩ = some (.string x) ∧ w.cell? ⟨b, 1, none⟩ = some (.int .i64 s.len) ∧ w.cell? ⟨b, 2, none⟩ = some (.int .i64 s.spd) ∧ w.cell? ⟨b, 3, none⟩ = some (.int .i64 s.acc) ∧ w.cell? ⟨b, 4, none⟩ = some (.int .i64 s.brk) := by
  unfold Bx at h; simp [World.cell?, h]
theorem Bx.below (h : Bx w b x s) (hb : Below B w w') (hg : b < B) : Bx w' b x s := (hb.block b hg).trans h
theorem Bx.new (w : World) (x : ByteArray) (s : Stk) : Bx (w.alloc (.cells #[.string x, .int .i64 s.len, .int .i64 s.spd, .int .i64 s.acc, .int .i64 s.brk] 23)) w.heap.size x s := by
  unfold Bx; exact heap_alloc_new _ _
end

/-- what a call leaves that answers a new row of n numbers and has changed no old memory -/
def RowPost (n : Nat) (f : Nat → Int) (w : World) (e : Ending) (w' : World) : Prop := ∃ g, e = .returned (.slice (some ⟨g, 0, none⟩) n n) ∧ w.heap.size ≤ g ∧ Row w' g n f ∧ Below w.heap.size w w'

/-- the cells, the start and the stock of a run without an error -/
structure RunArgs (w : World) (A : Option Addr) (n c st : Nat) (L : List Cel) (s : Stk) : Prop where
  rd : Rd celR w w.heap.size A n L
  nc : n ≤ c
  cb : c ≤ 9223372036854775807
  kn : st + 2 ≤ n
  n4 : n ≤ 4000
  hs : okStk s = true
  hc : L.all okCel = true
theorem RunArgs.lim {w w' : World} {A : Option Addr} {n c st k : Nat} {L : List Cel} {s : Stk} (h : RunArgs w A n c st L s) (hb : Below w.heap.size w w') (hk : k < n) : LimArgs w' A n c k L s :=
  ⟨(h.rd.below hb).more hb.size, h.nc, h.cb, hk, h.n4, h.hs, h.hc⟩

theorem base_at {L : List Cel} {s : Stk} {st m i : Nat} (h0 : 0 < i) (h : i < m) : base L s st m i = min (lim L s (st + i - 1)) (lim L s (st + i)) * min (lim L s (st + i - 1)) (lim L s (st + i)) := by
  unfold base; rw [if_pos ⟨h0, h⟩]
theorem base_zero {L : List Cel} {s : Stk} {st m i : Nat} (h : ¬ (0 < i ∧ i < m)) : base L s st m i = 0 := by unfold base; rw [if_neg h]

set_option maxRecDepth 100000 in
set_option maxHeartbeats 4000000 in
theorem p_permitted (A : Option Addr) (n c st m : Nat) (L : List Cel) (x : ByteArray) (s : Stk) (w : World) (h : RunArgs w A n c st L s) (hm : n = st + m) :
    Calls Try.prog 36 #[.slice A n c, .int .i64 st, stk x s] w (RowPost (m + 1) (base L s st m) w) := by
  have hlen := h.rd.1
  have h4 := h.n4
  have hkn := h.kn
  have hbx := Bx.new w x s
  have hmk := run_make_row' (P := Try.prog) 24 3 (.int .i64 0) 8 Try.underlying24 infoI rfl .i64 .i64 (m + 1) (by omega) (by omega)
  have hb0 : Below w.heap.size w (w.alloc (.cells #[.string x, .int .i64 s.len, .int .i64 s.spd, .int .i64 s.acc, .int .i64 s.brk] 23)) := (Below.refl _ _).alloc (Nat.le_refl _) _
  obtain ⟨hx0, hx1, hx2, hx3, hx4⟩ := hbx.cells
  have hsz : (w.alloc (.cells #[.string x, .int .i64 s.len, .int .i64 s.spd, .int .i64 s.acc, .int .i64 s.brk] 23)).heap.size = w.heap.size + 1 := by simp
  have H := Lib.hid h
  have HX := Lib.hid hbx
  have HB0 := Lib.hid hb0
  have HSZ := Lib.hid hsz
  have HM := Lib.hid hm
  have e1 : (n : Int) - st + 1 = ((m + 1 : Nat) : Int) := by omega
  have h5 : st + m ≤ n := by omega
  have h6 : n ≤ st + m := by omega
  clear hbx h hb0 hsz hm
  obtain ⟨len, spd, ac, bk⟩ := s
  simp only [stk] at *
  obtain ⟨N, hN⟩ : ∃ N, m + 1 = N := ⟨_, rfl⟩
  rw [hN] at hmk e1 ⊢
  have HN := Lib.hid hN
  have hN1 : m < N := by omega
  have hN2 : N ≤ m + 1 := by omega
  clear hN
  obtain ⟨W0, hW0⟩ : ∃ W0, w.alloc (.cells #[.string x, .int .i64 len, .int .i64 spd, .int .i64 ac, .int .i64 bk] 23) = W0 := ⟨_, rfl⟩
  rw [hW0] at HX HB0 HSZ hx0 hx1 hx2 hx3 hx4
  go_enter Try.func36, Try.ntmps36
  go_upto_region 2 with fail
  have hR : Row (W0.alloc (.cells (madeCells #[.int .i64 0] N) 3)) W0.heap.size N (fun _ => 0) := Row.made W0 N
  have hsz0 := HSZ.out
  obtain ⟨g, hg⟩ : ∃ g, W0.heap.size = g := ⟨_, rfl⟩
  rw [hg] at hR hsz0 ⊢
  have hb1 : Below w.heap.size w (W0.alloc (.cells (madeCells #[.int .i64 0] N) 3)) := HB0.out.alloc (by omega) _
  have hB : Bx (W0.alloc (.cells (madeCells #[.int .i64 0] N) 3)) w.heap.size x ⟨len, spd, ac, bk⟩ := HX.out.below ((Below.refl g W0).alloc (by omega) _) (by omega)
  clear hx0 hx1 hx2 hx3 hx4
  clear hW0 HX HB0 HSZ hmk
  generalize W0.alloc (.cells (madeCells #[.int .i64 0] N) 3) = W1 at *
  clear hg W0
  have hg1 : w.heap.size < g := by omega
  clear hsz0
  obtain ⟨hx0, hx1, hx2, hx3, hx4⟩ := hB.cells
  have hz1 := hb1.size
  have hgl := hR.lt
  have HL : Hid (∀ (w' : World) (k : Nat), Below w.heap.size w w' → k < n → Calls Try.prog 49 #[.slice A n c, .int .i64 k, .agg #[.string x, .int .i64 len, .int .i64 spd, .int .i64 ac, .int .i64 bk]] w' (IntPost (lim L ⟨len, spd, ac, bk⟩ k) w')) := fun w' k hb hk => p_limit A n c k L x ⟨len, spd, ac, bk⟩ w' (H.out.lim hb hk)
  have HR := Lib.hid hR
  have HB := Lib.hid hB
  have HB1 := Lib.hid hb1
  clear hR hB hb1
  go_wp2_with (go_at_call 49; refine (HL.out _ _ HB1.out (by omega)).mono ?_; rintro e w2 ⟨rfl, hb2⟩; have HB2 := Lib.hid hb2; clear hb2)
  go_loopw [8, 9] (fun v b wr => ∃ i : Nat, 1 ≤ i ∧ i ≤ m ∧ v = .int .i64 (lim L ⟨len, spd, ac, bk⟩ (st + i - 1)) ∧ b = .int .i64 ((st : Int) + i) ∧ Hid (Row wr g N (fun j => if j < i then base L ⟨len, spd, ac, bk⟩ st m j else 0)) ∧ Hid (Bx wr w.heap.size x ⟨len, spd, ac, bk⟩) ∧ Hid (Below w.heap.size w wr)) (fun _ b _ => n - (intOf b).toNat)
  case atStart =>
    refine ⟨1, Nat.le_refl _, by omega, rfl, rfl, ?_, HB.out.below HB2.out (by omega), HB1.out.trans (HB2.out.mono (by omega))⟩
    refine (HR.out.below HB2.out (by omega)).congr fun j hj => ?_
    by_cases h0 : j < 1
    · rw [if_pos h0, base_zero (by omega)]
    · rw [if_neg h0]
  case round =>
    obtain ⟨i, hi1, him, rfl, rfl, hRow, hBox, hbw⟩ := hrel
    obtain ⟨y0, y1, y2, y3, y4⟩ := hBox.out.cells
    have hz := hbw.out.size
    have hgl2 := hRow.out.lt
    have hla := lim_bounds (k := st + i - 1) H.out.hs H.out.hc (by omega)
    by_cases hlt : i < m
    · have hlb := lim_bounds (k := st + i) H.out.hs H.out.hc (by omega)
      have HLi := HL.out wr (st + i) hbw.out (by omega)
      simp only [Int.natCast_add] at HLi
      have HLi := Lib.hid HLi
      have HBA := Lib.hid (base_at (L := L) (s := ⟨len, spd, ac, bk⟩) (st := st) hi1 hlt)
      obtain ⟨a, ha⟩ : ∃ a, lim L ⟨len, spd, ac, bk⟩ (st + i - 1) = a := ⟨_, rfl⟩
      obtain ⟨b, hb⟩ : ∃ b, lim L ⟨len, spd, ac, bk⟩ (st + i) = b := ⟨_, rfl⟩
      have HLB := Lib.hid hb
      rw [ha, hb] at HBA
      rw [ha] at hla ⊢
      rw [hb] at hlb HLi
      have qa : 0 ≤ a * a ∧ a * a ≤ 10000000000 := ⟨Int.mul_nonneg (by omega) (by omega), by have := sqr_mono (show (0:Int) ≤ a by omega) hla.2; omega⟩
      have qb : 0 ≤ b * b ∧ b * b ≤ 10000000000 := ⟨Int.mul_nonneg (by omega) (by omega), by have := sqr_mono (show (0:Int) ≤ b by omega) hlb.2; omega⟩
      clear ha hb
      have e3 : (st : Int) + i - st = i := by omega
      have e4 : Hid (∀ w3 : World, Below wr.heap.size wr w3 → w3.cell? ⟨g, i, none⟩ = some (.int .i64 0) ∧ w3.frozen? ⟨g, i, none⟩ = false) := fun w3 hb3 => by
        have := hRow.out.below hb3 hgl2
        refine ⟨?_, this.frozen i⟩
        have h2 := this.cell (i := i) (by omega)
        rwa [if_neg (by omega)] at h2
      by_cases hab : a ≤ b
      · have HV : Hid (base L ⟨len, spd, ac, bk⟩ st m i = a * a) := by rw [Hid, HBA.out, Int.min_eq_left hab]
        go_wp2_with (go_at_call 49; refine (HLi.out).mono ?_; rintro e w3 ⟨rfl, hb3⟩; obtain ⟨f1, f2⟩ := e4.out w3 hb3; have HB3 := Lib.hid hb3; clear hb3)
        all_goals go_roundw
        case rel =>
          have r3 := (hRow.out.below HB3.out hgl2).set_ i (a * a)
          have b3 := HB3.out
          have z3 := b3.size
          refine ⟨i + 1, by omega, by omega, by rw [← Nat.add_assoc, Nat.add_sub_cancel, HLB.out], by congr 1, r3.congr fun j hj => ?_, ?_, ?_⟩
          · by_cases e : j = i
            · subst e; rw [if_pos rfl, if_pos (by omega), HV.out]
            · rw [if_neg e]
              by_cases e2 : j < i
              · rw [if_pos e2, if_pos (by omega)]
              · rw [if_neg e2, if_neg (by omega)]
          · exact (hBox.out.below b3 (by omega)).below ((Below.refl g w3).setCell (by simp) _) hg1
          · exact (hbw.out.trans (b3.mono hz)).setCell (by simp only; omega) _
        case measure => simp [intOf]; omega
      · have HV : Hid (base L ⟨len, spd, ac, bk⟩ st m i = b * b) := by rw [Hid, HBA.out, Int.min_eq_right (by omega)]
        go_wp2_with (go_at_call 49; refine (HLi.out).mono ?_; rintro e w3 ⟨rfl, hb3⟩; obtain ⟨f1, f2⟩ := e4.out w3 hb3; have HB3 := Lib.hid hb3; clear hb3)
        all_goals go_roundw
        case rel =>
          have r3 := (hRow.out.below HB3.out hgl2).set_ i (b * b)
          have b3 := HB3.out
          have z3 := b3.size
          refine ⟨i + 1, by omega, by omega, by rw [← Nat.add_assoc, Nat.add_sub_cancel, HLB.out], by congr 1, r3.congr fun j hj => ?_, ?_, ?_⟩
          · by_cases e : j = i
            · subst e; rw [if_pos rfl, if_pos (by omega), HV.out]
            · rw [if_neg e]
              by_cases e2 : j < i
              · rw [if_pos e2, if_pos (by omega)]
              · rw [if_neg e2, if_neg (by omega)]
          · exact (hBox.out.below b3 (by omega)).below ((Below.refl g w3).setCell (by simp) _) hg1
          · exact (hbw.out.trans (b3.mono hz)).setCell (by simp only; omega) _
        case measure => simp [intOf]; omega
    · obtain rfl : i = m := by omega
      have HF : Hid (Row wr g N (base L ⟨len, spd, ac, bk⟩ st i)) := hRow.out.congr fun j hj => by
        by_cases h0 : j < i
        · rw [if_pos h0]
        · rw [if_neg h0, base_zero (by omega)]
      go_wp2
      all_goals go_ret
      all_goals exact ⟨g, rfl, by omega, HF.out, hbw.out⟩

end Go.Proofs.Ytglcimahdgnnnaa.PPer
