/-
  Contract of the document's own answer: speeds.
-/
import Derived.Test.YtglcimahdgnnnaaRLim
import Derived.Test.YtglcimahdgnnnaaMan
import Derived.Deep.RegionHeld3
namespace Go.Proofs.Ytglcimahdgnnnaa.RSpd
open Go.ChangeShapes Go.WideShapes Go.ChangeAt Go.RowKit Dyn Mem Src PSm PChk PLim PPer PSpd PTim RSm RLim Man
set_option linter.unusedVariables false

/-- what stands in memory while the document's squares are made: the stock in its block, the squares in block g -/
structure R6 (w : World) (wr : World) (g N : Nat) (x : ByteArray) (s : Stk) (f : Nat → Int) : Prop where
  box : Bx wr w.heap.size x s
  row : Row wr g N f
  below : Below w.heap.size w wr
  hg : w.heap.size < g
section
variable {w wr w' : World} {g N : Nat} {x : ByteArray} {s : Stk} {f f' : Nat → Int}
theorem R6.glt (h : R6 w wr g N x s f) : g < wr.heap.size := h.row.lt
theorem R6.size (h : R6 w wr g N x s f) : w.heap.size < wr.heap.size := h.box.lt
theorem R6.keep (h : R6 w wr g N x s f) (hb : Below wr.heap.size wr w') : R6 w w' g N x s f :=
  ⟨h.box.below hb h.size, h.row.below hb h.glt, h.below.trans (hb.mono (Nat.le_of_lt h.size)), h.hg⟩
theorem R6.congr (h : R6 w wr g N x s f) (e : ∀ i : Nat, i < N → f i = f' i) : R6 w wr g N x s f' := ⟨h.box, h.row.congr e, h.below, h.hg⟩
theorem R6.put (h : R6 w wr g N x s f) (i : Nat) (b : Int) : R6 w (wr.setCell ⟨g, i, none⟩ (.int .i64 b)) g N x s (fun j => if j = i then b else f j) :=
  ⟨(Below.heap_setCell wr ⟨g, i, none⟩ _ _ (by have := h.hg; simp only; omega)).trans h.box, h.row.set_ i b, h.below.setCell (by have := h.hg; simp only; omega) _, h.hg⟩
theorem R6.rowCell (h : R6 w wr g N x s f) {i : Nat} (hi : i < N) : wr.cell? ⟨g, i, none⟩ = some (.int .i64 (f i)) := h.row.cell hi
theorem R6.free (h : R6 w wr g N x s f) (i : Nat) : wr.frozen? ⟨g, i, none⟩ = false := h.row.frozen i
end

set_option maxRecDepth 100000 in
set_option maxHeartbeats 2000000 in
theorem r_speeds_no (A : Option Addr) (n c : Nat) (L : List Cel) (st : Int) (x : ByteArray) (s : Stk) (w : World) (h : AnyArgs w A n c st L s) (he : err L st s ≠ 0) :
    Calls Try.prog 28 #[.slice A n c, .int .i64 st, stk x s] w (TupErr (err L st s) w) := by
  have HC := Lib.hid (fun w' (hb : Below w.heap.size w w') => r_bad A n c L st x s w' ((h.rd.below hb).more hb.size) (by have := h.nc; have := h.cb; omega) h.hst)
  have hb0 : Below w.heap.size w (w.alloc (.cells #[.string x, .int .i64 s.len, .int .i64 s.spd, .int .i64 s.acc, .int .i64 s.brk] 23)) := (Below.refl _ _).alloc (Nat.le_refl _) _
  obtain ⟨hx0, hx1, hx2, hx3, hx4⟩ := (Bx.new w x s).cells
  clear h
  obtain ⟨len, spd, ac, bk⟩ := s
  simp only [stk] at *
  generalize err L st ⟨len, spd, ac, bk⟩ = er at *
  go_enter Try.func28, Try.ntmps28
  go_wp2_with (go_at_call 41; refine (HC.out _ hb0).mono ?_; rintro e w2 ⟨rfl, hb2⟩)
  all_goals go_ret2
  all_goals exact ⟨rfl, hb0.trans (hb2.mono hb0.size)⟩

set_option maxRecDepth 100000 in
set_option maxHeartbeats 40000000 in
theorem r_speeds (A : Option Addr) (n c st m : Nat) (L : List Cel) (x : ByteArray) (s : Stk) (w : World) (h : RunArgs w A n c st L s) (hm : n = st + m) :
    Calls Try.prog 28 #[.slice A n c, .int .i64 st, stk x s] w (TupRow (m + 1) (vel L s st m) w) := by
  have hlen := h.rd.1
  have h4 := h.n4
  have hkn := h.kn
  have hm2 := hm
  have HC := Lib.hid (fun w' (hb : Below w.heap.size w w') => r_bad A n c L st x s w' ((h.rd.below hb).more hb.size) (by have := h.nc; have := h.cb; omega) (by omega))
  rw [RunArgs.err h] at HC
  have HLI := Lib.hid (fun w' k (hb : Below w.heap.size w w') (hk : k < n) => r_limit A n c k L x s w' (h.lim hb hk))
  have hb0 : Below w.heap.size w (w.alloc (.cells #[.string x, .int .i64 s.len, .int .i64 s.spd, .int .i64 s.acc, .int .i64 s.brk] 23)) := (Below.refl _ _).alloc (Nat.le_refl _) _
  have hbx := Bx.new w x s
  have hmk := run_make_row' (P := Try.prog) 24 3 (.int .i64 0) 8 Try.underlying24 infoI rfl .i64 .i64 (m + 1) (by omega) (by omega)
  obtain ⟨hx0, hx1, hx2, hx3, hx4⟩ := hbx.cells
  have HX := Lib.hid hbx
  have H := Lib.hid h
  clear h hm hbx
  obtain ⟨len, spd, ac, bk⟩ := s
  simp only [stk] at *
  obtain ⟨N, hN⟩ : ∃ N, m + 1 = N := ⟨_, rfl⟩
  rw [hN] at hmk ⊢
  have hN4 : N ≤ 4001 := by omega
  have hN1 : m < N := by omega
  have hN2 : N ≤ m + 1 := by omega
  have e1 : (n : Int) - st = (m : Int) := by omega
  have e2 : (m : Int) + 1 = (N : Int) := by omega
  have HM := Lib.hid hm2
  have h5 : st + m ≤ n := by omega
  have h6 : n ≤ st + m := by omega
  have HNN := Lib.hid hN
  clear hN hm2
  obtain ⟨W0, hW0⟩ : ∃ W0, w.alloc (.cells #[.string x, .int .i64 len, .int .i64 spd, .int .i64 ac, .int .i64 bk] 23) = W0 := ⟨_, rfl⟩
  rw [hW0] at HX hb0 hx0 hx1 hx2 hx3 hx4
  have HB0 := Lib.hid hb0
  clear hb0
  go_enter Try.func28, Try.ntmps28
  go_upto_region 6 with (go_at_call 41; refine (HC.out _ HB0.out).mono ?_; rintro e w2 ⟨rfl, hb2⟩; have HX2 := Lib.hid (HX.out.below hb2 HX.out.lt); have HB2 := Lib.hid (HB0.out.trans (hb2.mono HB0.out.size)); clear hb2)
  have HR : Hid (R6 w (w2.alloc (.cells (madeCells #[.int .i64 0] N) 3)) w2.heap.size N x ⟨len, spd, ac, bk⟩ (fun _ => 0)) :=
    ⟨HX2.out.below ((Below.refl _ _).alloc (Nat.le_refl _) _) HX2.out.lt, Row.made w2 N, HB2.out.alloc HB2.out.size _, HX2.out.lt⟩
  have hgw := HX2.out.lt
  generalize w2.alloc (.cells (madeCells #[.int .i64 0] N) 3) = W4 at *
  generalize w2.heap.size = g at *
  clear hx0 hx1 hx2 hx3 hx4 HX HX2 HB0 HB2 HC hmk hW0
  go_wp2
  go_loopw [11] (fun b wr => ∃ i : Nat, 1 ≤ i ∧ i ≤ m ∧ b = .int .i64 i ∧ Hid (R6 w wr g N x ⟨len, spd, ac, bk⟩ (fun j => if j < i then base L ⟨len, spd, ac, bk⟩ st m j else 0))) (fun b _ => m - (intOf b).toNat)
  case atStart =>
    refine ⟨1, Nat.le_refl _, by omega, rfl, HR.out.congr fun j hj => ?_⟩
    by_cases h0 : j < 1
    · rw [if_pos h0, base_zero (by omega)]
    · rw [if_neg h0]
  case round =>
    obtain ⟨i, hi1, him, rfl, hR⟩ := hrel
    by_cases hlt : i < m
    · have hla := lim_bounds (k := st + i - 1) H.out.hs H.out.hc (by omega)
      have hlb := lim_bounds (k := st + i) H.out.hs H.out.hc (by omega)
      have hbw := hR.out.below
      have HLA := Lib.hid (fun w' (hb : Below wr.heap.size wr w') => HLI.out w' (st + i - 1) (hbw.trans (hb.mono hbw.size)) (by omega))
      have HLB := Lib.hid (fun w' (hb : Below wr.heap.size wr w') => HLI.out w' (st + i) (hbw.trans (hb.mono hbw.size)) (by omega))
      have E := Lib.hid (base_at (L := L) (s := ⟨len, spd, ac, bk⟩) (st := st) hi1 hlt)
      obtain ⟨a, ha⟩ : ∃ a, lim L ⟨len, spd, ac, bk⟩ (st + i - 1) = a := ⟨_, rfl⟩
      obtain ⟨b, hb⟩ : ∃ b, lim L ⟨len, spd, ac, bk⟩ (st + i) = b := ⟨_, rfl⟩
      rw [ha, hb] at E
      rw [ha] at hla HLA
      rw [hb] at hlb HLB
      clear ha hb
      obtain ⟨k, hk⟩ : ∃ k, st + i = k := ⟨_, rfl⟩
      obtain ⟨k1, hk1⟩ : ∃ k1, st + i - 1 = k1 := ⟨_, rfl⟩
      rw [hk] at HLB
      rw [hk1] at HLA
      have f1 : (st : Int) + i = (k : Int) := by omega
      have f2 : (k : Int) - 1 = (k1 : Int) := by omega
      have hkn2 : k ≤ 4000 := by omega
      clear hk hk1
      have s0 : IntKind.i64.wrap ((st : Int) + i) = (k : Int) := by rw [f1]; exact IntWalk.i64_in _ (by omega)
      have s1 : IntKind.i64.wrap ((k : Int) - 1) = (k1 : Int) := by rw [f2]; exact IntWalk.i64_in _ (by omega)
      have s2 : IntKind.i64.wrap (k : Int) = (k : Int) := IntWalk.i64_in _ (by omega)
      have s3 : IntKind.i64.wrap (k1 : Int) = (k1 : Int) := IntWalk.i64_in _ (by omega)
      obtain ⟨x0, x1, x2, x3, x4⟩ := hR.out.box.cells
      have hwl := hR.out.size
      have HK : Hid (∀ w' : World, Below wr.heap.size wr w' → (w'.cell? ⟨w.heap.size, 0, none⟩ = some (.string x) ∧ w'.cell? ⟨w.heap.size, 1, none⟩ = some (.int .i64 len) ∧ w'.cell? ⟨w.heap.size, 2, none⟩ = some (.int .i64 spd) ∧ w'.cell? ⟨w.heap.size, 3, none⟩ = some (.int .i64 ac) ∧ w'.cell? ⟨w.heap.size, 4, none⟩ = some (.int .i64 bk))) := fun w' hb =>
        ⟨(hb.cell (p := ⟨w.heap.size, 0, none⟩) hwl).trans x0, (hb.cell (p := ⟨w.heap.size, 1, none⟩) hwl).trans x1, (hb.cell (p := ⟨w.heap.size, 2, none⟩) hwl).trans x2, (hb.cell (p := ⟨w.heap.size, 3, none⟩) hwl).trans x3, (hb.cell (p := ⟨w.heap.size, 4, none⟩) hwl).trans x4⟩
      have hb0 := Below.refl wr.heap.size wr
      go_upto_region 9 with fail
      go_region_held3 (fun w' => (w'.cell? ⟨w.heap.size, 0, none⟩ = some (.string x) ∧ w'.cell? ⟨w.heap.size, 1, none⟩ = some (.int .i64 len) ∧ w'.cell? ⟨w.heap.size, 2, none⟩ = some (.int .i64 spd) ∧ w'.cell? ⟨w.heap.size, 3, none⟩ = some (.int .i64 ac) ∧ w'.cell? ⟨w.heap.size, 4, none⟩ = some (.int .i64 bk)))
        (first | exact HK.out _ hb0.drew | exact HK.out _ (hb0.drew.trans hbv) | exact HK.out _ ((hb0.drew.trans hbv).trans hbu))
        ((first
          | (go_at_call 42; (with_reducible refine (HLA.out _ hb0.drew).mono ?_); rintro e wv ⟨rfl, hwv⟩; have hbv : Below wr.heap.size wr.drew wv := hwv)
          | (go_at_call 42; (with_reducible refine (HLB.out _ hb0.drew).mono ?_); rintro e wv ⟨rfl, hwv⟩; have hbv : Below wr.heap.size wr.drew wv := hwv)
          | (go_at_call 42; (with_reducible refine (HLA.out _ (hb0.drew.trans hbv)).mono ?_); rintro e wu ⟨rfl, hwu⟩; have hbu : Below wr.heap.size wv wu := hwu.mono hbv.size)
          | (go_at_call 42; (with_reducible refine (HLB.out _ (hb0.drew.trans hbv)).mono ?_); rintro e wu ⟨rfl, hwu⟩; have hbu : Below wr.heap.size wv wu := hwu.mono hbv.size)))
      all_goals
        have HRu := Lib.hid (hR.out.keep ((hb0.drew.trans hbv).trans hbu))
        have c0 := HRu.out.rowCell (i := i) (by omega)
        have c1 := HRu.out.free i
        rw [if_neg (by omega)] at c0
        obtain ⟨v, hv⟩ : ∃ v, (if b < a then b else a) = v := ⟨_, rfl⟩
        have hvm : v = min a b := by rw [← hv]; split <;> omega
        have hv0 : 0 ≤ v ∧ v ≤ 100000 := by omega
        have qv : 0 ≤ v * v ∧ v * v ≤ 10000000000 := ⟨Int.mul_nonneg (by omega) (by omega), by have := sqr_mono hv0.1 hv0.2; omega⟩
        have E5 : Hid (base L ⟨len, spd, ac, bk⟩ st m i = v * v) := by rw [Hid, E.out, hvm]
        rw [hv]
        clear hv hvm hR hla hlb HLA HLB x0 x1 x2 x3 x4 hbv hbu E s0 s1 s2 s3 f1 f2
        go_wp2
        go_roundw
        case rel =>
          refine ⟨i + 1, by omega, by omega, by go_num, (HRu.out.put i (v * v)).congr fun j hj => ?_⟩
          by_cases e : j = i
          · subst e; rw [if_pos rfl, if_pos (by omega), E5.out]
          · rw [if_neg e]
            by_cases e2 : j < i
            · rw [if_pos e2, if_pos (by omega)]
            · rw [if_neg e2, if_neg (by omega)]
        case measure => simp [intOf]; omega
    · obtain rfl : i = m := by omega
      have HB2 : Hid (R6 w wr g N x ⟨len, spd, ac, bk⟩ (fun j => if j ≤ 0 then forw L ⟨len, spd, ac, bk⟩ st i j else base L ⟨len, spd, ac, bk⟩ st i j)) := hR.out.congr fun j hj => by
        by_cases e : j < i
        · rw [if_pos e]
          by_cases e2 : j ≤ 0
          · obtain rfl : j = 0 := by omega
            rw [if_pos e2, forw_zero, base_zero (by omega)]
          · rw [if_neg e2]
        · rw [if_neg e, if_neg (by omega), base_zero (by omega)]
      clear hR HR
      go_wp2
      go_loopw [13] (fun b wr => ∃ k : Nat, k ≤ i ∧ b = .int .i64 k ∧ Hid (R6 w wr g N x ⟨len, spd, ac, bk⟩ (fun j => if j ≤ k then forw L ⟨len, spd, ac, bk⟩ st i j else base L ⟨len, spd, ac, bk⟩ st i j))) (fun b _ => i - (intOf b).toNat)
      case atStart => exact ⟨0, Nat.zero_le _, rfl, HB2⟩
      case round =>
        obtain ⟨k, hk, rfl, hR⟩ := hrel
        by_cases hlt : k < i
        · obtain ⟨k', hk'⟩ : ∃ k', k + 1 = k' := ⟨_, rfl⟩
          have hbw := hR.out.below
          obtain ⟨ad, z, rfl, hab, hz, d0, d1⟩ := loadCel (H.out.rd.below hbw) (show st + k < n by omega)
          have hok : okCel z = true := List.all_eq_true.1 H.out.hc _ (List.mem_of_getElem? hz)
          obtain ⟨x0, x1, x2, x3, x4⟩ := hR.out.box.cells
          have hwl := hR.out.size
          have hgl := hR.out.glt
          have r0 := hR.out.rowCell (i := k) (by omega)
          have r1 := hR.out.rowCell (i := k') (by omega)
          have f1 := hR.out.free k'
          rw [if_pos (Nat.le_refl k)] at r0
          rw [if_neg (by omega)] at r1
          have E := Lib.hid (forw_succ L ⟨len, spd, ac, bk⟩ st i k)
          rw [cel_eq hz, hk'] at E
          have hbb := base_all (b := k') H.out.hs H.out.hc (show st + i ≤ L.length by omega)
          have hvv := forw_bounds H.out.hs H.out.hc (show st + i ≤ L.length by omega) k
          have haa := acc_bounds (c := z) H.out.hs
          have hlim : acc z ⟨len, spd, ac, bk⟩ ≤ 2000 := by have := (okStk_iff.1 H.out.hs).2.2.2.2.2.1; simp only at this haa; omega
          obtain ⟨B, hB⟩ : ∃ B, base L ⟨len, spd, ac, bk⟩ st i k' = B := ⟨_, rfl⟩
          obtain ⟨V, hV⟩ : ∃ V, forw L ⟨len, spd, ac, bk⟩ st i k = V := ⟨_, rfl⟩
          obtain ⟨C, hC⟩ : ∃ C, acc z ⟨len, spd, ac, bk⟩ = C := ⟨_, rfl⟩
          have HA := Lib.hid (fun w' => r_acc z x ⟨len, spd, ac, bk⟩ w' hok H.out.hs)
          simp only [stk] at HA
          rw [hB] at hbb r1 E
          rw [hV] at hvv r0 E
          rw [hC] at haa hlim HA E
          have hv0 : 0 ≤ V := hvv.1
          have hv1 : V ≤ 10000000000 := hvv.2.1
          have HR := Lib.hid hR.out
          have HKK := Lib.hid hk'
          obtain ⟨sk, hsk⟩ : ∃ sk, st + k = sk := ⟨_, rfl⟩
          rw [hsk] at d0 d1
          have g0 : (st : Int) + k = (sk : Int) := by omega
          have hskn : sk < n := by omega
          have e5 : (k : Int) + 1 = (k' : Int) := by omega
          have s0 : IntKind.i64.wrap ((k : Int) + 1) = (k' : Int) := by rw [e5]; exact IntWalk.i64_in _ (by omega)
          have s1 : IntKind.i64.wrap (k' : Int) = (k' : Int) := IntWalk.i64_in _ (by omega)
          have s2 : IntKind.i64.wrap (20000 * C) = 20000 * C := IntWalk.i64_in _ (by omega)
          have s3 : IntKind.i64.wrap (V + 20000 * C) = V + 20000 * C := IntWalk.i64_in _ (by omega)
          have s4 : IntKind.i64.wrap ((st : Int) + k) = (sk : Int) := by rw [g0]; exact IntWalk.i64_in _ (by omega)
          have s7 : IntKind.i64.wrap (sk : Int) = (sk : Int) := IntWalk.i64_in _ (by omega)
          have j0 : (0 : Int) ≤ (k' : Int) := by omega
          have j1 : (k' : Int) < (N : Int) := by omega
          have i0 : k < N := by omega
          have i1 : k' < N := by omega
          have j2 : (0 : Int) ≤ (sk : Int) := by omega
          have j3 : (sk : Int) < (n : Int) := by omega
          have hadg : ad.block ≠ g := fun e => by have := hR.out.hg; omega
          clear hB hV hC hz hk' hsk hvv
          have habl : ad.block < wr.heap.size := by have := hab; omega
          have HK : Hid (∀ w' : World, Below wr.heap.size wr w' → (w'.cell? ⟨g, k, none⟩ = some (.int .i64 V) ∧ w'.cell? (ad.add (sk * 2)) = some (.int .i64 z.lim) ∧ w'.cell? ⟨(ad.add (sk * 2)).block, (ad.add (sk * 2)).off + 1, none⟩ = some (.int .i64 z.gr) ∧ w'.cell? ⟨w.heap.size, 0, none⟩ = some (.string x) ∧ w'.cell? ⟨w.heap.size, 1, none⟩ = some (.int .i64 len) ∧ w'.cell? ⟨w.heap.size, 2, none⟩ = some (.int .i64 spd) ∧ w'.cell? ⟨w.heap.size, 3, none⟩ = some (.int .i64 ac) ∧ w'.cell? ⟨w.heap.size, 4, none⟩ = some (.int .i64 bk))) := fun w' hb =>
            ⟨(hb.cell (p := ⟨g, k, none⟩) hgl).trans r0, (hb.cell (by rw [Mem.block_add]; exact habl)).trans d0, (hb.cell (p := ⟨(ad.add (sk * 2)).block, (ad.add (sk * 2)).off + 1, none⟩) (by rw [Mem.block_add]; exact habl)).trans d1,
              (hb.cell (p := ⟨w.heap.size, 0, none⟩) hwl).trans x0, (hb.cell (p := ⟨w.heap.size, 1, none⟩) hwl).trans x1, (hb.cell (p := ⟨w.heap.size, 2, none⟩) hwl).trans x2, (hb.cell (p := ⟨w.heap.size, 3, none⟩) hwl).trans x3, (hb.cell (p := ⟨w.heap.size, 4, none⟩) hwl).trans x4⟩
          have HK2 : Hid (∀ (w' : World) (v : Value), (w'.cell? ⟨g, k, none⟩ = some (.int .i64 V) ∧ w'.cell? (ad.add (sk * 2)) = some (.int .i64 z.lim) ∧ w'.cell? ⟨(ad.add (sk * 2)).block, (ad.add (sk * 2)).off + 1, none⟩ = some (.int .i64 z.gr) ∧ w'.cell? ⟨w.heap.size, 0, none⟩ = some (.string x) ∧ w'.cell? ⟨w.heap.size, 1, none⟩ = some (.int .i64 len) ∧ w'.cell? ⟨w.heap.size, 2, none⟩ = some (.int .i64 spd) ∧ w'.cell? ⟨w.heap.size, 3, none⟩ = some (.int .i64 ac) ∧ w'.cell? ⟨w.heap.size, 4, none⟩ = some (.int .i64 bk)) → ((w'.setCell ⟨g, k', none⟩ v).cell? ⟨g, k, none⟩ = some (.int .i64 V) ∧ (w'.setCell ⟨g, k', none⟩ v).cell? (ad.add (sk * 2)) = some (.int .i64 z.lim) ∧ (w'.setCell ⟨g, k', none⟩ v).cell? ⟨(ad.add (sk * 2)).block, (ad.add (sk * 2)).off + 1, none⟩ = some (.int .i64 z.gr) ∧ (w'.setCell ⟨g, k', none⟩ v).cell? ⟨w.heap.size, 0, none⟩ = some (.string x) ∧ (w'.setCell ⟨g, k', none⟩ v).cell? ⟨w.heap.size, 1, none⟩ = some (.int .i64 len) ∧ (w'.setCell ⟨g, k', none⟩ v).cell? ⟨w.heap.size, 2, none⟩ = some (.int .i64 spd) ∧ (w'.setCell ⟨g, k', none⟩ v).cell? ⟨w.heap.size, 3, none⟩ = some (.int .i64 ac) ∧ (w'.setCell ⟨g, k', none⟩ v).cell? ⟨w.heap.size, 4, none⟩ = some (.int .i64 bk))) := fun w' v ⟨c0, c1, c2, c3, c4, c5, c6, c7⟩ => by
            have hk' := HKK.out
            have hgw := HR.out.hg
            have far : ∀ a : Addr, a.block ≠ g ∨ a.off ≠ k' → (w'.setCell ⟨g, k', none⟩ v).cell? a = w'.cell? a := fun a ha => World.cell?_setCell_other _ _ _ _ (fun e => by rw [← e] at ha; rcases ha with h | h <;> exact h rfl)
            exact ⟨(far _ (.inr (by simp only; omega))).trans c0, (far _ (.inl (by rw [Mem.block_add]; exact hadg))).trans c1, (far _ (.inl (by rw [Mem.block_add]; exact hadg))).trans c2,
              (far _ (.inl (by simp only; omega))).trans c3, (far _ (.inl (by simp only; omega))).trans c4, (far _ (.inl (by simp only; omega))).trans c5, (far _ (.inl (by simp only; omega))).trans c6, (far _ (.inl (by simp only; omega))).trans c7⟩
          have hb0 := Below.refl wr.heap.size wr
          clear hR d0 d1 hab hbw
          go_upto_region 14 with fail
          refine wp_region_noPanic ?_
          refine wp_region_held_drew (S := fun w' => (w'.cell? ⟨g, k, none⟩ = some (.int .i64 V) ∧ w'.cell? (ad.add (sk * 2)) = some (.int .i64 z.lim) ∧ w'.cell? ⟨(ad.add (sk * 2)).block, (ad.add (sk * 2)).off + 1, none⟩ = some (.int .i64 z.gr) ∧ w'.cell? ⟨w.heap.size, 0, none⟩ = some (.string x) ∧ w'.cell? ⟨w.heap.size, 1, none⟩ = some (.int .i64 len) ∧ w'.cell? ⟨w.heap.size, 2, none⟩ = some (.int .i64 spd) ∧ w'.cell? ⟨w.heap.size, 3, none⟩ = some (.int .i64 ac) ∧ w'.cell? ⟨w.heap.size, 4, none⟩ = some (.int .i64 bk))) (by kernel_rfl) (HK.out _ hb0.drew) (fun hHeld => ?_)
          have r1d : wr.drew.cell? ⟨g, k', none⟩ = some (.int .i64 B) := r1
          refine take_yes 0 (some 60) (v := ?v0_1) rfl rfl (by kernel_rfl) (by kernel_rfl) (by kernel_rfl) (fun _ _ _ h => h) (by kernel_rfl) ?h0_1 (by assumption) ?_
          case h0_1 =>
            intro w hSw
            (try dsimp only at hSw)
            (try go_split_ands)
            go_simp
            try with_reducible rfl
          (try simp only [Act.put, List.setIfInBounds_toArray, List.set_cons_zero, List.set_cons_succ])
          refine take_yes 1 (some 61) (v := ?v1_2) rfl rfl (by kernel_rfl) (by kernel_rfl) (by kernel_rfl) (fun _ _ _ h => h) (by kernel_rfl) ?h1_2 (by assumption) ?_
          case h1_2 =>
            intro w hSw
            (try dsimp only at hSw)
            (try go_split_ands)
            go_simp
            try with_reducible rfl
          (try simp only [Act.put, List.setIfInBounds_toArray, List.set_cons_zero, List.set_cons_succ])
          refine take_yes 2 (some 62) (v := ?v2_3) rfl rfl (by kernel_rfl) (by kernel_rfl) (by kernel_rfl) (fun _ _ _ h => h) (by kernel_rfl) ?h2_3 (by assumption) ?_
          case h2_3 =>
            intro w hSw
            (try dsimp only at hSw)
            (try go_split_ands)
            go_simp
            try with_reducible rfl
          (try simp only [Act.put, List.setIfInBounds_toArray, List.set_cons_zero, List.set_cons_succ])
          refine take_yes 3 (some 63) (v := ?v3_4) rfl rfl (by kernel_rfl) (by kernel_rfl) (by kernel_rfl) (fun _ _ _ h => h) (by kernel_rfl) ?h3_4 (by assumption) ?_
          case h3_4 =>
            intro w hSw
            (try dsimp only at hSw)
            (try go_split_ands)
            go_simp
            try with_reducible rfl
          (try simp only [Act.put, List.setIfInBounds_toArray, List.set_cons_zero, List.set_cons_succ])
          refine take_yes 4 (some 64) (v := ?v4_5) rfl rfl (by kernel_rfl) (by kernel_rfl) (by kernel_rfl) (fun _ _ _ h => h) (by kernel_rfl) ?h4_5 (by assumption) ?_
          case h4_5 =>
            intro w hSw
            (try dsimp only at hSw)
            (try go_split_ands)
            go_simp
            try with_reducible rfl
          (try simp only [Act.put, List.setIfInBounds_toArray, List.set_cons_zero, List.set_cons_succ])
          refine take_yes 5 (some 65) (v := ?v5_6) rfl rfl (by kernel_rfl) (by kernel_rfl) (by kernel_rfl) (fun _ _ _ h => h) (by kernel_rfl) ?h5_6 (by assumption) ?_
          case h5_6 =>
            intro w hSw
            (try dsimp only at hSw)
            (try go_split_ands)
            go_simp
            try with_reducible rfl
          (try simp only [Act.put, List.setIfInBounds_toArray, List.set_cons_zero, List.set_cons_succ])
          refine take_yes 6 (some 66) (v := ?v6_7) rfl rfl (by kernel_rfl) (by kernel_rfl) (by kernel_rfl) (fun _ _ _ h => h) (by kernel_rfl) ?h6_7 (by assumption) ?_
          case h6_7 =>
            intro w hSw
            (try dsimp only at hSw)
            (try go_split_ands)
            go_simp
            try with_reducible rfl
          (try simp only [Act.put, List.setIfInBounds_toArray, List.set_cons_zero, List.set_cons_succ])
          refine take_yes 8 (some 68) (v := ?v8_8) rfl rfl (by kernel_rfl) (by kernel_rfl) (by kernel_rfl) (fun _ _ _ h => h) (by kernel_rfl) ?h8_8 (by assumption) ?_
          case h8_8 =>
            intro w hSw
            (try dsimp only at hSw)
            (try go_split_ands)
            go_simp
            try with_reducible rfl
          (try simp only [Act.put, List.setIfInBounds_toArray, List.set_cons_zero, List.set_cons_succ])
          refine take_yes 9 (some 69) (v := ?v9_9) rfl rfl (by kernel_rfl) (by kernel_rfl) (by kernel_rfl) (fun _ _ _ h => h) (by kernel_rfl) ?h9_9 (by assumption) ?_
          case h9_9 =>
            intro w hSw
            (try dsimp only at hSw)
            (try go_split_ands)
            go_simp
            try with_reducible rfl
          (try simp only [Act.put, List.setIfInBounds_toArray, List.set_cons_zero, List.set_cons_succ])
          refine take_yes 10 (some 70) (v := ?v10_10) rfl rfl (by kernel_rfl) (by kernel_rfl) (by kernel_rfl) (fun _ _ _ h => h) (by kernel_rfl) ?h10_10 (by assumption) ?_
          case h10_10 =>
            intro w hSw
            (try dsimp only at hSw)
            (try go_split_ands)
            go_simp
            try with_reducible rfl
          (try simp only [Act.put, List.setIfInBounds_toArray, List.set_cons_zero, List.set_cons_succ])
          refine take_yes 11 (some 71) (v := ?v11_11) rfl rfl (by kernel_rfl) (by kernel_rfl) (by kernel_rfl) (fun _ _ _ h => h) (by kernel_rfl) ?h11_11 (by assumption) ?_
          case h11_11 =>
            intro w hSw
            (try dsimp only at hSw)
            (try go_split_ands)
            go_simp
            try with_reducible rfl
          (try simp only [Act.put, List.setIfInBounds_toArray, List.set_cons_zero, List.set_cons_succ])
          refine take_yes 12 (some 72) (v := ?v12_12) rfl rfl (by kernel_rfl) (by kernel_rfl) (by kernel_rfl) (fun _ _ _ h => h) (by kernel_rfl) ?h12_12 (by assumption) ?_
          case h12_12 =>
            intro w hSw
            (try dsimp only at hSw)
            (try go_split_ands)
            go_simp
            try with_reducible rfl
          (try simp only [Act.put, List.setIfInBounds_toArray, List.set_cons_zero, List.set_cons_succ])
          refine take_yes 13 (some 73) (v := ?v13_13) rfl rfl (by kernel_rfl) (by kernel_rfl) (by kernel_rfl) (fun _ _ _ h => h) (by kernel_rfl) ?h13_13 (by assumption) ?_
          case h13_13 =>
            intro w hSw
            (try dsimp only at hSw)
            (try go_split_ands)
            go_simp
            try with_reducible rfl
          (try simp only [Act.put, List.setIfInBounds_toArray, List.set_cons_zero, List.set_cons_succ])
          refine take_yes 14 (some 74) (v := ?v14_14) rfl rfl (by kernel_rfl) (by kernel_rfl) (by kernel_rfl) (fun _ _ _ h => h) (by kernel_rfl) ?h14_14 (by assumption) ?_
          case h14_14 =>
            intro w hSw
            (try dsimp only at hSw)
            (try go_split_ands)
            go_simp
            try with_reducible rfl
          (try simp only [Act.put, List.setIfInBounds_toArray, List.set_cons_zero, List.set_cons_succ])
          refine take_yes 15 (some 75) (v := ?v15_15) rfl rfl (by kernel_rfl) (by kernel_rfl) (by kernel_rfl) (fun _ _ _ h => h) (by kernel_rfl) ?h15_15 (by assumption) ?_
          case h15_15 =>
            intro w hSw
            (try dsimp only at hSw)
            (try go_split_ands)
            go_simp
            try with_reducible rfl
          (try simp only [Act.put, List.setIfInBounds_toArray, List.set_cons_zero, List.set_cons_succ])
          refine take_yes 16 (some 76) (v := ?v16_16) rfl rfl (by kernel_rfl) (by kernel_rfl) (by kernel_rfl) (fun _ _ _ h => h) (by kernel_rfl) ?h16_16 (by assumption) ?_
          case h16_16 =>
            intro w hSw
            (try dsimp only at hSw)
            (try go_split_ands)
            go_simp
            try with_reducible rfl
          (try simp only [Act.put, List.setIfInBounds_toArray, List.set_cons_zero, List.set_cons_succ])
          refine take_yes 17 (some 77) (v := ?v17_17) rfl rfl (by kernel_rfl) (by kernel_rfl) (by kernel_rfl) (fun _ _ _ h => h) (by kernel_rfl) ?h17_17 (by assumption) ?_
          case h17_17 =>
            intro w hSw
            (try dsimp only at hSw)
            (try go_split_ands)
            go_simp
            try with_reducible rfl
          (try simp only [Act.put, List.setIfInBounds_toArray, List.set_cons_zero, List.set_cons_succ])
          refine take_yes 18 (some 78) (v := ?v18_18) rfl rfl (by kernel_rfl) (by kernel_rfl) (by kernel_rfl) (fun _ _ _ h => h) (by kernel_rfl) ?h18_18 (by assumption) ?_
          case h18_18 =>
            intro w hSw
            (try dsimp only at hSw)
            (try go_split_ands)
            go_simp
            try with_reducible rfl
          (try simp only [Act.put, List.setIfInBounds_toArray, List.set_cons_zero, List.set_cons_succ])
          refine wpAnyH_ready (rs := [7, 19]) (by kernel_rfl) (by simp) ?_
          refine AllReadyH.cons rfl (fun K hK => ?_) (AllReadyH.cons rfl (fun K hK => ?_) AllReadyH.nil)
          · go_simp
            refine hK.out _ _ (HK.out _ hb0.drew) (fun hHeld1 => ?_)
            clear hK K hHeld
            (try simp only [Act.put, List.setIfInBounds_toArray, List.set_cons_zero, List.set_cons_succ])
            refine wpAnyH_ready (rs := [19]) (by kernel_rfl) (by simp) ?_
            refine AllReadyH.cons rfl (fun K hK => ?_) AllReadyH.nil
            go_simp
            go_at_call 43
            (with_reducible refine (HA.out _).mono ?_)
            rintro e wv ⟨rfl, hwv⟩
            have hbv : Below wr.heap.size wr.drew wv := hwv
            have r1v := (hbv.cell (p := ⟨g, k', none⟩) hgl).trans r1
            have f1v := (hbv.frozen (p := ⟨g, k', none⟩) hgl).trans f1
            go_wp2_with fail
            refine hK.out _ _ (HK.out _ (hb0.drew.trans hbv)) (fun hHeld2 => ?_)
            clear hK K hHeld1 hwv
            (try simp only [Act.put, List.setIfInBounds_toArray, List.set_cons_zero, List.set_cons_succ])
            refine take_yes 20 (some 80) (v := ?v20_19) rfl rfl (by kernel_rfl) (by kernel_rfl) (by kernel_rfl) (fun _ _ _ h => h) (by kernel_rfl) ?h20_19 (by assumption) ?_
            case h20_19 =>
              intro w hSw
              (try dsimp only at hSw)
              (try go_split_ands)
              go_simp
              try with_reducible rfl
            (try simp only [Act.put, List.setIfInBounds_toArray, List.set_cons_zero, List.set_cons_succ])
            refine take_yes 21 (some 81) (v := ?v21_20) rfl rfl (by kernel_rfl) (by kernel_rfl) (by kernel_rfl) (fun _ _ _ h => h) (by kernel_rfl) ?h21_20 (by assumption) ?_
            case h21_20 =>
              intro w hSw
              (try dsimp only at hSw)
              (try go_split_ands)
              go_simp
              try with_reducible rfl
            (try simp only [Act.put, List.setIfInBounds_toArray, List.set_cons_zero, List.set_cons_succ])
            refine take_yes 22 (some 82) (v := ?v22_21) rfl rfl (by kernel_rfl) (by kernel_rfl) (by kernel_rfl) (fun _ _ _ h => h) (by kernel_rfl) ?h22_21 (by assumption) ?_
            case h22_21 =>
              intro w hSw
              (try dsimp only at hSw)
              (try go_split_ands)
              go_simp
              try with_reducible rfl
            (try simp only [Act.put, List.setIfInBounds_toArray, List.set_cons_zero, List.set_cons_succ])
            refine take_yes 23 (some 83) (v := ?v23_22) rfl rfl (by kernel_rfl) (by kernel_rfl) (by kernel_rfl) (fun _ _ _ h => h) (by kernel_rfl) ?h23_22 (by assumption) ?_
            case h23_22 =>
              intro w hSw
              (try dsimp only at hSw)
              (try go_split_ands)
              go_simp
              try with_reducible rfl
            (try simp only [Act.put, List.setIfInBounds_toArray, List.set_cons_zero, List.set_cons_succ])
            refine wpAnyH_ready (rs := [24]) (by kernel_rfl) (by simp) ?_
            refine AllReadyH.cons rfl (fun K hK => ?_) AllReadyH.nil
            go_simp
            refine hK.out _ _ (HK2.out _ _ (HK.out _ (hb0.drew.trans hbv))) (fun hHeld3 => ?_)
            clear hK K hHeld2
            (try simp only [Act.put, List.setIfInBounds_toArray, List.set_cons_zero, List.set_cons_succ])
            refine wpAnyH_done (by kernel_rfl) ?_ _
            refine NoPanic.normal ?_
            have HSv := Lib.hid ((HR.out.keep (hb0.drew.trans hbv)).put k' (if V + 20000 * C < B then V + 20000 * C else B))
            go_wp2
            all_goals go_roundw
            case rel =>
              have hk' := HKK.out
              refine ⟨k', by omega, by go_num, HSv.out.congr fun j hj => ?_⟩
              by_cases e : j = k'
              · subst e
                rw [if_pos rfl, if_pos (Nat.le_refl _), E.out]
                split <;> omega
              · rw [if_neg e]
                by_cases e2 : j ≤ k
                · rw [if_pos e2, if_pos (by omega)]
                · rw [if_neg e2, if_neg (by omega)]
            case measure => simp [intOf]; omega
          · go_simp
            go_at_call 43
            (with_reducible refine (HA.out _).mono ?_)
            rintro e wv ⟨rfl, hwv⟩
            have hbv : Below wr.heap.size wr.drew wv := hwv
            have r1v := (hbv.cell (p := ⟨g, k', none⟩) hgl).trans r1
            have f1v := (hbv.frozen (p := ⟨g, k', none⟩) hgl).trans f1
            go_wp2_with fail
            refine hK.out _ _ (HK.out _ (hb0.drew.trans hbv)) (fun hHeld4 => ?_)
            clear hK K hHeld hwv
            (try simp only [Act.put, List.setIfInBounds_toArray, List.set_cons_zero, List.set_cons_succ])
            refine take_yes 20 (some 80) (v := ?v20_23) rfl rfl (by kernel_rfl) (by kernel_rfl) (by kernel_rfl) (fun _ _ _ h => h) (by kernel_rfl) ?h20_23 (by assumption) ?_
            case h20_23 =>
              intro w hSw
              (try dsimp only at hSw)
              (try go_split_ands)
              go_simp
              try with_reducible rfl
            (try simp only [Act.put, List.setIfInBounds_toArray, List.set_cons_zero, List.set_cons_succ])
            refine take_yes 21 (some 81) (v := ?v21_24) rfl rfl (by kernel_rfl) (by kernel_rfl) (by kernel_rfl) (fun _ _ _ h => h) (by kernel_rfl) ?h21_24 (by assumption) ?_
            case h21_24 =>
              intro w hSw
              (try dsimp only at hSw)
              (try go_split_ands)
              go_simp
              try with_reducible rfl
            (try simp only [Act.put, List.setIfInBounds_toArray, List.set_cons_zero, List.set_cons_succ])
            refine wpAnyH_ready (rs := [7]) (by kernel_rfl) (by simp) ?_
            refine AllReadyH.cons rfl (fun K hK => ?_) AllReadyH.nil
            go_simp
            refine hK.out _ _ (HK.out _ (hb0.drew.trans hbv)) (fun hHeld5 => ?_)
            clear hK K hHeld4
            (try simp only [Act.put, List.setIfInBounds_toArray, List.set_cons_zero, List.set_cons_succ])
            refine take_yes 22 (some 82) (v := ?v22_25) rfl rfl (by kernel_rfl) (by kernel_rfl) (by kernel_rfl) (fun _ _ _ h => h) (by kernel_rfl) ?h22_25 (by assumption) ?_
            case h22_25 =>
              intro w hSw
              (try dsimp only at hSw)
              (try go_split_ands)
              go_simp
              try with_reducible rfl
            (try simp only [Act.put, List.setIfInBounds_toArray, List.set_cons_zero, List.set_cons_succ])
            refine take_yes 23 (some 83) (v := ?v23_26) rfl rfl (by kernel_rfl) (by kernel_rfl) (by kernel_rfl) (fun _ _ _ h => h) (by kernel_rfl) ?h23_26 (by assumption) ?_
            case h23_26 =>
              intro w hSw
              (try dsimp only at hSw)
              (try go_split_ands)
              go_simp
              try with_reducible rfl
            (try simp only [Act.put, List.setIfInBounds_toArray, List.set_cons_zero, List.set_cons_succ])
            refine wpAnyH_ready (rs := [24]) (by kernel_rfl) (by simp) ?_
            refine AllReadyH.cons rfl (fun K hK => ?_) AllReadyH.nil
            go_simp
            refine hK.out _ _ (HK2.out _ _ (HK.out _ (hb0.drew.trans hbv))) (fun hHeld6 => ?_)
            clear hK K hHeld5
            (try simp only [Act.put, List.setIfInBounds_toArray, List.set_cons_zero, List.set_cons_succ])
            refine wpAnyH_done (by kernel_rfl) ?_ _
            refine NoPanic.normal ?_
            have HSv := Lib.hid ((HR.out.keep (hb0.drew.trans hbv)).put k' (if V + 20000 * C < B then V + 20000 * C else B))
            go_wp2
            all_goals go_roundw
            case rel =>
              have hk' := HKK.out
              refine ⟨k', by omega, by go_num, HSv.out.congr fun j hj => ?_⟩
              by_cases e : j = k'
              · subst e
                rw [if_pos rfl, if_pos (Nat.le_refl _), E.out]
                split <;> omega
              · rw [if_neg e]
                by_cases e2 : j ≤ k
                · rw [if_pos e2, if_pos (by omega)]
                · rw [if_neg e2, if_neg (by omega)]
            case measure => simp [intOf]; omega
        · obtain rfl : k = i := by omega
          have HB3 : Hid (R6 w wr g N x ⟨len, spd, ac, bk⟩ (fun j => if k ≤ j then sq L ⟨len, spd, ac, bk⟩ st k j else forw L ⟨len, spd, ac, bk⟩ st k j)) := hR.out.congr fun j hj => by
            rw [if_pos (by omega)]
            by_cases e : k ≤ j
            · obtain rfl : j = k := by omega
              rw [if_pos e, sq_last]
            · rw [if_neg e]
          clear hR
          go_wp2
          go_loopw [14] (fun b wr => ∃ b' : Nat, b' ≤ k ∧ b = .int .i64 b' ∧ Hid (R6 w wr g N x ⟨len, spd, ac, bk⟩ (fun j => if b' ≤ j then sq L ⟨len, spd, ac, bk⟩ st k j else forw L ⟨len, spd, ac, bk⟩ st k j))) (fun b _ => (intOf b).toNat)
          case atStart => exact ⟨k, Nat.le_refl _, rfl, HB3⟩
          case round =>
            obtain ⟨b, hb, rfl, hR⟩ := hrel
            by_cases hlt : 0 < b
            · obtain ⟨b', hk'⟩ : ∃ b', b' + 1 = b := ⟨b - 1, by omega⟩
              have hbi : (0 : Int) < (b : Int) := by omega
              have hbw := hR.out.below
              obtain ⟨ad, z, rfl, hab, hz, d0, d1⟩ := loadCel (H.out.rd.below hbw) (show st + b' < n by omega)
              have hok : okCel z = true := List.all_eq_true.1 H.out.hc _ (List.mem_of_getElem? hz)
              obtain ⟨x0, x1, x2, x3, x4⟩ := hR.out.box.cells
              have hwl := hR.out.size
              have hgl := hR.out.glt
              have r0 := hR.out.rowCell (i := b) (by omega)
              have r1 := hR.out.rowCell (i := b') (by omega)
              have f1 := hR.out.free b'
              rw [if_pos (Nat.le_refl b)] at r0
              rw [if_neg (by omega)] at r1
              have E := Lib.hid (sq_step L ⟨len, spd, ac, bk⟩ st k b' (by omega))
              rw [cel_eq hz, hk'] at E
              have hbb0 := forw_bounds H.out.hs H.out.hc (show st + k ≤ L.length by omega) b'
              have hbb : 0 ≤ forw L ⟨len, spd, ac, bk⟩ st k b' ∧ forw L ⟨len, spd, ac, bk⟩ st k b' ≤ 10000000000 := ⟨hbb0.1, hbb0.2.1⟩
              have hvv := sq_in H.out.hs H.out.hc (show st + k ≤ L.length by omega) (show b ≤ k by omega)
              have haa := brk_bounds (c := z) H.out.hs
              have hlim : brk z ⟨len, spd, ac, bk⟩ ≤ 2000 := by have := (okStk_iff.1 H.out.hs).2.2.2.2.2.2.2; simp only at this haa; omega
              clear hbb0
              obtain ⟨B, hB⟩ : ∃ B, forw L ⟨len, spd, ac, bk⟩ st k b' = B := ⟨_, rfl⟩
              obtain ⟨V, hV⟩ : ∃ V, sq L ⟨len, spd, ac, bk⟩ st k b = V := ⟨_, rfl⟩
              obtain ⟨C, hC⟩ : ∃ C, brk z ⟨len, spd, ac, bk⟩ = C := ⟨_, rfl⟩
              have HA := Lib.hid (fun w' => r_brk z x ⟨len, spd, ac, bk⟩ w' hok H.out.hs)
              simp only [stk] at HA
              rw [hB] at hbb r1 E
              rw [hV] at hvv r0 E
              rw [hC] at haa hlim HA E
              have hv0 : 0 ≤ V := hvv.1
              have hv1 : V ≤ 10000000000 := hvv.2.1
              have HR := Lib.hid hR.out
              have HKK := Lib.hid hk'
              obtain ⟨sk, hsk⟩ : ∃ sk, st + b' = sk := ⟨_, rfl⟩
              rw [hsk] at d0 d1
              obtain ⟨sb, hsb⟩ : ∃ sb, st + b = sb := ⟨_, rfl⟩
              have g0 : (st : Int) + b = (sb : Int) := by omega
              have g1 : (sb : Int) - 1 = (sk : Int) := by omega
              have s5 : IntKind.i64.wrap ((sb : Int) - 1) = (sk : Int) := by rw [g1]; exact IntWalk.i64_in _ (by omega)
              have s6 : IntKind.i64.wrap (sk : Int) = (sk : Int) := IntWalk.i64_in _ (by omega)
              have hskn : sk < n := by omega
              have e5 : (b : Int) - 1 = (b' : Int) := by omega
              have s0 : IntKind.i64.wrap ((b : Int) - 1) = (b' : Int) := by rw [e5]; exact IntWalk.i64_in _ (by omega)
              have s1 : IntKind.i64.wrap (b' : Int) = (b' : Int) := IntWalk.i64_in _ (by omega)
              have s2 : IntKind.i64.wrap (20000 * C) = 20000 * C := IntWalk.i64_in _ (by omega)
              have s3 : IntKind.i64.wrap (V + 20000 * C) = V + 20000 * C := IntWalk.i64_in _ (by omega)
              have s4 : IntKind.i64.wrap ((st : Int) + b) = (sb : Int) := by rw [g0]; exact IntWalk.i64_in _ (by omega)
              have s7 : IntKind.i64.wrap (sb : Int) = (sb : Int) := IntWalk.i64_in _ (by omega)
              have j0 : (0 : Int) ≤ (b' : Int) := by omega
              have j1 : (b' : Int) < (N : Int) := by omega
              have i0 : b < N := by omega
              have i1 : b' < N := by omega
              have j2 : (0 : Int) ≤ (sk : Int) := by omega
              have j3 : (sk : Int) < (n : Int) := by omega
              have hadg : ad.block ≠ g := fun e => by have := hR.out.hg; omega
              clear hB hV hC hz hk' hsk hvv hsb
              have habl : ad.block < wr.heap.size := by have := hab; omega
              have HK : Hid (∀ w' : World, Below wr.heap.size wr w' → (w'.cell? ⟨g, b, none⟩ = some (.int .i64 V) ∧ w'.cell? (ad.add (sk * 2)) = some (.int .i64 z.lim) ∧ w'.cell? ⟨(ad.add (sk * 2)).block, (ad.add (sk * 2)).off + 1, none⟩ = some (.int .i64 z.gr) ∧ w'.cell? ⟨w.heap.size, 0, none⟩ = some (.string x) ∧ w'.cell? ⟨w.heap.size, 1, none⟩ = some (.int .i64 len) ∧ w'.cell? ⟨w.heap.size, 2, none⟩ = some (.int .i64 spd) ∧ w'.cell? ⟨w.heap.size, 3, none⟩ = some (.int .i64 ac) ∧ w'.cell? ⟨w.heap.size, 4, none⟩ = some (.int .i64 bk))) := fun w' hb =>
                ⟨(hb.cell (p := ⟨g, b, none⟩) hgl).trans r0, (hb.cell (by rw [Mem.block_add]; exact habl)).trans d0, (hb.cell (p := ⟨(ad.add (sk * 2)).block, (ad.add (sk * 2)).off + 1, none⟩) (by rw [Mem.block_add]; exact habl)).trans d1,
                  (hb.cell (p := ⟨w.heap.size, 0, none⟩) hwl).trans x0, (hb.cell (p := ⟨w.heap.size, 1, none⟩) hwl).trans x1, (hb.cell (p := ⟨w.heap.size, 2, none⟩) hwl).trans x2, (hb.cell (p := ⟨w.heap.size, 3, none⟩) hwl).trans x3, (hb.cell (p := ⟨w.heap.size, 4, none⟩) hwl).trans x4⟩
              have HK2 : Hid (∀ (w' : World) (v : Value), (w'.cell? ⟨g, b, none⟩ = some (.int .i64 V) ∧ w'.cell? (ad.add (sk * 2)) = some (.int .i64 z.lim) ∧ w'.cell? ⟨(ad.add (sk * 2)).block, (ad.add (sk * 2)).off + 1, none⟩ = some (.int .i64 z.gr) ∧ w'.cell? ⟨w.heap.size, 0, none⟩ = some (.string x) ∧ w'.cell? ⟨w.heap.size, 1, none⟩ = some (.int .i64 len) ∧ w'.cell? ⟨w.heap.size, 2, none⟩ = some (.int .i64 spd) ∧ w'.cell? ⟨w.heap.size, 3, none⟩ = some (.int .i64 ac) ∧ w'.cell? ⟨w.heap.size, 4, none⟩ = some (.int .i64 bk)) → ((w'.setCell ⟨g, b', none⟩ v).cell? ⟨g, b, none⟩ = some (.int .i64 V) ∧ (w'.setCell ⟨g, b', none⟩ v).cell? (ad.add (sk * 2)) = some (.int .i64 z.lim) ∧ (w'.setCell ⟨g, b', none⟩ v).cell? ⟨(ad.add (sk * 2)).block, (ad.add (sk * 2)).off + 1, none⟩ = some (.int .i64 z.gr) ∧ (w'.setCell ⟨g, b', none⟩ v).cell? ⟨w.heap.size, 0, none⟩ = some (.string x) ∧ (w'.setCell ⟨g, b', none⟩ v).cell? ⟨w.heap.size, 1, none⟩ = some (.int .i64 len) ∧ (w'.setCell ⟨g, b', none⟩ v).cell? ⟨w.heap.size, 2, none⟩ = some (.int .i64 spd) ∧ (w'.setCell ⟨g, b', none⟩ v).cell? ⟨w.heap.size, 3, none⟩ = some (.int .i64 ac) ∧ (w'.setCell ⟨g, b', none⟩ v).cell? ⟨w.heap.size, 4, none⟩ = some (.int .i64 bk))) := fun w' v ⟨c0, c1, c2, c3, c4, c5, c6, c7⟩ => by
                have hk' := HKK.out
                have hgw := HR.out.hg
                have far : ∀ a : Addr, a.block ≠ g ∨ a.off ≠ b' → (w'.setCell ⟨g, b', none⟩ v).cell? a = w'.cell? a := fun a ha => World.cell?_setCell_other _ _ _ _ (fun e => by rw [← e] at ha; rcases ha with h | h <;> exact h rfl)
                exact ⟨(far _ (.inr (by simp only; omega))).trans c0, (far _ (.inl (by rw [Mem.block_add]; exact hadg))).trans c1, (far _ (.inl (by rw [Mem.block_add]; exact hadg))).trans c2,
                  (far _ (.inl (by simp only; omega))).trans c3, (far _ (.inl (by simp only; omega))).trans c4, (far _ (.inl (by simp only; omega))).trans c5, (far _ (.inl (by simp only; omega))).trans c6, (far _ (.inl (by simp only; omega))).trans c7⟩
              have hb0 := Below.refl wr.heap.size wr
              clear hR d0 d1 hab hbw
              go_upto_region 18 with fail
              refine wp_region_noPanic ?_
              refine wp_region_held_drew (S := fun w' => (w'.cell? ⟨g, b, none⟩ = some (.int .i64 V) ∧ w'.cell? (ad.add (sk * 2)) = some (.int .i64 z.lim) ∧ w'.cell? ⟨(ad.add (sk * 2)).block, (ad.add (sk * 2)).off + 1, none⟩ = some (.int .i64 z.gr) ∧ w'.cell? ⟨w.heap.size, 0, none⟩ = some (.string x) ∧ w'.cell? ⟨w.heap.size, 1, none⟩ = some (.int .i64 len) ∧ w'.cell? ⟨w.heap.size, 2, none⟩ = some (.int .i64 spd) ∧ w'.cell? ⟨w.heap.size, 3, none⟩ = some (.int .i64 ac) ∧ w'.cell? ⟨w.heap.size, 4, none⟩ = some (.int .i64 bk))) (by kernel_rfl) (HK.out _ hb0.drew) (fun hHeld => ?_)
              have r1d : wr.drew.cell? ⟨g, b', none⟩ = some (.int .i64 B) := r1
              refine take_yes 0 (some 89) (v := ?v0_27) rfl rfl (by kernel_rfl) (by kernel_rfl) (by kernel_rfl) (fun _ _ _ h => h) (by kernel_rfl) ?h0_27 (by assumption) ?_
              case h0_27 =>
                intro w hSw
                (try dsimp only at hSw)
                (try go_split_ands)
                go_simp
                try with_reducible rfl
              (try simp only [Act.put, List.setIfInBounds_toArray, List.set_cons_zero, List.set_cons_succ])
              refine take_yes 1 (some 90) (v := ?v1_28) rfl rfl (by kernel_rfl) (by kernel_rfl) (by kernel_rfl) (fun _ _ _ h => h) (by kernel_rfl) ?h1_28 (by assumption) ?_
              case h1_28 =>
                intro w hSw
                (try dsimp only at hSw)
                (try go_split_ands)
                go_simp
                try with_reducible rfl
              (try simp only [Act.put, List.setIfInBounds_toArray, List.set_cons_zero, List.set_cons_succ])
              refine take_yes 2 (some 91) (v := ?v2_29) rfl rfl (by kernel_rfl) (by kernel_rfl) (by kernel_rfl) (fun _ _ _ h => h) (by kernel_rfl) ?h2_29 (by assumption) ?_
              case h2_29 =>
                intro w hSw
                (try dsimp only at hSw)
                (try go_split_ands)
                go_simp
                try with_reducible rfl
              (try simp only [Act.put, List.setIfInBounds_toArray, List.set_cons_zero, List.set_cons_succ])
              refine take_yes 3 (some 92) (v := ?v3_30) rfl rfl (by kernel_rfl) (by kernel_rfl) (by kernel_rfl) (fun _ _ _ h => h) (by kernel_rfl) ?h3_30 (by assumption) ?_
              case h3_30 =>
                intro w hSw
                (try dsimp only at hSw)
                (try go_split_ands)
                go_simp
                try with_reducible rfl
              (try simp only [Act.put, List.setIfInBounds_toArray, List.set_cons_zero, List.set_cons_succ])
              refine take_yes 4 (some 93) (v := ?v4_31) rfl rfl (by kernel_rfl) (by kernel_rfl) (by kernel_rfl) (fun _ _ _ h => h) (by kernel_rfl) ?h4_31 (by assumption) ?_
              case h4_31 =>
                intro w hSw
                (try dsimp only at hSw)
                (try go_split_ands)
                go_simp
                try with_reducible rfl
              (try simp only [Act.put, List.setIfInBounds_toArray, List.set_cons_zero, List.set_cons_succ])
              refine take_yes 5 (some 94) (v := ?v5_32) rfl rfl (by kernel_rfl) (by kernel_rfl) (by kernel_rfl) (fun _ _ _ h => h) (by kernel_rfl) ?h5_32 (by assumption) ?_
              case h5_32 =>
                intro w hSw
                (try dsimp only at hSw)
                (try go_split_ands)
                go_simp
                try with_reducible rfl
              (try simp only [Act.put, List.setIfInBounds_toArray, List.set_cons_zero, List.set_cons_succ])
              refine take_yes 6 (some 95) (v := ?v6_33) rfl rfl (by kernel_rfl) (by kernel_rfl) (by kernel_rfl) (fun _ _ _ h => h) (by kernel_rfl) ?h6_33 (by assumption) ?_
              case h6_33 =>
                intro w hSw
                (try dsimp only at hSw)
                (try go_split_ands)
                go_simp
                try with_reducible rfl
              (try simp only [Act.put, List.setIfInBounds_toArray, List.set_cons_zero, List.set_cons_succ])
              refine take_yes 8 (some 97) (v := ?v8_34) rfl rfl (by kernel_rfl) (by kernel_rfl) (by kernel_rfl) (fun _ _ _ h => h) (by kernel_rfl) ?h8_34 (by assumption) ?_
              case h8_34 =>
                intro w hSw
                (try dsimp only at hSw)
                (try go_split_ands)
                go_simp
                try with_reducible rfl
              (try simp only [Act.put, List.setIfInBounds_toArray, List.set_cons_zero, List.set_cons_succ])
              refine take_yes 9 (some 98) (v := ?v9_35) rfl rfl (by kernel_rfl) (by kernel_rfl) (by kernel_rfl) (fun _ _ _ h => h) (by kernel_rfl) ?h9_35 (by assumption) ?_
              case h9_35 =>
                intro w hSw
                (try dsimp only at hSw)
                (try go_split_ands)
                go_simp
                try with_reducible rfl
              (try simp only [Act.put, List.setIfInBounds_toArray, List.set_cons_zero, List.set_cons_succ])
              refine take_yes 10 (some 99) (v := ?v10_36) rfl rfl (by kernel_rfl) (by kernel_rfl) (by kernel_rfl) (fun _ _ _ h => h) (by kernel_rfl) ?h10_36 (by assumption) ?_
              case h10_36 =>
                intro w hSw
                (try dsimp only at hSw)
                (try go_split_ands)
                go_simp
                try with_reducible rfl
              (try simp only [Act.put, List.setIfInBounds_toArray, List.set_cons_zero, List.set_cons_succ])
              refine take_yes 11 (some 100) (v := ?v11_37) rfl rfl (by kernel_rfl) (by kernel_rfl) (by kernel_rfl) (fun _ _ _ h => h) (by kernel_rfl) ?h11_37 (by assumption) ?_
              case h11_37 =>
                intro w hSw
                (try dsimp only at hSw)
                (try go_split_ands)
                go_simp
                try with_reducible rfl
              (try simp only [Act.put, List.setIfInBounds_toArray, List.set_cons_zero, List.set_cons_succ])
              refine take_yes 12 (some 101) (v := ?v12_38) rfl rfl (by kernel_rfl) (by kernel_rfl) (by kernel_rfl) (fun _ _ _ h => h) (by kernel_rfl) ?h12_38 (by assumption) ?_
              case h12_38 =>
                intro w hSw
                (try dsimp only at hSw)
                (try go_split_ands)
                go_simp
                try with_reducible rfl
              (try simp only [Act.put, List.setIfInBounds_toArray, List.set_cons_zero, List.set_cons_succ])
              refine take_yes 13 (some 102) (v := ?v13_39) rfl rfl (by kernel_rfl) (by kernel_rfl) (by kernel_rfl) (fun _ _ _ h => h) (by kernel_rfl) ?h13_39 (by assumption) ?_
              case h13_39 =>
                intro w hSw
                (try dsimp only at hSw)
                (try go_split_ands)
                go_simp
                try with_reducible rfl
              (try simp only [Act.put, List.setIfInBounds_toArray, List.set_cons_zero, List.set_cons_succ])
              refine take_yes 14 (some 103) (v := ?v14_40) rfl rfl (by kernel_rfl) (by kernel_rfl) (by kernel_rfl) (fun _ _ _ h => h) (by kernel_rfl) ?h14_40 (by assumption) ?_
              case h14_40 =>
                intro w hSw
                (try dsimp only at hSw)
                (try go_split_ands)
                go_simp
                try with_reducible rfl
              (try simp only [Act.put, List.setIfInBounds_toArray, List.set_cons_zero, List.set_cons_succ])
              refine take_yes 15 (some 104) (v := ?v15_41) rfl rfl (by kernel_rfl) (by kernel_rfl) (by kernel_rfl) (fun _ _ _ h => h) (by kernel_rfl) ?h15_41 (by assumption) ?_
              case h15_41 =>
                intro w hSw
                (try dsimp only at hSw)
                (try go_split_ands)
                go_simp
                try with_reducible rfl
              (try simp only [Act.put, List.setIfInBounds_toArray, List.set_cons_zero, List.set_cons_succ])
              refine take_yes 16 (some 105) (v := ?v16_42) rfl rfl (by kernel_rfl) (by kernel_rfl) (by kernel_rfl) (fun _ _ _ h => h) (by kernel_rfl) ?h16_42 (by assumption) ?_
              case h16_42 =>
                intro w hSw
                (try dsimp only at hSw)
                (try go_split_ands)
                go_simp
                try with_reducible rfl
              (try simp only [Act.put, List.setIfInBounds_toArray, List.set_cons_zero, List.set_cons_succ])
              refine take_yes 17 (some 106) (v := ?v17_43) rfl rfl (by kernel_rfl) (by kernel_rfl) (by kernel_rfl) (fun _ _ _ h => h) (by kernel_rfl) ?h17_43 (by assumption) ?_
              case h17_43 =>
                intro w hSw
                (try dsimp only at hSw)
                (try go_split_ands)
                go_simp
                try with_reducible rfl
              (try simp only [Act.put, List.setIfInBounds_toArray, List.set_cons_zero, List.set_cons_succ])
              refine take_yes 18 (some 107) (v := ?v18_44) rfl rfl (by kernel_rfl) (by kernel_rfl) (by kernel_rfl) (fun _ _ _ h => h) (by kernel_rfl) ?h18_44 (by assumption) ?_
              case h18_44 =>
                intro w hSw
                (try dsimp only at hSw)
                (try go_split_ands)
                go_simp
                try with_reducible rfl
              (try simp only [Act.put, List.setIfInBounds_toArray, List.set_cons_zero, List.set_cons_succ])
              refine take_yes 19 (some 108) (v := ?v19_45) rfl rfl (by kernel_rfl) (by kernel_rfl) (by kernel_rfl) (fun _ _ _ h => h) (by kernel_rfl) ?h19_45 (by assumption) ?_
              case h19_45 =>
                intro w hSw
                (try dsimp only at hSw)
                (try go_split_ands)
                go_simp
                try with_reducible rfl
              (try simp only [Act.put, List.setIfInBounds_toArray, List.set_cons_zero, List.set_cons_succ])
              refine wpAnyH_ready (rs := [7, 20]) (by kernel_rfl) (by simp) ?_
              refine AllReadyH.cons rfl (fun K hK => ?_) (AllReadyH.cons rfl (fun K hK => ?_) AllReadyH.nil)
              · go_simp
                refine hK.out _ _ (HK.out _ hb0.drew) (fun hHeld1 => ?_)
                clear hK K hHeld
                (try simp only [Act.put, List.setIfInBounds_toArray, List.set_cons_zero, List.set_cons_succ])
                refine wpAnyH_ready (rs := [20]) (by kernel_rfl) (by simp) ?_
                refine AllReadyH.cons rfl (fun K hK => ?_) AllReadyH.nil
                go_simp
                go_at_call 44
                (with_reducible refine (HA.out _).mono ?_)
                rintro e wv ⟨rfl, hwv⟩
                have hbv : Below wr.heap.size wr.drew wv := hwv
                have r1v := (hbv.cell (p := ⟨g, b', none⟩) hgl).trans r1
                have f1v := (hbv.frozen (p := ⟨g, b', none⟩) hgl).trans f1
                go_wp2_with fail
                refine hK.out _ _ (HK.out _ (hb0.drew.trans hbv)) (fun hHeld2 => ?_)
                clear hK K hHeld1 hwv
                (try simp only [Act.put, List.setIfInBounds_toArray, List.set_cons_zero, List.set_cons_succ])
                refine take_yes 21 (some 110) (v := ?v21_46) rfl rfl (by kernel_rfl) (by kernel_rfl) (by kernel_rfl) (fun _ _ _ h => h) (by kernel_rfl) ?h21_46 (by assumption) ?_
                case h21_46 =>
                  intro w hSw
                  (try dsimp only at hSw)
                  (try go_split_ands)
                  go_simp
                  try with_reducible rfl
                (try simp only [Act.put, List.setIfInBounds_toArray, List.set_cons_zero, List.set_cons_succ])
                refine take_yes 22 (some 111) (v := ?v22_47) rfl rfl (by kernel_rfl) (by kernel_rfl) (by kernel_rfl) (fun _ _ _ h => h) (by kernel_rfl) ?h22_47 (by assumption) ?_
                case h22_47 =>
                  intro w hSw
                  (try dsimp only at hSw)
                  (try go_split_ands)
                  go_simp
                  try with_reducible rfl
                (try simp only [Act.put, List.setIfInBounds_toArray, List.set_cons_zero, List.set_cons_succ])
                refine take_yes 23 (some 112) (v := ?v23_48) rfl rfl (by kernel_rfl) (by kernel_rfl) (by kernel_rfl) (fun _ _ _ h => h) (by kernel_rfl) ?h23_48 (by assumption) ?_
                case h23_48 =>
                  intro w hSw
                  (try dsimp only at hSw)
                  (try go_split_ands)
                  go_simp
                  try with_reducible rfl
                (try simp only [Act.put, List.setIfInBounds_toArray, List.set_cons_zero, List.set_cons_succ])
                refine take_yes 24 (some 113) (v := ?v24_49) rfl rfl (by kernel_rfl) (by kernel_rfl) (by kernel_rfl) (fun _ _ _ h => h) (by kernel_rfl) ?h24_49 (by assumption) ?_
                case h24_49 =>
                  intro w hSw
                  (try dsimp only at hSw)
                  (try go_split_ands)
                  go_simp
                  try with_reducible rfl
                (try simp only [Act.put, List.setIfInBounds_toArray, List.set_cons_zero, List.set_cons_succ])
                refine wpAnyH_ready (rs := [25]) (by kernel_rfl) (by simp) ?_
                refine AllReadyH.cons rfl (fun K hK => ?_) AllReadyH.nil
                go_simp
                refine hK.out _ _ (HK2.out _ _ (HK.out _ (hb0.drew.trans hbv))) (fun hHeld3 => ?_)
                clear hK K hHeld2
                (try simp only [Act.put, List.setIfInBounds_toArray, List.set_cons_zero, List.set_cons_succ])
                refine wpAnyH_done (by kernel_rfl) ?_ _
                refine NoPanic.normal ?_
                have HSv := Lib.hid ((HR.out.keep (hb0.drew.trans hbv)).put b' (if V + 20000 * C < B then V + 20000 * C else B))
                go_wp2
                all_goals go_roundw
                case rel =>
                  have hk' := HKK.out
                  refine ⟨b', by omega, by rfl, HSv.out.congr fun j hj => ?_⟩
                  by_cases e : j = b'
                  · subst e
                    rw [if_pos rfl, if_pos (Nat.le_refl _), E.out]
                    split <;> omega
                  · rw [if_neg e]
                    by_cases e2 : b ≤ j
                    · rw [if_pos e2, if_pos (by omega)]
                    · rw [if_neg e2, if_neg (by omega)]
                case measure => (have hk' := HKK.out; simp [intOf]; omega)
              · go_simp
                go_at_call 44
                (with_reducible refine (HA.out _).mono ?_)
                rintro e wv ⟨rfl, hwv⟩
                have hbv : Below wr.heap.size wr.drew wv := hwv
                have r1v := (hbv.cell (p := ⟨g, b', none⟩) hgl).trans r1
                have f1v := (hbv.frozen (p := ⟨g, b', none⟩) hgl).trans f1
                go_wp2_with fail
                refine hK.out _ _ (HK.out _ (hb0.drew.trans hbv)) (fun hHeld4 => ?_)
                clear hK K hHeld hwv
                (try simp only [Act.put, List.setIfInBounds_toArray, List.set_cons_zero, List.set_cons_succ])
                refine take_yes 21 (some 110) (v := ?v21_50) rfl rfl (by kernel_rfl) (by kernel_rfl) (by kernel_rfl) (fun _ _ _ h => h) (by kernel_rfl) ?h21_50 (by assumption) ?_
                case h21_50 =>
                  intro w hSw
                  (try dsimp only at hSw)
                  (try go_split_ands)
                  go_simp
                  try with_reducible rfl
                (try simp only [Act.put, List.setIfInBounds_toArray, List.set_cons_zero, List.set_cons_succ])
                refine take_yes 22 (some 111) (v := ?v22_51) rfl rfl (by kernel_rfl) (by kernel_rfl) (by kernel_rfl) (fun _ _ _ h => h) (by kernel_rfl) ?h22_51 (by assumption) ?_
                case h22_51 =>
                  intro w hSw
                  (try dsimp only at hSw)
                  (try go_split_ands)
                  go_simp
                  try with_reducible rfl
                (try simp only [Act.put, List.setIfInBounds_toArray, List.set_cons_zero, List.set_cons_succ])
                refine wpAnyH_ready (rs := [7]) (by kernel_rfl) (by simp) ?_
                refine AllReadyH.cons rfl (fun K hK => ?_) AllReadyH.nil
                go_simp
                refine hK.out _ _ (HK.out _ (hb0.drew.trans hbv)) (fun hHeld5 => ?_)
                clear hK K hHeld4
                (try simp only [Act.put, List.setIfInBounds_toArray, List.set_cons_zero, List.set_cons_succ])
                refine take_yes 23 (some 112) (v := ?v23_52) rfl rfl (by kernel_rfl) (by kernel_rfl) (by kernel_rfl) (fun _ _ _ h => h) (by kernel_rfl) ?h23_52 (by assumption) ?_
                case h23_52 =>
                  intro w hSw
                  (try dsimp only at hSw)
                  (try go_split_ands)
                  go_simp
                  try with_reducible rfl
                (try simp only [Act.put, List.setIfInBounds_toArray, List.set_cons_zero, List.set_cons_succ])
                refine take_yes 24 (some 113) (v := ?v24_53) rfl rfl (by kernel_rfl) (by kernel_rfl) (by kernel_rfl) (fun _ _ _ h => h) (by kernel_rfl) ?h24_53 (by assumption) ?_
                case h24_53 =>
                  intro w hSw
                  (try dsimp only at hSw)
                  (try go_split_ands)
                  go_simp
                  try with_reducible rfl
                (try simp only [Act.put, List.setIfInBounds_toArray, List.set_cons_zero, List.set_cons_succ])
                refine wpAnyH_ready (rs := [25]) (by kernel_rfl) (by simp) ?_
                refine AllReadyH.cons rfl (fun K hK => ?_) AllReadyH.nil
                go_simp
                refine hK.out _ _ (HK2.out _ _ (HK.out _ (hb0.drew.trans hbv))) (fun hHeld6 => ?_)
                clear hK K hHeld5
                (try simp only [Act.put, List.setIfInBounds_toArray, List.set_cons_zero, List.set_cons_succ])
                refine wpAnyH_done (by kernel_rfl) ?_ _
                refine NoPanic.normal ?_
                have HSv := Lib.hid ((HR.out.keep (hb0.drew.trans hbv)).put b' (if V + 20000 * C < B then V + 20000 * C else B))
                go_wp2
                all_goals go_roundw
                case rel =>
                  have hk' := HKK.out
                  refine ⟨b', by omega, by rfl, HSv.out.congr fun j hj => ?_⟩
                  by_cases e : j = b'
                  · subst e
                    rw [if_pos rfl, if_pos (Nat.le_refl _), E.out]
                    split <;> omega
                  · rw [if_neg e]
                    by_cases e2 : b ≤ j
                    · rw [if_pos e2, if_pos (by omega)]
                    · rw [if_neg e2, if_neg (by omega)]
                case measure => (have hk' := HKK.out; simp [intOf]; omega)
            · have hnb : ¬ (0 : Int) < (b : Int) := by omega
              have HB4 : Hid (R6 w wr g N x ⟨len, spd, ac, bk⟩ (fun j => if j < 0 then vel L ⟨len, spd, ac, bk⟩ st k j else sq L ⟨len, spd, ac, bk⟩ st k j)) := hR.out.congr fun j hj => by
                rw [if_pos (by omega), if_neg (by omega)]
              clear hR hlt
              go_wp2
              go_loopw [15] (fun b wr => ∃ b' : Nat, b' ≤ N ∧ b = .int .i64 b' ∧ Hid (R6 w wr g N x ⟨len, spd, ac, bk⟩ (fun j => if j < b' then vel L ⟨len, spd, ac, bk⟩ st k j else sq L ⟨len, spd, ac, bk⟩ st k j))) (fun b _ => N - (intOf b).toNat)
              case atStart => exact ⟨0, Nat.zero_le _, rfl, HB4⟩
              case round =>
                clear hnb hb
                obtain ⟨b, hb, rfl, hR⟩ := hrel
                by_cases hlt : b < N
                · have hbk : (b : Int) ≤ (k : Int) := by omega
                  have c0 := hR.out.rowCell hlt
                  have c1 := hR.out.free b
                  rw [if_neg (by omega)] at c0
                  have hq := sq_in H.out.hs H.out.hc (show st + k ≤ L.length by omega) (show b ≤ k by omega)
                  obtain ⟨q, hqe⟩ : ∃ q, sq L ⟨len, spd, ac, bk⟩ st k b = q := ⟨_, rfl⟩
                  rw [hqe] at hq c0
                  have hq0 : 0 ≤ q := hq.1
                  have hq1 : q ≤ 10000000000 := hq.2.1
                  have HV : Hid (vel L ⟨len, spd, ac, bk⟩ st k b = root q) := by rw [Hid, vel, hqe]
                  clear hqe hq
                  go_wp2_with (go_at_call 45; refine (r_sqrt q _ (by omega) (by omega)).mono ?_; rintro e w' ⟨rfl, rfl⟩)
                  go_roundw
                  case rel =>
                    refine ⟨b + 1, by omega, by go_num, (hR.out.put b (root q)).congr fun j hj => ?_⟩
                    by_cases e : j = b
                    · subst e; rw [if_pos rfl, if_pos (by omega), HV.out]
                    · rw [if_neg e]
                      by_cases e2 : j < b
                      · rw [if_pos e2, if_pos (by omega)]
                      · rw [if_neg e2, if_neg (by omega)]
                  case measure => simp [intOf]; omega
                · obtain rfl : b = N := by omega
                  have hbk : ¬ (b : Int) ≤ (k : Int) := by omega
                  have HF : Hid (Row wr g b (vel L ⟨len, spd, ac, bk⟩ st k)) := hR.out.row.congr fun j hj => by rw [if_pos hj]
                  have HB := Lib.hid hR.out.below
                  clear hR
                  go_wp2
                  all_goals go_ret2
                  all_goals exact ⟨g, rfl, Nat.le_of_lt hgw, HF.out, HB.out⟩

end Go.Proofs.Ytglcimahdgnnnaa.RSpd
