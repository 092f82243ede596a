/-
  The walk of the statement on lists at their limits.
-/
import Derived.Test.YtdcbaedhgoipjaaAwake
import Derived.Test.YtdcbaedhgoipjaaRFree
import Derived.Test.YtdcbaedhgoipjaaRNames
import Derived.Test.YtdcbaedhgoipjaaDec
import Derived.Deep.RegionLaw
namespace Go.Proofs.Ytdcbaedhgoipjaa.Limits
open Go.ChangeShapes Go.WideShapes Go.ChangeAt Go.RowKit Wd Small Mem Lay LayT LayG Recs Keep Names Dec PNames PSecs PEnds PCheck PStep Awake RNames
set_option linter.unusedVariables false

/-- the layout block at g as it stands: three slices, one of them of the call's own -/
def Blk (w : World) (g : Nat) (a b c : Value) : Prop := w.heap[g]? = some (.cells #[a, b, c, .slice none 0 0] 26)
theorem Blk.c0 {w : World} {g : Nat} {a b c : Value} (h : Blk w g a b c) : w.cell? ⟨g, 0, none⟩ = some a := by
  unfold Blk at h; simp [World.cell?, h]
theorem Blk.c1 {w : World} {g : Nat} {a b c : Value} (h : Blk w g a b c) : w.cell? ⟨g, 1, none⟩ = some b := by
  unfold Blk at h; simp [World.cell?, h]
theorem Blk.c2 {w : World} {g : Nat} {a b c : Value} (h : Blk w g a b c) : w.cell? ⟨g, 2, none⟩ = some c := by
  unfold Blk at h; simp [World.cell?, h]
theorem Blk.c3 {w : World} {g : Nat} {a b c : Value} (h : Blk w g a b c) : w.cell? ⟨g, 3, none⟩ = some (.slice none 0 0) := by
  unfold Blk at h; simp [World.cell?, h]
theorem Blk.f {w : World} {g : Nat} {a b c : Value} (h : Blk w g a b c) (j : Nat) : w.frozen? ⟨g, j, none⟩ = false := by
  unfold Blk at h; simp [World.frozen?, h]
theorem Blk.below {w w' : World} {g B : Nat} {a b c : Value} (h : Blk w g a b c) (hb : Below B w w') (hg : g < B) : Blk w' g a b c := (hb.block g hg).trans h
theorem Blk.put0 {w : World} {g : Nat} {a b c : Value} (h : Blk w g a b c) (v : Value) : Blk (w.setCell ⟨g, 0, none⟩ v) g v b c := by
  unfold Blk at *; simp [World.setCell, Array.getElem?_modify, h]
theorem Blk.put1 {w : World} {g : Nat} {a b c : Value} (h : Blk w g a b c) (v : Value) : Blk (w.setCell ⟨g, 1, none⟩ v) g a v c := by
  unfold Blk at *; simp [World.setCell, Array.getElem?_modify, h]
theorem Blk.put2 {w : World} {g : Nat} {a b c : Value} (h : Blk w g a b c) (v : Value) : Blk (w.setCell ⟨g, 2, none⟩ v) g a b v := by
  unfold Blk at *; simp [World.setCell, Array.getElem?_modify, h]
theorem Blk.lt {w : World} {g : Nat} {a b c : Value} (h : Blk w g a b c) : g < w.heap.size := lt_of_block h

theorem own_set {α : Type} {R : Rec α} {w : World} {base n g j : Nat} {v u : Value} {L : List α} (h : Own R w base v n L) (hg : g < base) : Own R (w.setCell ⟨g, j, none⟩ u) base v n L :=
  h.grown (row := some g) (grown_set (World.grownBy.refl w _) _) (by
    cases hv : v.ownBlock with
    | none => exact .inl rfl
    | some b => exact .inr (fun e => by have := (h.2.lt b hv).1; injection e; omega))
theorem many_short (n : Nat) (h : n ≤ 1000) : ∀ s ∈ many n, s.length ≤ 9223372036854775807 := by
  intro s hs
  unfold many at hs
  obtain ⟨i, hi, rfl⟩ := List.mem_map.1 hs
  rw [List.mem_range] at hi
  have := dec_len i (by omega) (by omega)
  unfold numbered
  simp only [List.length_cons]
  omega
def mSec (n : Nat) : List Sec := (many n).map fun s => ⟨s, 1, 1000, 0, -1⟩
theorem mSec_succ (k : Nat) : mSec (k + 1) = mSec k ++ [⟨97 :: dec k, 1, 1000, 0, -1⟩] := by unfold mSec; rw [many_snoc]; simp [numbered]
theorem mSec_short (n : Nat) (h : n ≤ 1000) : ∀ s ∈ mSec n, s.name.length ≤ 9223372036854775807 := by
  intro s hs
  unfold mSec at hs
  obtain ⟨x, hx, rfl⟩ := List.mem_map.1 hs
  exact many_short n h x hx
theorem infoSec : (Try.prog.info? 44).map (fun i => (i.zero, i.size, i.bytes)) = some (some (.agg #[.string ByteArray.empty, .int .i64 0, .int .i64 0, .int .i64 0, .int .i64 0]), 5, 48) := by kernel_rfl
theorem two_new (w : World) (o p : Obj) : ((w.alloc o).alloc p).heap[w.heap.size + 1]? = some p := by
  have := heap_alloc_new (w.alloc o) p
  simpa using this
theorem many_succ (k : Nat) : many (k + 1) = many k ++ [97 :: dec k] := many_snoc k

set_option maxRecDepth 100000 in
set_option maxHeartbeats 1000000 in
theorem limits (a0 : Int) (w0 : (Lit.int .i64 a0).wf = true) (a1 : Int) (w1 : (Lit.int .i64 a1).wf = true) (w : World) : Calls Try.prog 4 #[.int .i64 a0, .int .i64 a1] w (Yes w) := by
  obtain ⟨b01, b02⟩ := bounds_i64 w0
  obtain ⟨b11, b12⟩ := bounds_i64 w1
  obtain ⟨p0, p1⟩ := pick_range a0 3 (by decide)
  obtain ⟨q0, q1⟩ := pick_range a1 3 (by decide)
  have HK1 := Lib.hid (fun wx => pick_any a0 3 wx b01 b02 (by decide) (by decide))
  have HK2 := Lib.hid (fun wx => pick_any a1 3 wx b11 b12 (by decide) (by decide))
  generalize pick a0 3 = p at *
  generalize pick a1 3 = q at *
  obtain ⟨u, rfl⟩ : ∃ u : Nat, q = u := ⟨q.toNat, by omega⟩
  have hu : u ≤ 2 := by omega
  have hp : p = 0 ∨ p = 1 ∨ p = 2 := by omega
  clear p0 p1 q0 q1 w0 w1
  rcases hp with rfl | rfl | rfl
  · have HLC := Lib.hid (fun n h1 h2 => long_check 0 n h1 h2)
    simp only [most] at HLC
    obtain ⟨n, hn, hn1, hn2⟩ : ∃ n : Nat, (24 + (u : Int) - 1) = n ∧ 1 ≤ n ∧ n ≤ 1000 := ⟨24 + u - 1, by omega, by omega, by omega⟩
    obtain ⟨W, hW⟩ : ∃ W, (w.alloc (.cells #[.int .i64 24, .int .i64 48, .int .i64 96] 3)).alloc (.cells #[.slice none 0 0, .slice none 0 0, .slice none 0 0, .slice none 0 0] 26) = W := ⟨_, rfl⟩
    have hG0 : Blk W (w.heap.size + 1) (.slice none 0 0) (.slice none 0 0) (.slice none 0 0) := by rw [← hW]; exact two_new _ _ _
    have HBW : Hid (Below w.heap.size w W) := by rw [Hid, ← hW]; exact ((Below.refl _ _).alloc (Nat.le_refl _) _).alloc (by simp) _
    have HZ : Hid (W.heap.size = w.heap.size + 2) := by rw [Hid, ← hW]; simp
    have HW := Lib.hid hW
    clear hW
    have HG := Lib.hid hG0
    clear hG0
    obtain ⟨ih, hih, hz0, hz1, hz2⟩ := info_parts infoS
    go_enter Try.func4, Try.ntmps4
    go_wp2_with fail
    refine (HK1.out _).mono ?_
    rintro e wx ⟨rfl, rfl⟩
    go_wp2_with fail
    refine (HK2.out _).mono ?_
    rintro e wx ⟨rfl, rfl⟩
    go_upto_region 4 with fail
    rw [HW.out]
    try rw [hn]
    clear HW hn
    go_wp2_with fail
    go_loopw [8] (fun i wr => ∃ (k c : Nat) (A : Option Addr), k ≤ n ∧ i = .int .i64 k ∧ Own sR wr W.heap.size (.slice A k c) k (many k) ∧ Blk wr (w.heap.size + 1) (.slice A k c) (.slice none 0 0) (.slice none 0 0) ∧ Below (w.heap.size + 1) W wr) (fun i _ => n - (intOf i).toNat)
    case atStart => exact ⟨0, 0, none, Nat.zero_le _, rfl, Own.nil _ _, HG.out, Below.refl _ _⟩
    case round =>
      obtain ⟨k, c, A, hk, rfl, hO, hG, hbw⟩ := hrel
      have hzW := hbw.size
      by_cases hlt : k < n
      · have hcat : (ByteArray.mk #[97]) ++ str (dec k) = str (97 :: dec k) := bs_ext (by rw [bs_append, bs_str, bs_str]; rfl)
        have hsum : (ByteArray.mk #[97]).size + (str (dec k)).size ≤ 9223372036854775807 := by rw [size_str]; have h1 : (ByteArray.mk #[97]).size = 1 := rfl; have h2 := dec_len k (by omega) (by omega); omega
        have hlen : (dec k).length ≤ 20 := dec_len k (by omega) (by omega)
        have hkn : (k : Int) < (n : Int) := by omega
        go_wp2_with fail
        refine (r_dec k _ (by omega) (by omega)).mono ?_
        rintro e wy ⟨rfl, rfl⟩
        go_wp2_with fail
        refine (HK1.out _).mono ?_
        rintro e wx ⟨rfl, rfl⟩
        go_upto_region 11 with fail
        clear hcat hsum
        have c0 := hG.c0
        have HO := Lib.hid hO
        have HGk := Lib.hid hG
        have hgW : w.heap.size + 2 ≤ W.heap.size := by rw [HZ.out]; omega
        have hgr : w.heap.size + 1 < wr.heap.size := hG.lt
        have hn63 : k + 1 ≤ maxLen := by unfold maxLen; omega
        have hby : (k + 1) * 16 ≤ 140737488355328 := by omega
        clear hO hG
        go_wp2_with (at_builtin; refine wpList_append_own _ rfl _ _ 22 rfl W.heap.size 9 ih _ 1 16 Try.underlying22 hih hz0 hz1 hz2 rfl (by omega) (.slice A k c) k (sR.cs (many k)) rfl (HO.out.2.alloc _) ⟨wr.heap.size, 0, none⟩ 1 1 [.string (str (97 :: dec k))] rfl rfl (cell_one_new _ _ _) (one_cell _ rfl) hn63 hby (by simp; omega) ?_)
        intro v w1 hown hgrow _
        have hO' := Own.push (R := sR) (a := 97 :: dec k) HO.out.1 hown
        obtain ⟨A', c', rfl, _⟩ := hO'.form
        have HO2 : Hid (Own sR w1 W.heap.size (.slice A' (k + 1) c') (k + 1) (many (k + 1))) := by rw [Hid, many_succ]; exact hO'
        have hge : ∀ g, (Value.slice A k c).ownBlock = some g → W.heap.size ≤ g := fun g hg => (HO.out.2.lt g hg).1
        have hb' : Below (w.heap.size + 1) W w1 := (hbw.alloc (by omega) _).grown hgrow (by simp; omega) (fun j hj => by have := hge j hj; omega)
        have HG1 : Hid (Blk w1 (w.heap.size + 1) (.slice A k c) (.slice none 0 0) (.slice none 0 0)) := (hgrow.block (w.heap.size + 1) (by simp; omega) (fun e => by have := hge _ e.symm; omega)).trans ((((Below.refl wr.heap.size wr).alloc (Nat.le_refl _) _).block _ hgr).trans HGk.out)
        have c1 := HG1.out.c0
        have f1 := HG1.out.f 0
        clear hown hgrow hO' HO HGk c0 hge hbw
        go_wp2_with fail
        go_roundw
        case rel => exact ⟨k + 1, c', A', by omega, by go_num, own_set HO2.out (by omega), HG1.out.put0 _, hb'.setCell (by simp) _⟩
        case measure => simp [intOf]; omega
      · obtain rfl : k = n := by omega
        have hgr := hG.lt
        have hgW := HZ.out
        obtain ⟨X, hX⟩ : ∃ X, (wr.setCell ⟨w.heap.size + 1, 2, none⟩ (.slice (some ⟨wr.heap.size, 0, none⟩) 1 1)).alloc (.cells #[.string ⟨#[88]⟩, .int .i64 400, .int .i64 100000, .int .i64 (-40), .int .i64 (-1)] 44) = X := ⟨_, rfl⟩
        have hS := one_sec (wr.setCell ⟨w.heap.size + 1, 2, none⟩ (.slice (some ⟨wr.heap.size, 0, none⟩) 1 1)) one
        simp only [World.size_setCell] at hS
        have hOX := ((own_set (j := 2) (u := .slice (some ⟨wr.heap.size, 0, none⟩) 1 1) hO (show w.heap.size + 1 < W.heap.size by omega)).alloc (.cells #[.string ⟨#[88]⟩, .int .i64 400, .int .i64 100000, .int .i64 (-40), .int .i64 (-1)] 44)).rd
        have hGX : Blk X (w.heap.size + 1) (.slice A k c) (.slice none 0 0) (.slice (some ⟨wr.heap.size, 0, none⟩) 1 1) := by
          rw [← hX]
          exact (hG.put2 _).below ((Below.refl _ _).alloc (Nat.le_refl _) _) (by simpa using hgr)
        have hbX : Below (w.heap.size + 1) W X := by
          rw [← hX]
          exact (hbw.setCell (by simp) _).alloc (by simp; omega) _
        have hzX : X.heap.size = wr.heap.size + 1 := by rw [← hX]; simp
        have hRX : RdL X X.heap.size ⟨A, k, c, none, 0, 0, some ⟨wr.heap.size, 0, none⟩, 1, 1, none, 0, 0⟩ (long 0 k) := by
          rw [← hX] at hzX ⊢
          exact ⟨hOX, Rd.nil _ _ _, hS.more (by simp), Rd.nil _ _ _, by show k ≤ _; omega, by show (0 : Nat) ≤ _; decide, by show (1 : Nat) ≤ _; decide, by show (0 : Nat) ≤ _; decide, many_short k hn2, nofun, fun t ht => by simp [long] at ht; subst ht; decide⟩
        have HX := Lib.hid hX
        clear hX hS hOX hzX
        have hbX2 := HBW.out.trans (hbX.mono (by omega))
        have HBX := Lib.hid hbX2
        have hXg : w.heap.size + 1 < X.heap.size := hGX.lt
        have HRD : Hid (∀ wx, Below X.heap.size X wx → RdL wx wx.heap.size ⟨A, k, c, none, 0, 0, some ⟨wr.heap.size, 0, none⟩, 1, 1, none, 0, 0⟩ (long 0 k)) := fun wx hb => hRX.grow hb hb.size
        have HBK : Hid (∀ wx, Below X.heap.size X wx → Blk wx (w.heap.size + 1) (.slice A k c) (.slice none 0 0) (.slice (some ⟨wr.heap.size, 0, none⟩) 1 1)) := fun wx hb => hGX.below hb hXg
        have HE := Lib.hid (HLC.out k hn1 hn2)
        have c2 := hG.c2
        have f2 := hG.f 2
        clear hO hG HG hGX hRX hbX hbX2 hbw
        go_upto_region 16 with fail
        rw [HX.out]
        clear HX c2 f2
        go_wp2_with fail
        refine (awake_any X).mono ?_
        rintro e w3 ⟨rfl, hb3⟩
        have HP : Hid (∀ wx, Below X.heap.size X wx → Calls Try.prog 17 #[LV.val ⟨A, k, c, none, 0, 0, some ⟨wr.heap.size, 0, none⟩, 1, 1, none, 0, 0⟩] wx (ErrPost (if k ≤ 24 then 0 else 7) wx)) := fun wx hb => by
          have := p_check _ _ wx (HRD.out wx hb)
          rw [HE.out] at this
          exact this
        simp only [LV.val] at HP
        clear HRD HE
        by_cases hm : k ≤ 24
        all_goals
          first | rw [if_pos hm] at HP | rw [if_neg hm] at HP
          have hG3 := HBK.out w3 hb3
          have c0 := hG3.c0
          have c1 := hG3.c1
          have c2 := hG3.c2
          have c3 := hG3.c3
          go_wp2_with fail
          refine (HP.out w3 hb3).mono ?_
          rintro e w4 ⟨rfl, hb4⟩
          have hb34 := hb3.trans (hb4.mono hb3.size)
          have hG4 := HBK.out w4 hb34
          clear c0 c1 c2 c3 hG3
          have c0 := hG4.c0
          have c1 := hG4.c1
          have c2 := hG4.c2
          have c3 := hG4.c3
          go_wp2_with fail
          refine (HP.out w4 hb34).mono ?_
          rintro e w5 ⟨rfl, hb5⟩
          clear c0 c1 c2 c3 hG4
          go_wp2_with fail
          go_ret
          exact ⟨retb (by simp; omega), HBX.out.trans ((hb34.trans (hb5.mono (by have := hb34.size; omega))).mono (by omega))⟩
  · have HLC := Lib.hid (fun n h1 h2 => long_check 1 n h1 h2)
    simp only [most] at HLC
    obtain ⟨n, hn, hn1, hn2⟩ : ∃ n : Nat, (48 + (u : Int) - 1) = n ∧ 1 ≤ n ∧ n ≤ 1000 := ⟨48 + u - 1, by omega, by omega, by omega⟩
    obtain ⟨W, hW⟩ : ∃ W, (w.alloc (.cells #[.int .i64 24, .int .i64 48, .int .i64 96] 3)).alloc (.cells #[.slice none 0 0, .slice none 0 0, .slice none 0 0, .slice none 0 0] 26) = W := ⟨_, rfl⟩
    have hG0 : Blk W (w.heap.size + 1) (.slice none 0 0) (.slice none 0 0) (.slice none 0 0) := by rw [← hW]; exact two_new _ _ _
    have HBW : Hid (Below w.heap.size w W) := by rw [Hid, ← hW]; exact ((Below.refl _ _).alloc (Nat.le_refl _) _).alloc (by simp) _
    have HZ : Hid (W.heap.size = w.heap.size + 2) := by rw [Hid, ← hW]; simp
    have HW := Lib.hid hW
    clear hW
    have HG := Lib.hid hG0
    clear hG0
    obtain ⟨ih, hih, hz0, hz1, hz2⟩ := info_parts infoS
    go_enter Try.func4, Try.ntmps4
    go_wp2_with fail
    refine (HK1.out _).mono ?_
    rintro e wx ⟨rfl, rfl⟩
    go_wp2_with fail
    refine (HK2.out _).mono ?_
    rintro e wx ⟨rfl, rfl⟩
    go_upto_region 4 with fail
    rw [HW.out]
    try rw [hn]
    clear HW hn
    go_wp2_with fail
    go_loopw [8] (fun i wr => ∃ (k c : Nat) (A : Option Addr), k ≤ n ∧ i = .int .i64 k ∧ Own sR wr W.heap.size (.slice A k c) k (many k) ∧ Blk wr (w.heap.size + 1) (.slice none 0 0) (.slice A k c) (.slice none 0 0) ∧ Below (w.heap.size + 1) W wr) (fun i _ => n - (intOf i).toNat)
    case atStart => exact ⟨0, 0, none, Nat.zero_le _, rfl, Own.nil _ _, HG.out, Below.refl _ _⟩
    case round =>
      obtain ⟨k, c, A, hk, rfl, hO, hG, hbw⟩ := hrel
      have hzW := hbw.size
      by_cases hlt : k < n
      · have hcat : (ByteArray.mk #[97]) ++ str (dec k) = str (97 :: dec k) := bs_ext (by rw [bs_append, bs_str, bs_str]; rfl)
        have hsum : (ByteArray.mk #[97]).size + (str (dec k)).size ≤ 9223372036854775807 := by rw [size_str]; have h1 : (ByteArray.mk #[97]).size = 1 := rfl; have h2 := dec_len k (by omega) (by omega); omega
        have hlen : (dec k).length ≤ 20 := dec_len k (by omega) (by omega)
        have hkn : (k : Int) < (n : Int) := by omega
        go_wp2_with fail
        refine (r_dec k _ (by omega) (by omega)).mono ?_
        rintro e wy ⟨rfl, rfl⟩
        go_wp2_with fail
        refine (HK1.out _).mono ?_
        rintro e wx ⟨rfl, rfl⟩
        go_upto_region 13 with fail
        clear hcat hsum
        have c0 := hG.c1
        have HO := Lib.hid hO
        have HGk := Lib.hid hG
        have hgW : w.heap.size + 2 ≤ W.heap.size := by rw [HZ.out]; omega
        have hgr : w.heap.size + 1 < wr.heap.size := hG.lt
        have hn63 : k + 1 ≤ maxLen := by unfold maxLen; omega
        have hby : (k + 1) * 16 ≤ 140737488355328 := by omega
        clear hO hG
        go_wp2_with (at_builtin; refine wpList_append_own _ rfl _ _ 22 rfl W.heap.size 9 ih _ 1 16 Try.underlying22 hih hz0 hz1 hz2 rfl (by omega) (.slice A k c) k (sR.cs (many k)) rfl (HO.out.2.alloc _) ⟨wr.heap.size, 0, none⟩ 1 1 [.string (str (97 :: dec k))] rfl rfl (cell_one_new _ _ _) (one_cell _ rfl) hn63 hby (by simp; omega) ?_)
        intro v w1 hown hgrow _
        have hO' := Own.push (R := sR) (a := 97 :: dec k) HO.out.1 hown
        obtain ⟨A', c', rfl, _⟩ := hO'.form
        have HO2 : Hid (Own sR w1 W.heap.size (.slice A' (k + 1) c') (k + 1) (many (k + 1))) := by rw [Hid, many_succ]; exact hO'
        have hge : ∀ g, (Value.slice A k c).ownBlock = some g → W.heap.size ≤ g := fun g hg => (HO.out.2.lt g hg).1
        have hb' : Below (w.heap.size + 1) W w1 := (hbw.alloc (by omega) _).grown hgrow (by simp; omega) (fun j hj => by have := hge j hj; omega)
        have HG1 : Hid (Blk w1 (w.heap.size + 1) (.slice none 0 0) (.slice A k c) (.slice none 0 0)) := (hgrow.block (w.heap.size + 1) (by simp; omega) (fun e => by have := hge _ e.symm; omega)).trans ((((Below.refl wr.heap.size wr).alloc (Nat.le_refl _) _).block _ hgr).trans HGk.out)
        have c1 := HG1.out.c1
        have f1 := HG1.out.f 1
        clear hown hgrow hO' HO HGk c0 hge hbw
        go_wp2_with fail
        go_roundw
        case rel => exact ⟨k + 1, c', A', by omega, by go_num, own_set HO2.out (by omega), HG1.out.put1 _, hb'.setCell (by simp) _⟩
        case measure => simp [intOf]; omega
      · obtain rfl : k = n := by omega
        have hgr := hG.lt
        have hgW := HZ.out
        obtain ⟨X, hX⟩ : ∃ X, (wr.setCell ⟨w.heap.size + 1, 2, none⟩ (.slice (some ⟨wr.heap.size, 0, none⟩) 1 1)).alloc (.cells #[.string ⟨#[88]⟩, .int .i64 400, .int .i64 100000, .int .i64 (-40), .int .i64 (-1)] 44) = X := ⟨_, rfl⟩
        have hS := one_sec (wr.setCell ⟨w.heap.size + 1, 2, none⟩ (.slice (some ⟨wr.heap.size, 0, none⟩) 1 1)) one
        simp only [World.size_setCell] at hS
        have hOX := ((own_set (j := 2) (u := .slice (some ⟨wr.heap.size, 0, none⟩) 1 1) hO (show w.heap.size + 1 < W.heap.size by omega)).alloc (.cells #[.string ⟨#[88]⟩, .int .i64 400, .int .i64 100000, .int .i64 (-40), .int .i64 (-1)] 44)).rd
        have hGX : Blk X (w.heap.size + 1) (.slice none 0 0) (.slice A k c) (.slice (some ⟨wr.heap.size, 0, none⟩) 1 1) := by
          rw [← hX]
          exact (hG.put2 _).below ((Below.refl _ _).alloc (Nat.le_refl _) _) (by simpa using hgr)
        have hbX : Below (w.heap.size + 1) W X := by
          rw [← hX]
          exact (hbw.setCell (by simp) _).alloc (by simp; omega) _
        have hzX : X.heap.size = wr.heap.size + 1 := by rw [← hX]; simp
        have hRX : RdL X X.heap.size ⟨none, 0, 0, A, k, c, some ⟨wr.heap.size, 0, none⟩, 1, 1, none, 0, 0⟩ (long 1 k) := by
          rw [← hX] at hzX ⊢
          exact ⟨Rd.nil _ _ _, hOX, hS.more (by simp), Rd.nil _ _ _, by show (0 : Nat) ≤ _; decide, by show k ≤ _; omega, by show (1 : Nat) ≤ _; decide, by show (0 : Nat) ≤ _; decide, nofun, many_short k hn2, fun t ht => by simp [long] at ht; subst ht; decide⟩
        have HX := Lib.hid hX
        clear hX hS hOX hzX
        have hbX2 := HBW.out.trans (hbX.mono (by omega))
        have HBX := Lib.hid hbX2
        have hXg : w.heap.size + 1 < X.heap.size := hGX.lt
        have HRD : Hid (∀ wx, Below X.heap.size X wx → RdL wx wx.heap.size ⟨none, 0, 0, A, k, c, some ⟨wr.heap.size, 0, none⟩, 1, 1, none, 0, 0⟩ (long 1 k)) := fun wx hb => hRX.grow hb hb.size
        have HBK : Hid (∀ wx, Below X.heap.size X wx → Blk wx (w.heap.size + 1) (.slice none 0 0) (.slice A k c) (.slice (some ⟨wr.heap.size, 0, none⟩) 1 1)) := fun wx hb => hGX.below hb hXg
        have HE := Lib.hid (HLC.out k hn1 hn2)
        have c2 := hG.c2
        have f2 := hG.f 2
        clear hO hG HG hGX hRX hbX hbX2 hbw
        go_upto_region 16 with fail
        rw [HX.out]
        clear HX c2 f2
        go_wp2_with fail
        refine (awake_any X).mono ?_
        rintro e w3 ⟨rfl, hb3⟩
        have HP : Hid (∀ wx, Below X.heap.size X wx → Calls Try.prog 17 #[LV.val ⟨none, 0, 0, A, k, c, some ⟨wr.heap.size, 0, none⟩, 1, 1, none, 0, 0⟩] wx (ErrPost (if k ≤ 48 then 0 else 7) wx)) := fun wx hb => by
          have := p_check _ _ wx (HRD.out wx hb)
          rw [HE.out] at this
          exact this
        simp only [LV.val] at HP
        clear HRD HE
        by_cases hm : k ≤ 48
        all_goals
          first | rw [if_pos hm] at HP | rw [if_neg hm] at HP
          have hG3 := HBK.out w3 hb3
          have c0 := hG3.c0
          have c1 := hG3.c1
          have c2 := hG3.c2
          have c3 := hG3.c3
          go_wp2_with fail
          refine (HP.out w3 hb3).mono ?_
          rintro e w4 ⟨rfl, hb4⟩
          have hb34 := hb3.trans (hb4.mono hb3.size)
          have hG4 := HBK.out w4 hb34
          clear c0 c1 c2 c3 hG3
          have c0 := hG4.c0
          have c1 := hG4.c1
          have c2 := hG4.c2
          have c3 := hG4.c3
          go_wp2_with fail
          refine (HP.out w4 hb34).mono ?_
          rintro e w5 ⟨rfl, hb5⟩
          clear c0 c1 c2 c3 hG4
          go_wp2_with fail
          go_ret
          exact ⟨retb (by simp; omega), HBX.out.trans ((hb34.trans (hb5.mono (by have := hb34.size; omega))).mono (by omega))⟩
  · have HLC := Lib.hid (fun n h1 h2 => long_check 2 n h1 h2)
    simp only [most] at HLC
    obtain ⟨n, hn, hn1, hn2⟩ : ∃ n : Nat, (96 + (u : Int) - 1) = n ∧ 1 ≤ n ∧ n ≤ 1000 := ⟨96 + u - 1, by omega, by omega, by omega⟩
    obtain ⟨W, hW⟩ : ∃ W, (w.alloc (.cells #[.int .i64 24, .int .i64 48, .int .i64 96] 3)).alloc (.cells #[.slice none 0 0, .slice none 0 0, .slice none 0 0, .slice none 0 0] 26) = W := ⟨_, rfl⟩
    have hG0 : Blk W (w.heap.size + 1) (.slice none 0 0) (.slice none 0 0) (.slice none 0 0) := by rw [← hW]; exact two_new _ _ _
    have HBW : Hid (Below w.heap.size w W) := by rw [Hid, ← hW]; exact ((Below.refl _ _).alloc (Nat.le_refl _) _).alloc (by simp) _
    have HZ : Hid (W.heap.size = w.heap.size + 2) := by rw [Hid, ← hW]; simp
    have HW := Lib.hid hW
    clear hW
    have HG := Lib.hid hG0
    clear hG0
    obtain ⟨ih, hih, hz0, hz1, hz2⟩ := info_parts infoSec
    go_enter Try.func4, Try.ntmps4
    go_wp2_with fail
    refine (HK1.out _).mono ?_
    rintro e wx ⟨rfl, rfl⟩
    go_wp2_with fail
    refine (HK2.out _).mono ?_
    rintro e wx ⟨rfl, rfl⟩
    go_upto_region 4 with fail
    rw [HW.out]
    try rw [hn]
    clear HW hn
    go_wp2_with fail
    go_loopw [8] (fun i wr => ∃ (k c : Nat) (A : Option Addr), k ≤ n ∧ i = .int .i64 k ∧ Own secR wr W.heap.size (.slice A k c) k (mSec k) ∧ Blk wr (w.heap.size + 1) (.slice none 0 0) (.slice none 0 0) (.slice A k c) ∧ Below (w.heap.size + 1) W wr) (fun i _ => n - (intOf i).toNat)
    case atStart => exact ⟨0, 0, none, Nat.zero_le _, rfl, Own.nil _ _, HG.out, Below.refl _ _⟩
    case round =>
      obtain ⟨k, c, A, hk, rfl, hO, hG, hbw⟩ := hrel
      have hzW := hbw.size
      by_cases hlt : k < n
      · have hcat : (ByteArray.mk #[97]) ++ str (dec k) = str (97 :: dec k) := bs_ext (by rw [bs_append, bs_str, bs_str]; rfl)
        have hsum : (ByteArray.mk #[97]).size + (str (dec k)).size ≤ 9223372036854775807 := by rw [size_str]; have h1 : (ByteArray.mk #[97]).size = 1 := rfl; have h2 := dec_len k (by omega) (by omega); omega
        have hlen : (dec k).length ≤ 20 := dec_len k (by omega) (by omega)
        have hkn : (k : Int) < (n : Int) := by omega
        go_wp2_with fail
        refine (r_dec k _ (by omega) (by omega)).mono ?_
        rintro e wy ⟨rfl, rfl⟩
        go_wp2_with fail
        refine (HK1.out _).mono ?_
        rintro e wx ⟨rfl, rfl⟩
        go_upto_region 9 with fail
        clear hcat hsum
        have c0 := hG.c2
        have HO := Lib.hid hO
        have HGk := Lib.hid hG
        have hgW : w.heap.size + 2 ≤ W.heap.size := by rw [HZ.out]; omega
        have hgr : w.heap.size + 1 < wr.heap.size := hG.lt
        have hn63 : k + 1 ≤ maxLen := by unfold maxLen; omega
        have hby : (k + 1) * 48 ≤ 140737488355328 := by omega
        clear hO hG
        go_wp2_with (at_builtin; refine wpList_append_own _ rfl _ _ 23 rfl W.heap.size 44 ih _ 5 48 Try.underlying23 hih hz0 hz1 hz2 rfl (by omega) (.slice A k c) k (secR.cs (mSec k)) rfl (HO.out.2.alloc _) ⟨wr.heap.size, 0, none⟩ 1 1 [.string (str (97 :: dec k)), .int .i64 1, .int .i64 1000, .int .i64 0, .int .i64 (-1)] rfl rfl (World.news_of_block (cs := #[.string (str (97 :: dec k)), .int .i64 1, .int .i64 1000, .int .i64 0, .int .i64 (-1)]) (t := 44) (fr := (0, 0)) (heap_alloc_new _ _)) (by simp [Value.oneCell']) hn63 hby (by simp; omega) ?_)
        intro v w1 hown hgrow _
        have hO' := Own.push (R := secR) (a := ⟨97 :: dec k, 1, 1000, 0, -1⟩) HO.out.1 hown
        obtain ⟨A', c', rfl, _⟩ := hO'.form
        have HO2 : Hid (Own secR w1 W.heap.size (.slice A' (k + 1) c') (k + 1) (mSec (k + 1))) := by rw [Hid, mSec_succ]; exact hO'
        have hge : ∀ g, (Value.slice A k c).ownBlock = some g → W.heap.size ≤ g := fun g hg => (HO.out.2.lt g hg).1
        have hb' : Below (w.heap.size + 1) W w1 := (hbw.alloc (by omega) _).grown hgrow (by simp; omega) (fun j hj => by have := hge j hj; omega)
        have HG1 : Hid (Blk w1 (w.heap.size + 1) (.slice none 0 0) (.slice none 0 0) (.slice A k c)) := (hgrow.block (w.heap.size + 1) (by simp; omega) (fun e => by have := hge _ e.symm; omega)).trans ((((Below.refl wr.heap.size wr).alloc (Nat.le_refl _) _).block _ hgr).trans HGk.out)
        have c1 := HG1.out.c2
        have f1 := HG1.out.f 2
        clear hown hgrow hO' HO HGk c0 hge hbw
        go_wp2_with fail
        go_roundw
        case rel => exact ⟨k + 1, c', A', by omega, by go_num, own_set HO2.out (by omega), HG1.out.put2 _, hb'.setCell (by simp) _⟩
        case measure => simp [intOf]; omega
      · obtain rfl : k = n := by omega
        have hgr := hG.lt
        have hgW := HZ.out
        have hX : wr = wr := rfl
        have hXz : 0 < k := by omega
        obtain ⟨X, hX⟩ : ∃ X, wr = X := ⟨_, rfl⟩
        have hGX : Blk X (w.heap.size + 1) (.slice none 0 0) (.slice none 0 0) (.slice A k c) := by rw [← hX]; exact hG
        have hbX : Below (w.heap.size + 1) W X := by rw [← hX]; exact hbw
        have hRX : RdL X X.heap.size ⟨none, 0, 0, none, 0, 0, A, k, c, none, 0, 0⟩ (long 2 k) := by
          rw [← hX]
          exact ⟨Rd.nil _ _ _, Rd.nil _ _ _, hO.rd, Rd.nil _ _ _, by show (0 : Nat) ≤ _; decide, by show (0 : Nat) ≤ _; decide, by show k ≤ _; omega, by show (0 : Nat) ≤ _; decide, nofun, nofun, mSec_short k hn2⟩
        have HX := Lib.hid hX
        clear hX
        have hbX2 := HBW.out.trans (hbX.mono (by omega))
        have HBX := Lib.hid hbX2
        have hXg : w.heap.size + 1 < X.heap.size := hGX.lt
        have HRD : Hid (∀ wx, Below X.heap.size X wx → RdL wx wx.heap.size ⟨none, 0, 0, none, 0, 0, A, k, c, none, 0, 0⟩ (long 2 k)) := fun wx hb => hRX.grow hb hb.size
        have HBK : Hid (∀ wx, Below X.heap.size X wx → Blk wx (w.heap.size + 1) (.slice none 0 0) (.slice none 0 0) (.slice A k c)) := fun wx hb => hGX.below hb hXg
        have HE := Lib.hid (HLC.out k hn1 hn2)
        have c2 := hG.c2
        have f2 := hG.f 2
        clear hO hG HG hGX hRX hbX hbX2 hbw
        go_upto_region 16 with fail
        rw [HX.out]
        clear HX c2 f2
        go_wp2_with fail
        refine (awake_any X).mono ?_
        rintro e w3 ⟨rfl, hb3⟩
        have HP : Hid (∀ wx, Below X.heap.size X wx → Calls Try.prog 17 #[LV.val ⟨none, 0, 0, none, 0, 0, A, k, c, none, 0, 0⟩] wx (ErrPost (if k ≤ 96 then 0 else 7) wx)) := fun wx hb => by
          have := p_check _ _ wx (HRD.out wx hb)
          rw [HE.out] at this
          exact this
        simp only [LV.val] at HP
        clear HRD HE
        by_cases hm : k ≤ 96
        all_goals
          first | rw [if_pos hm] at HP | rw [if_neg hm] at HP
          have hG3 := HBK.out w3 hb3
          have c0 := hG3.c0
          have c1 := hG3.c1
          have c2 := hG3.c2
          have c3 := hG3.c3
          go_wp2_with fail
          refine (HP.out w3 hb3).mono ?_
          rintro e w4 ⟨rfl, hb4⟩
          have hb34 := hb3.trans (hb4.mono hb3.size)
          have hG4 := HBK.out w4 hb34
          clear c0 c1 c2 c3 hG3
          have c0 := hG4.c0
          have c1 := hG4.c1
          have c2 := hG4.c2
          have c3 := hG4.c3
          go_wp2_with fail
          refine (HP.out w4 hb34).mono ?_
          rintro e w5 ⟨rfl, hb5⟩
          clear c0 c1 c2 c3 hG4
          go_wp2_with fail
          go_ret
          exact ⟨retb (by simp; omega), HBX.out.trans ((hb34.trans (hb5.mono (by have := hb34.size; omega))).mono (by omega))⟩
end Go.Proofs.Ytdcbaedhgoipjaa.Limits
