/-
  The walk of the statement on the limits of a route.
-/
import Derived.Test.YtnfelcjpjodjhaaML
import Derived.Test.YtnfelcjpjodjhaaMD
namespace Go.Proofs.Ytnfelcjpjodjhaa.WLm
open Go.ChangeShapes Go.WideShapes Go.ChangeAt Go.RowKit Wd Small Mem Lay LayT Recs Keep Names PNames PSecs PEnds PCheck PStep PHops RNames PPar RPar Dec Rt RtR PTra PCls Awake Exr Awk7
set_option linter.unusedVariables false

theorem ex_ok : check exLay = 0 := by decide +kernel
/-- the first error of a route of one step, again and again -/
theorem same_steps (n : Nat) (s : Lay.Step) (ov : Int) : rerr exLay ⟨List.replicate n s, ov⟩ ≠ 0 ∧ (rerr exLay ⟨List.replicate n s, ov⟩ = 7 ↔ 24 < n ∨ 2 < ov) := by
  by_cases h1 : 24 < n ∨ 2 < ov
  · have e : rerr exLay ⟨List.replicate n s, ov⟩ = 7 := err_b ex_ok (by rw [List.length_replicate]; exact h1)
    rw [e]
    exact ⟨by decide, by simp [h1]⟩
  · have h1' : ¬ (24 < (List.replicate n s).length ∨ 2 < ov) := by rw [List.length_replicate]; exact h1
    by_cases h2 : ov < 0 ∨ ((List.replicate n s).length : Int) - ov < 2 ∨ ((List.replicate n s).any fun s => !stepIn exLay.sections.length s) = true
    · have e : rerr exLay ⟨List.replicate n s, ov⟩ = 4 := err_c ex_ok h1' h2
      rw [e]
      exact ⟨by decide, ⟨(fun h => by cases h), fun h => absurd h h1⟩⟩
    · have hn : 2 ≤ n := by rw [List.length_replicate] at h2; omega
      obtain ⟨m, rfl⟩ : ∃ m, n = m + 2 := ⟨n - 2, by omega⟩
      have h3 : twice [] (List.replicate (m + 2) s) = true := by simp [List.replicate_succ, twice, pass]
      have e : rerr exLay ⟨List.replicate (m + 2) s, ov⟩ = 5 := err_d ex_ok h1' h2 h3
      rw [e]
      exact ⟨by decide, ⟨(fun h => by cases h), fun h => absurd h h1⟩⟩

/-- block g holds a route -/
def RBox (w : World) (g : Nat) (A : Option Addr) (n c : Nat) (ov : Int) : Prop := w.heap[g]? = some (.cells #[.slice A n c, .int .i64 ov] 26 (0, 0))
theorem RBox.cells {w : World} {g n c : Nat} {A : Option Addr} {ov : Int} (h : RBox w g A n c ov) : w.cell? ⟨g, 0, none⟩ = some (.slice A n c) ∧ w.cell? ⟨g, 1, none⟩ = some (.int .i64 ov) ∧ w.frozen? ⟨g, 0, none⟩ = false ∧ w.frozen? ⟨g, 1, none⟩ = false ∧ g < w.heap.size := by
  have h' : w.heap[g]? = _ := h
  exact ⟨by simp [World.cell?, h'], by simp [World.cell?, h'], by simp [World.frozen?, h'], by simp [World.frozen?, h'], lt_of_block h⟩
theorem RBox.put {w : World} {g n c n' c' : Nat} {A A' : Option Addr} {ov : Int} (h : RBox w g A n c ov) : RBox (w.setCell ⟨g, 0, none⟩ (.slice A' n' c')) g A' n' c' ov := by
  unfold RBox at h ⊢
  rw [Go.setCell_eq_setRow w g 0 _ _ _ (.slice A' n' c') h]
  exact setRow_heap w g _ _ _ _ h

set_option maxRecDepth 100000 in
set_option maxHeartbeats 4000000 in
theorem limits (a b x y : Int) (w : World) (wa : -9223372036854775808 ≤ a) (wa2 : a ≤ 9223372036854775807) (wb : -9223372036854775808 ≤ b) (wb2 : b ≤ 9223372036854775807) : Calls Try.prog 4 #[.int .i64 a, .int .i64 b, .agg #[.int .i64 x, .int .i64 y]] w (Yes w) := by
  obtain ⟨ih, hih, hz0, hz1, hz2⟩ := info_parts infoStp
  obtain ⟨W, hW⟩ : ∃ W, w.alloc (.cells #[.int .i64 x, .int .i64 y] 23) = W := ⟨_, rfl⟩
  have hbW : Below w.heap.size w W := by rw [← hW]; exact (Below.refl _ _).alloc (Nat.le_refl _) _
  have hzW : W.heap.size = w.heap.size + 1 := by rw [← hW]; simp
  have hq : W.cell? ⟨w.heap.size, 0, none⟩ = some (.int .i64 x) ∧ W.cell? ⟨w.heap.size, 1, none⟩ = some (.int .i64 y) := by rw [← hW]; simp
  have HB := Lib.hid hbW
  have HZ := Lib.hid hzW
  have HQ := Lib.hid hq
  clear hbW hzW hq
  go_enter Try.func4, Try.ntmps4
  go_upto_region 1 with fail
  try rw [hW]
  clear hW
  go_wp2_with fail
  refine (pick_any a 27 _ wa wa2 (by decide) (by decide)).mono ?_
  rintro e wx ⟨rfl, rfl⟩
  obtain ⟨p0, p1⟩ := pick_range a 27 (by decide)
  obtain ⟨n, hn⟩ : ∃ n : Nat, pick a 27 = (n : Int) := ⟨(pick a 27).toNat, by omega⟩
  rw [hn] at p0 p1 ⊢
  clear hn
  obtain ⟨W2, hW2⟩ : ∃ W2, W.alloc (.cells #[.slice none 0 0, .int .i64 b] 26) = W2 := ⟨_, rfl⟩
  have hb2 : Below W.heap.size W W2 := by rw [← hW2]; exact (Below.refl _ _).alloc (Nat.le_refl _) _
  have hz2' : W2.heap.size = W.heap.size + 1 := by rw [← hW2]; simp
  have hr2 : RBox W2 W.heap.size none 0 0 b := by rw [← hW2]; exact heap_alloc_new _ _
  have HB2 := Lib.hid hb2
  have HR2 := Lib.hid hr2
  have HZ2 := Lib.hid hz2'
  clear hb2 hr2 hz2'
  go_upto_region 3 with fail
  try rw [hW2]
  clear hW2
  go_wp2_with fail
  go_loopw [8] (fun i wr => ∃ (k cc : Nat) (A : Option Addr), k ≤ n ∧ i = .int .i64 k ∧ Hid (RBox wr W.heap.size A k cc b) ∧ Own stpR wr (W.heap.size + 1) (.slice A k cc) k (List.replicate k (x, y)) ∧ Below W.heap.size W wr) (fun i _ => n - (intOf i).toNat)
  case atStart => exact ⟨0, 0, none, Nat.zero_le _, rfl, HR2, Own.nil _ _, HB2.out⟩
  case round =>
    obtain ⟨k, cc, A, hk, rfl, HRb, hO, hbr⟩ := hrel
    obtain ⟨c0, c1, f0, f1, hlt0⟩ := HRb.out.cells
    have hzr := hbr.size
    have HBR := Lib.hid hbr
    have HO := Lib.hid hO
    by_cases hlt : k < n
    · have hlt' : (k : Int) < (n : Int) := by omega
      have q0 := (hbr.cell (p := ⟨w.heap.size, 0, none⟩) (by have := HZ.out; show w.heap.size < _; omega)).trans HQ.out.1
      have q1 := (hbr.cell (p := ⟨w.heap.size, 1, none⟩) (by have := HZ.out; show w.heap.size < _; omega)).trans HQ.out.2
      have hn63 : k + 1 ≤ maxLen := by unfold maxLen; omega
      have hby : (k + 1) * 16 ≤ 140737488355328 := by omega
      clear hO hbr
      go_wp2_with (at_builtin; refine wpList_append_own _ rfl _ _ 24 rfl (W.heap.size + 1) 23 ih _ 2 16 Try.underlying24 hih hz0 hz1 hz2 rfl (by omega) (.slice A k cc) k (stpR.cs (List.replicate k (x, y))) rfl (HO.out.2.alloc _) ⟨wr.heap.size, 0, none⟩ 1 1 [.int .i64 x, .int .i64 y] rfl rfl (World.news_of_block (cs := #[.int .i64 x, .int .i64 y]) (t := 23) (fr := (0, 0)) (heap_alloc_new _ _)) (by simp [Value.oneCell']) hn63 hby (by simp; omega) ?_; intro v7 w7 hown7 hgrow7 hnil7; have hO7 := Own.push (R := stpR) (a := (x, y)) HO.out.1 hown7; obtain ⟨A', c7, rfl, _⟩ := hO7.form; have hg7 := (HRb.out.cells).2.2.2.2; have hr7 : RBox w7 W.heap.size A k cc b := (hgrow7.block _ (by simp; omega) (fun e => by have := (HO.out.2.lt _ e.symm).1; omega)).trans ((Below.heap_alloc _ _ _ hg7).trans HRb.out); have hb7 := ((HBR.out.alloc (by omega) (.cells #[.int .i64 x, .int .i64 y] 23)).grown hgrow7 (by simp; omega) (fun k hk => by have := (HO.out.2.lt k hk).1; omega)); have HO7 := Lib.hid hO7; have HR7 := Lib.hid hr7; have HB7 := Lib.hid hb7; obtain ⟨d0, d1, g0, g1, _⟩ := hr7.cells; clear hown7 hgrow7 hO7 hr7 hb7 hnil7)
      go_roundw
      case rel => exact ⟨k + 1, c7, A', by omega, by go_num, HR7.out.put, by rw [List.replicate_succ']; exact own_past HO7.out (fun e => by have := (HO7.out.2.lt _ e).1; omega), HB7.out.setCell (Nat.le_refl _) _⟩
      case measure => simp [intOf]; omega
    · obtain rfl : k = n := by omega
      have hlt' : ¬ (k : Int) < (k : Int) := by omega
      clear hO hbr
      go_upto_region 7 with fail
      have hb0 := Below.refl wr.heap.size wr
      have HRD := Lib.hid HO.out.rd
      have hck : k ≤ cc ∧ cc ≤ maxLen := by
        rcases HO.out.form with ⟨A', c', e, h1, h2⟩
        injection e with e1 e2 e3
        subst e3
        exact ⟨h1, h2⟩
      have HCH : Hid (∀ wx v, RdL wx wx.heap.size v exLay → Below wr.heap.size wr wx → Calls Try.prog 16 #[v.val, .agg #[.slice A k cc, .int .i64 b]] wx (ErrPost (rerr exLay ⟨List.replicate k (x, y), b⟩) wx)) := fun wx v h1 h2 =>
        p_rcheck v exLay A k cc (List.replicate k (x, y)) b wx h1 (HRD.out.grow h2 h2.size) hck.1 (by have := hck.2; unfold maxLen at this; omega) wb wb2
      have KA : Hid (∀ w', Below wr.heap.size wr w' → w'.cell? ⟨W.heap.size, 0, none⟩ = some (.slice A k cc) ∧ w'.cell? ⟨W.heap.size, 1, none⟩ = some (.int .i64 b) ∧ Below wr.heap.size wr w') := fun w' hb => ⟨(hb.cell (p := ⟨W.heap.size, 0, none⟩) hlt0).trans c0, (hb.cell (p := ⟨W.heap.size, 1, none⟩) hlt0).trans c1, hb⟩
      have HS := Lib.hid (same_steps k (x, y) b)
      generalize rerr exLay ⟨List.replicate k (x, y), b⟩ = z at HCH HS
      clear c0 c1 f0 f1
      go_region_held3 (fun w' => w'.cell? ⟨W.heap.size, 0, none⟩ = some (.slice A k cc) ∧ w'.cell? ⟨W.heap.size, 1, none⟩ = some (.int .i64 b) ∧ Below wr.heap.size wr w')
        (first | exact KA.out _ hb0.drew | exact KA.out _ (hb0.drew.trans (hbe.mono (by simp))) | exact KA.out _ ((hb0.drew.trans (hbe.mono (by simp))).trans (hbf.mono (by have := hbe.size; simp at this; omega))))
        ((first | (go_at_call 12; refine (example_any _).mono ?_; rintro e we ⟨v, rfl, hRe, hbe⟩) | (go_at_call 16; refine (HCH.out _ v hRe (hb0.drew.trans (hbe.mono (by simp)))).mono ?_; rintro e wf ⟨rfl, hbf⟩)))
      have hbl : Below wr.heap.size wr wf := (hb0.drew.trans (hbe.mono (by simp))).trans (hbf.mono (by have := hbe.size; simp at this; omega))
      have HBL := Lib.hid (HB.out.trans ((HBR.out.trans (hbl.mono hzr)).mono HB.out.size))
      clear hbl hbe hbf hRe KA HCH
      go_wp2_with fail
      refine (awake7 _).mono ?_
      rintro e wg ⟨rfl, hbg⟩
      have HBG := Lib.hid (HBL.out.trans (hbg.mono HBL.out.size))
      clear hbg
      have hz := HS.out.1
      have hz7 := HS.out.2
      by_cases h24 : 24 < k
      · have h24' : (24 : Int) < (k : Int) := by omega
        obtain rfl : z = 7 := hz7.2 (.inl h24)
        clear hz hz7 h24
        go_wp2_with fail
        go_ret
        exact ⟨rfl, HBG.out⟩
      · have h24' : ¬ (24 : Int) < (k : Int) := by omega
        by_cases h2 : 2 < b
        · obtain rfl : z = 7 := hz7.2 (.inr h2)
          clear hz hz7 h24
          go_wp2_with fail
          go_ret
          exact ⟨rfl, HBG.out⟩
        · have hne : (z == 7) = false := by
            rw [beq_eq_false_iff_ne]
            exact fun e => by have := hz7.1 e; omega
          have hne0 : (z != 0) = true := by rw [bne_iff_ne]; exact hz
          clear hz hz7 h24
          go_wp2_with fail
          go_ret
          exact ⟨retb (by simp [h24', h2]), HBG.out⟩
end Go.Proofs.Ytnfelcjpjodjhaa.WLm
