/-
  Contract of the program's function that takes a line of a link into the draft.
-/
import Derived.Test.YtdcbaedhgoipjaaDSec
namespace Go.Proofs.Ytdcbaedhgoipjaa.DLnk
open Go.ChangeShapes Go.WideShapes Go.ChangeAt Go.RowKit Wd Small Mem Lay LayT Recs Keep Names PNames PSecs PEnds RNames Num Txt App Dft DSec
set_option linter.unusedVariables false

theorem infoLnk : (Try.prog.info? 74).map (fun i => (i.zero, i.size, i.bytes)) = some (some (.agg #[.int .i64 0, .int .i64 0, .int .i64 0, .int .i64 0, .int .i64 0, .int .i64 0]), 6, 48) := by kernel_rfl
/-- what a line of a link declares, by its operands -/
def declL (l : Lay) : List Bs → Lay × Int
  | [a, b, c, d] => declLink l a b c d []
  | [a, b, c, d, x, y] => declLink l a b c d [x, y]
  | _ => (l, 2)
theorem declL_other (l : Lay) (O : List Bs) (h4 : O.length ≠ 4) (h6 : O.length ≠ 6) : declL l O = (l, 2) := by
  match O with
  | [] => rfl
  | [_] => rfl
  | [_, _] => rfl
  | [_, _, _] => rfl
  | [_, _, _, _] => exact absurd rfl h4
  | [_, _, _, _, _] => rfl
  | [_, _, _, _, _, _] => exact absurd rfl h6
  | _ :: _ :: _ :: _ :: _ :: _ :: _ :: _ => rfl
theorem end_neg (s : Bs) : decide (LayT.endOf s < 0) = !endB s := by
  unfold LayT.endOf endB
  by_cases h1 : s = [65]
  · rw [if_pos h1]; simp [h1]
  · rw [if_neg h1]
    by_cases h2 : s = [66]
    · rw [if_pos h2]; simp [h2]
    · rw [if_neg h2]; simp [h1, h2]
theorem end_val {s : Bs} (h : endB s = true) : LayT.endOf s = endV s := by
  unfold LayT.endOf endV
  unfold endB at h
  by_cases h1 : s = [65]
  · rw [if_pos h1, if_pos h1]
  · rw [if_neg h1, if_neg h1]
    by_cases h2 : s = [66]
    · rw [if_pos h2, if_pos h2]
    · simp [h1, h2] at h
theorem link_bad {l : Lay} {a ae b be : Bs} {more : List Bs} (h : (!endB ae || !endB be || !((more.drop 1).head?.all fun w => w == [48] || w == [49])) = true) : declLink l a ae b be more = (l, 2) := by
  unfold declLink
  rw [end_neg, end_neg, if_pos h]
theorem link_lost {l : Lay} {a ae b be : Bs} {more : List Bs} (h : (!endB ae || !endB be || !((more.drop 1).head?.all fun w => w == [48] || w == [49])) = false) (hp : place 0 (l.sections.map Sec.name) a < 0 ∨ place 0 (l.sections.map Sec.name) b < 0) : declLink l a ae b be more = (l, 3) := by
  unfold declLink
  rw [end_neg, end_neg, if_neg (by rw [h]; decide), if_pos hp]
theorem link_plain {l : Lay} {a ae b be : Bs} (h1 : endB ae = true) (h2 : endB be = true) (hp : ¬ (place 0 (l.sections.map Sec.name) a < 0 ∨ place 0 (l.sections.map Sec.name) b < 0)) :
    declLink l a ae b be [] = ({ l with links := l.links ++ [⟨place 0 (l.sections.map Sec.name) a, endV ae, place 0 (l.sections.map Sec.name) b, endV be, -1, 0⟩] }, 0) := by
  unfold declLink
  rw [end_neg, end_neg, if_neg (by rw [h1, h2]; simp), if_neg hp, end_val h1, end_val h2]
theorem link_nopt {l : Lay} {a ae b be p q : Bs} (h1 : endB ae = true) (h2 : endB be = true) (h3 : posB q = true) (hp : ¬ (place 0 (l.sections.map Sec.name) a < 0 ∨ place 0 (l.sections.map Sec.name) b < 0)) (hpt : place 0 l.points p < 0) :
    declLink l a ae b be [p, q] = (l, 3) := by
  unfold declLink
  unfold posB at h3
  rw [end_neg, end_neg, if_neg (by rw [h1, h2]; simp at h3 ⊢; rcases h3 with h3 | h3 <;> simp [h3]), if_neg hp]
  simp only
  rw [if_pos hpt]
theorem link_pt {l : Lay} {a ae b be p q : Bs} (h1 : endB ae = true) (h2 : endB be = true) (h3 : posB q = true) (hp : ¬ (place 0 (l.sections.map Sec.name) a < 0 ∨ place 0 (l.sections.map Sec.name) b < 0)) (hpt : ¬ place 0 l.points p < 0) :
    declLink l a ae b be [p, q] = ({ l with links := l.links ++ [⟨place 0 (l.sections.map Sec.name) a, endV ae, place 0 (l.sections.map Sec.name) b, endV be, place 0 l.points p, posV q⟩] }, 0) := by
  unfold declLink
  unfold posB at h3
  rw [end_neg, end_neg, if_neg (by rw [h1, h2]; simp at h3 ⊢; rcases h3 with h3 | h3 <;> simp [h3]), if_neg hp]
  simp only
  rw [if_neg hpt, end_val h1, end_val h2]
  rfl
/-- a look-up's answer, at whatever number of draws -/
theorem look_any {w : World} {m k : Nat} {L : List Bs} {s : Bs} (h : Nums w m k L) (hs : s.length ≤ 65537) {r : Bool} (hr : decide (0 ≤ place 0 L s) = r) :
    ∀ nd, (Instr.lookup 66 (.map (some m)) (.string (str s)) true).run Try.prog (w.drewN nd) = .ok (.tuple #[.int .i64 (numOf L s), .bool r]) (w.drewN nd) := fun nd => by
  have := (h.drewN nd).look (s := s) (by omega)
  rw [hr] at this
  exact this

set_option maxRecDepth 100000 in
set_option maxHeartbeats 8000000 in
theorem link_no (g m1 m2 m3 k : Nat) (l : Lay) (v : LV) (A : Option Addr) (n c : Nat) (O : List Bs) (w : World) (h : Dr w g m1 m2 m3 k l v) (hO : Opn w g A n O) (hk : k ≤ 100000) (hn : n ≤ 100) (hz : ∀ s ∈ O, s.length ≤ 65537) (h4 : n ≠ 4) (h6 : n ≠ 6) : Calls Try.prog 44 #[.pointer (some ⟨g, 0, none⟩), .slice A n c] w (DrPost g m1 m2 m3 (k + 1) (declL l O) w) := by
  have hl := hO.1.1
  rw [declL_other l O (by omega) (by omega)]
  have HS := Lib.hid (Dr.stay (z := 2) h (Below.refl _ _))
  have e6 : ((n : Int) == 6) = false := by simpa using (by omega : ¬ (n : Int) = 6)
  have e4 : ((n : Int) != 4) = true := by simpa using (by omega : ¬ (n : Int) = 4)
  clear h hO hl h4 h6
  go_enter Try.func44, Try.ntmps44
  go_wp2_with fail
  go_ret
  exact HS.out
set_option maxRecDepth 100000 in
set_option maxHeartbeats 8000000 in
theorem link_four (g m1 m2 m3 k : Nat) (l : Lay) (v : LV) (A : Option Addr) (n c : Nat) (O : List Bs) (w : World) (h : Dr w g m1 m2 m3 k l v) (hO : Opn w g A n O) (hk : k ≤ 100000) (hn : n ≤ 100) (hz : ∀ s ∈ O, s.length ≤ 65537) (h4 : n = 4) : Calls Try.prog 44 #[.pointer (some ⟨g, 0, none⟩), .slice A n c] w (DrPost g m1 m2 m3 (k + 1) (declL l O) w) := by
  obtain ⟨a, ae, b, be, rfl⟩ := four (hO.1.1.trans h4)
  subst h4
  obtain ⟨ad, rfl, hab, hadg⟩ := opn_lt hO (by omega)
  have o0 := opn_at0 hO rfl
  have o1 := opn_at (i := 1) hO rfl (by omega)
  have o2 := opn_at (i := 2) hO rfl (by omega)
  have o3 := opn_at (i := 3) hO rfl (by omega)
  have EA : Hid (∀ wx, Calls Try.prog 74 #[.string (str ae)] wx (Two (endV ae) (endB ae) wx)) := fun wx => end_of ae wx
  have EB : Hid (∀ wx, Calls Try.prog 74 #[.string (str be)] wx (Two (endV be) (endB be) wx)) := fun wx => end_of be wx
  have za : a.length ≤ 65537 := hz a (by simp)
  have zb : b.length ≤ 65537 := hz b (by simp)
  have hgw := h.blk.lt
  have k5 := h.blk.c5
  have k6 := h.blk.c6
  have HF : Hid (∀ W, Below w.heap.size w W → W.cell? ⟨g, 6, none⟩ = some (.map (some m3)) ∧ W.cell? ⟨g, 5, none⟩ = some (.map (some m2)) ∧ W.cell? ad = some (.string (str a)) ∧ W.cell? ⟨ad.block, ad.off + 2, none⟩ = some (.string (str b))) := fun W hb => ⟨(hb.cell (p := ⟨g, 6, none⟩) hgw).trans k6, (hb.cell (p := ⟨g, 5, none⟩) hgw).trans k5, (hb.cell hab).trans o0, (hb.cell (p := ⟨_, _, none⟩) hab).trans o2⟩
  cases g1 : endB ae with
  | false =>
    rw [g1] at EA
    have HX : Hid (declL l [a, ae, b, be] = (l, 2)) := link_bad (by rw [g1]; simp)
    rw [HX.out]
    have HS := Lib.hid (Dr.stay (z := 2) h (Below.refl _ _))
    clear h hO hz HX HF k5 k6
    go_enter Try.func44, Try.ntmps44
    go_wp2_with (first | (go_at_call 74; (with_reducible refine (EA.out _).mono ?_); rintro e w' ⟨rfl, rfl⟩) | (go_at_call 74; (with_reducible refine (EB.out _).mono ?_); rintro e w' ⟨rfl, rfl⟩))
    go_ret
    exact HS.out
  | true =>
    rw [g1] at EA
    cases g2 : endB be with
    | false =>
      rw [g2] at EB
      have HX : Hid (declL l [a, ae, b, be] = (l, 2)) := link_bad (by rw [g2, g1]; simp)
      rw [HX.out]
      have HS := Lib.hid (Dr.stay (z := 2) h (Below.refl _ _))
      clear h hO hz HX HF k5 k6
      go_enter Try.func44, Try.ntmps44
      go_wp2_with (first | (go_at_call 74; (with_reducible refine (EA.out _).mono ?_); rintro e w' ⟨rfl, rfl⟩) | (go_at_call 74; (with_reducible refine (EB.out _).mono ?_); rintro e w' ⟨rfl, rfl⟩))
      go_ret
      exact HS.out
    | true =>
      rw [g2] at EB
      cases pa : decide (0 ≤ place 0 (l.sections.map Sec.name) a) with
      | false =>
        have na : place 0 (l.sections.map Sec.name) a < 0 := by have := of_decide_eq_false pa; omega
        have HX : Hid (declL l [a, ae, b, be] = (l, 3)) := link_lost (by rw [g1, g2]; simp) (.inl na)
        rw [HX.out]
        have la := look_any h.q3 za pa
        have LB : Hid (∀ W, Below w.heap.size w W → _) := fun W hb => look_any (h.below hb).q3 zb rfl
        have HS := Lib.hid (fun w' (hb : Below w.heap.size w w') => Dr.stay (z := 3) h hb)
        clear h hO hz HX
        go_enter Try.func44, Try.ntmps44
        go_upto_region 11 with (first | (go_at_call 74; (with_reducible refine (EA.out _).mono ?_); rintro e w' ⟨rfl, rfl⟩) | (go_at_call 74; (with_reducible refine (EB.out _).mono ?_); rintro e w' ⟨rfl, rfl⟩))
        obtain ⟨f6, f5, f0, f2⟩ := HF.out w (Below.refl _ _)
        go_quiet (fail)
        generalize hW1 : w.drewN _ = W1
        have HB1 : Hid (Below w.heap.size w W1) := by rw [Hid, ← hW1]; exact Mem.below_draws (Below.refl _ _) _
        clear hW1 f6 f5 f0 f2 o0 o1 o2 o3 k5 k6
        have lb' := LB.out W1 HB1.out
        obtain ⟨f6, f5, f0, f2⟩ := HF.out W1 HB1.out
        go_upto_region 12 with fail
        go_quiet (fail)
        generalize hW2 : W1.drewN _ = W2
        have HB2 : Hid (Below w.heap.size w W2) := by rw [Hid, ← hW2]; exact Mem.below_draws HB1.out _
        clear hW2 f6 f5 f0 f2 lb'
        go_wp2_with fail
        go_ret
        exact HS.out _ HB2.out
      | true =>
        have na : ¬ place 0 (l.sections.map Sec.name) a < 0 := by have := of_decide_eq_true pa; omega
        cases pb : decide (0 ≤ place 0 (l.sections.map Sec.name) b) with
        | false =>
          have nb : place 0 (l.sections.map Sec.name) b < 0 := by have := of_decide_eq_false pb; omega
          have HX : Hid (declL l [a, ae, b, be] = (l, 3)) := link_lost (by rw [g1, g2]; simp) (.inr nb)
          rw [HX.out]
          have la := look_any h.q3 za pa
          have LB : Hid (∀ W, Below w.heap.size w W → _) := fun W hb => look_any (h.below hb).q3 zb pb
          have HS := Lib.hid (fun w' (hb : Below w.heap.size w w') => Dr.stay (z := 3) h hb)
          clear h hO hz HX
          go_enter Try.func44, Try.ntmps44
          go_upto_region 11 with (first | (go_at_call 74; (with_reducible refine (EA.out _).mono ?_); rintro e w' ⟨rfl, rfl⟩) | (go_at_call 74; (with_reducible refine (EB.out _).mono ?_); rintro e w' ⟨rfl, rfl⟩))
          obtain ⟨f6, f5, f0, f2⟩ := HF.out w (Below.refl _ _)
          go_quiet (fail)
          generalize hW1 : w.drewN _ = W1
          have HB1 : Hid (Below w.heap.size w W1) := by rw [Hid, ← hW1]; exact Mem.below_draws (Below.refl _ _) _
          clear hW1 f6 f5 f0 f2 o0 o1 o2 o3 k5 k6
          have lb' := LB.out W1 HB1.out
          obtain ⟨f6, f5, f0, f2⟩ := HF.out W1 HB1.out
          go_upto_region 12 with fail
          go_quiet (fail)
          generalize hW2 : W1.drewN _ = W2
          have HB2 : Hid (Below w.heap.size w W2) := by rw [Hid, ← hW2]; exact Mem.below_draws HB1.out _
          clear hW2 f6 f5 f0 f2 lb'
          go_wp2_with fail
          go_ret
          exact HS.out _ HB2.out
        | true =>
          have nb : ¬ place 0 (l.sections.map Sec.name) b < 0 := by have := of_decide_eq_true pb; omega
          obtain ⟨za0, hza0⟩ : ∃ z, place 0 (l.sections.map Sec.name) a = z := ⟨_, rfl⟩
          obtain ⟨zb0, hzb0⟩ : ∃ z, place 0 (l.sections.map Sec.name) b = z := ⟨_, rfl⟩
          have HX : Hid (declL l [a, ae, b, be] = ({ l with links := l.links ++ [⟨za0, endV ae, zb0, endV be, -1, 0⟩] }, 0)) := by
            rw [Hid, ← hza0, ← hzb0]
            exact link_plain g1 g2 (by omega)
          rw [HX.out]
          have la := look_any h.q3 za pa
          rw [show numOf (l.sections.map Sec.name) a = za0 from (if_neg na).trans hza0] at la
          have LB : Hid (∀ W, Below w.heap.size w W → _) := fun W hb => look_any (h.below hb).q3 zb pb
          rw [show numOf (l.sections.map Sec.name) b = zb0 from (if_neg nb).trans hzb0] at LB
          have HD : Hid (∀ W, Below w.heap.size w W → Dr W g m1 m2 m3 k l v) := fun W hb => h.below hb
          have hms := h.ms
          have hb4 := h.b4
          clear h hO hz HX hza0 hzb0 na nb pa pb
          go_enter Try.func44, Try.ntmps44
          go_upto_region 11 with (first | (go_at_call 74; (with_reducible refine (EA.out _).mono ?_); rintro e w' ⟨rfl, rfl⟩) | (go_at_call 74; (with_reducible refine (EB.out _).mono ?_); rintro e w' ⟨rfl, rfl⟩))
          obtain ⟨f6, f5, f0, f2⟩ := HF.out w (Below.refl _ _)
          go_quiet (fail)
          generalize hW1 : w.drewN _ = W1
          have HB1 : Hid (Below w.heap.size w W1) := by rw [Hid, ← hW1]; exact Mem.below_draws (Below.refl _ _) _
          clear hW1 f6 f5 f0 f2 o0 o1 o2 o3 k5 k6
          have lb' := LB.out W1 HB1.out
          obtain ⟨f6, f5, f0, f2⟩ := HF.out W1 HB1.out
          go_upto_region 12 with fail
          go_quiet (fail)
          generalize hW2 : W1.drewN _ = W2
          have HB2 : Hid (Below w.heap.size w W2) := by rw [Hid, ← hW2]; exact Mem.below_draws HB1.out _
          clear hW2 f6 f5 f0 f2 lb'
          have hDW := HD.out W2 HB2.out
          have hzw : w.heap.size ≤ W2.heap.size := HB2.out.size
          have k3 := hDW.blk.c3
          have hgW := hDW.blk.lt
          have HDW := Lib.hid hDW
          have hn63 : v.n4 + 1 ≤ maxLen := by unfold maxLen; omega
          have hby : (v.n4 + 1) * 48 ≤ 140737488355328 := by omega
          obtain ⟨ih, hih, hz0, hz1, hz2⟩ := info_parts infoLnk
          clear hDW
          go_wp2_with (at_builtin; refine wpList_append_own _ rfl _ _ 24 rfl (g + 1) 74 ih _ 6 48 Try.underlying24 hih hz0 hz1 hz2 rfl (by omega) (.slice v.A4 v.n4 v.c4) v.n4 (lnkR.cs l.links) rfl (HDW.out.lnk.2.alloc _) ⟨W2.heap.size, 0, none⟩ 1 1 [.int .i64 za0, .int .i64 (endV ae), .int .i64 zb0, .int .i64 (endV be), .int .i64 (-1), .int .i64 (0)] rfl rfl (World.news_of_block (cs := #[.int .i64 za0, .int .i64 (endV ae), .int .i64 zb0, .int .i64 (endV be), .int .i64 (-1), .int .i64 (0)]) (t := 74) (fr := (0, 0)) (heap_alloc_new _ _)) (by simp [Value.oneCell']) hn63 hby (by simp; omega) ?_)
          intro vv w7 hown7 hgrow7 _
          have hO7 := Recs.Own.push (R := lnkR) (a := ⟨za0, endV ae, zb0, endV be, -1, 0⟩) HDW.out.lnk.1 hown7
          obtain ⟨A', c', rfl, _⟩ := hO7.form
          have HO7 := Lib.hid hO7
          have h2 : W2.grownBy w7 (Value.slice v.A4 v.n4 v.c4).ownBlock := (World.grownBy_alloc W2 _ _).trans hgrow7
          have HDr := Lib.hid (HDW.out.link h2 HO7.out)
          have HBB : Hid (Below m1 W2 (w7.setCell ⟨g, 3, none⟩ (.slice A' (v.n4 + 1) c'))) := below3 (m := m1) (Nat.le_refl _) (by omega) (by omega) (World.grownBy.refl _ _) h2 (Dr.lo HDW.out.lnk)
          have hu := Dr.lo HDW.out.lnk
          have hg7 : w7.heap[g]? = W2.heap[g]? := h2.block g hgW (fun e => by have := hu _ e.symm; omega)
          have k7 := (cell_same (p := ⟨g, 3, none⟩) hg7).trans k3
          have f7 := (frozen_same (p := ⟨g, 3, none⟩) hg7).trans (HDW.out.blk.f 3)
          clear hO7 hown7 hgrow7 hg7 k3 h2 hu
          go_wp2_with fail
          go_ret
          exact ⟨_, rfl, HDr.out, (HB2.out.mono (by omega)).trans HBB.out, by have := HBB.out.size; omega⟩
set_option maxRecDepth 100000 in
set_option maxHeartbeats 8000000 in
theorem link_six (g m1 m2 m3 k : Nat) (l : Lay) (v : LV) (A : Option Addr) (n c : Nat) (O : List Bs) (w : World) (h : Dr w g m1 m2 m3 k l v) (hO : Opn w g A n O) (hk : k ≤ 100000) (hn : n ≤ 100) (hz : ∀ s ∈ O, s.length ≤ 65537) (h6 : n = 6) : Calls Try.prog 44 #[.pointer (some ⟨g, 0, none⟩), .slice A n c] w (DrPost g m1 m2 m3 (k + 1) (declL l O) w) := by
  obtain ⟨a, ae, b, be, p, q, rfl⟩ := six (hO.1.1.trans h6)
  subst h6
  obtain ⟨ad, rfl, hab, hadg⟩ := opn_lt hO (by omega)
  have o0 := opn_at0 hO rfl
  have o1 := opn_at (i := 1) hO rfl (by omega)
  have o2 := opn_at (i := 2) hO rfl (by omega)
  have o3 := opn_at (i := 3) hO rfl (by omega)
  have o4 := opn_at (i := 4) hO rfl (by omega)
  have o5 := opn_at (i := 5) hO rfl (by omega)
  have EA : Hid (∀ wx, Calls Try.prog 74 #[.string (str ae)] wx (Two (endV ae) (endB ae) wx)) := fun wx => end_of ae wx
  have EB : Hid (∀ wx, Calls Try.prog 74 #[.string (str be)] wx (Two (endV be) (endB be) wx)) := fun wx => end_of be wx
  have EP : Hid (∀ wx, Calls Try.prog 75 #[.string (str q)] wx (Two (posV q) (posB q) wx)) := fun wx => position_of q wx
  have za : a.length ≤ 65537 := hz a (by simp)
  have zb : b.length ≤ 65537 := hz b (by simp)
  have zp : p.length ≤ 65537 := hz p (by simp)
  have hgw := h.blk.lt
  have k5 := h.blk.c5
  have k6 := h.blk.c6
  have HF : Hid (∀ W, Below w.heap.size w W → W.cell? ⟨g, 6, none⟩ = some (.map (some m3)) ∧ W.cell? ⟨g, 5, none⟩ = some (.map (some m2)) ∧ W.cell? ad = some (.string (str a)) ∧ W.cell? ⟨ad.block, ad.off + 2, none⟩ = some (.string (str b)) ∧ W.cell? ⟨ad.block, ad.off + 4, none⟩ = some (.string (str p))) := fun W hb => ⟨(hb.cell (p := ⟨g, 6, none⟩) hgw).trans k6, (hb.cell (p := ⟨g, 5, none⟩) hgw).trans k5, (hb.cell hab).trans o0, (hb.cell (p := ⟨_, _, none⟩) hab).trans o2, (hb.cell (p := ⟨_, _, none⟩) hab).trans o4⟩
  cases g1 : endB ae with
  | false =>
    rw [g1] at EA
    have HX : Hid (declL l [a, ae, b, be, p, q] = (l, 2)) := link_bad (by rw [g1]; simp)
    rw [HX.out]
    have HS := Lib.hid (Dr.stay (z := 2) h (Below.refl _ _))
    clear h hO hz HX HF k5 k6
    go_enter Try.func44, Try.ntmps44
    go_wp2_with (first | (go_at_call 74; (with_reducible refine (EA.out _).mono ?_); rintro e w' ⟨rfl, rfl⟩) | (go_at_call 74; (with_reducible refine (EB.out _).mono ?_); rintro e w' ⟨rfl, rfl⟩) | (go_at_call 75; (with_reducible refine (EP.out _).mono ?_); rintro e w' ⟨rfl, rfl⟩))
    go_ret
    exact HS.out
  | true =>
    rw [g1] at EA
    cases g2 : endB be with
    | false =>
      rw [g2] at EB
      have HX : Hid (declL l [a, ae, b, be, p, q] = (l, 2)) := link_bad (by rw [g2, g1]; simp)
      rw [HX.out]
      have HS := Lib.hid (Dr.stay (z := 2) h (Below.refl _ _))
      clear h hO hz HX HF k5 k6
      go_enter Try.func44, Try.ntmps44
      go_wp2_with (first | (go_at_call 74; (with_reducible refine (EA.out _).mono ?_); rintro e w' ⟨rfl, rfl⟩) | (go_at_call 74; (with_reducible refine (EB.out _).mono ?_); rintro e w' ⟨rfl, rfl⟩) | (go_at_call 75; (with_reducible refine (EP.out _).mono ?_); rintro e w' ⟨rfl, rfl⟩))
      go_ret
      exact HS.out
    | true =>
      rw [g2] at EB
      cases g3 : posB q with
      | false =>
        rw [g3] at EP
        have HX : Hid (declL l [a, ae, b, be, p, q] = (l, 2)) := link_bad (by unfold posB at g3; simp only [List.drop_succ_cons, List.drop_zero, List.head?_cons, Option.all_some]; rw [g3]; simp)
        rw [HX.out]
        have HS := Lib.hid (Dr.stay (z := 2) h (Below.refl _ _))
        clear h hO hz HX HF k5 k6
        go_enter Try.func44, Try.ntmps44
        go_wp2_with (first | (go_at_call 74; (with_reducible refine (EA.out _).mono ?_); rintro e w' ⟨rfl, rfl⟩) | (go_at_call 74; (with_reducible refine (EB.out _).mono ?_); rintro e w' ⟨rfl, rfl⟩) | (go_at_call 75; (with_reducible refine (EP.out _).mono ?_); rintro e w' ⟨rfl, rfl⟩))
        go_ret
        exact HS.out
      | true =>
        rw [g3] at EP
        cases pa : decide (0 ≤ place 0 (l.sections.map Sec.name) a) with
        | false =>
          have na : place 0 (l.sections.map Sec.name) a < 0 := by have := of_decide_eq_false pa; omega
          have HX : Hid (declL l [a, ae, b, be, p, q] = (l, 3)) := link_lost (by unfold posB at g3; simp only [List.drop_succ_cons, List.drop_zero, List.head?_cons, Option.all_some]; rw [g1, g2, g3]; rfl) (.inl na)
          rw [HX.out]
          have la := look_any h.q3 za pa
          have LB : Hid (∀ W, Below w.heap.size w W → _) := fun W hb => look_any (h.below hb).q3 zb rfl
          have LP : Hid (∀ W, Below w.heap.size w W → _) := fun W hb => look_any (h.below hb).q2 zp rfl
          have HS := Lib.hid (fun w' (hb : Below w.heap.size w w') => Dr.stay (z := 3) h hb)
          clear h hO hz HX
          go_enter Try.func44, Try.ntmps44
          go_upto_region 11 with (first | (go_at_call 74; (with_reducible refine (EA.out _).mono ?_); rintro e w' ⟨rfl, rfl⟩) | (go_at_call 74; (with_reducible refine (EB.out _).mono ?_); rintro e w' ⟨rfl, rfl⟩) | (go_at_call 75; (with_reducible refine (EP.out _).mono ?_); rintro e w' ⟨rfl, rfl⟩))
          obtain ⟨f6, f5, f0, f2, f4⟩ := HF.out w (Below.refl _ _)
          go_quiet (fail)
          generalize hW1 : w.drewN _ = W1
          have HB1 : Hid (Below w.heap.size w W1) := by rw [Hid, ← hW1]; exact Mem.below_draws (Below.refl _ _) _
          clear hW1 f6 f5 f0 f2 f4 o0 o1 o2 o3 o4 o5 k5 k6
          have lb' := LB.out W1 HB1.out
          obtain ⟨f6, f5, f0, f2, f4⟩ := HF.out W1 HB1.out
          go_upto_region 12 with fail
          go_quiet (fail)
          generalize hW2 : W1.drewN _ = W2
          have HB2 : Hid (Below w.heap.size w W2) := by rw [Hid, ← hW2]; exact Mem.below_draws HB1.out _
          clear hW2 f6 f5 f0 f2 f4 lb'
          have lp' := LP.out W2 HB2.out
          obtain ⟨f6, f5, f0, f2, f4⟩ := HF.out W2 HB2.out
          go_upto_region 15 with fail
          go_quiet (fail)
          generalize hW3 : W2.drewN _ = W3
          have HB3 : Hid (Below w.heap.size w W3) := by rw [Hid, ← hW3]; exact Mem.below_draws HB2.out _
          clear hW3 f6 f5 f0 f2 f4 lp'
          go_wp2_with fail
          go_ret
          exact HS.out _ HB3.out
        | true =>
          have na : ¬ place 0 (l.sections.map Sec.name) a < 0 := by have := of_decide_eq_true pa; omega
          cases pb : decide (0 ≤ place 0 (l.sections.map Sec.name) b) with
          | false =>
            have nb : place 0 (l.sections.map Sec.name) b < 0 := by have := of_decide_eq_false pb; omega
            have HX : Hid (declL l [a, ae, b, be, p, q] = (l, 3)) := link_lost (by unfold posB at g3; simp only [List.drop_succ_cons, List.drop_zero, List.head?_cons, Option.all_some]; rw [g1, g2, g3]; rfl) (.inr nb)
            rw [HX.out]
            have la := look_any h.q3 za pa
            have LB : Hid (∀ W, Below w.heap.size w W → _) := fun W hb => look_any (h.below hb).q3 zb pb
            have LP : Hid (∀ W, Below w.heap.size w W → _) := fun W hb => look_any (h.below hb).q2 zp rfl
            have HS := Lib.hid (fun w' (hb : Below w.heap.size w w') => Dr.stay (z := 3) h hb)
            clear h hO hz HX
            go_enter Try.func44, Try.ntmps44
            go_upto_region 11 with (first | (go_at_call 74; (with_reducible refine (EA.out _).mono ?_); rintro e w' ⟨rfl, rfl⟩) | (go_at_call 74; (with_reducible refine (EB.out _).mono ?_); rintro e w' ⟨rfl, rfl⟩) | (go_at_call 75; (with_reducible refine (EP.out _).mono ?_); rintro e w' ⟨rfl, rfl⟩))
            obtain ⟨f6, f5, f0, f2, f4⟩ := HF.out w (Below.refl _ _)
            go_quiet (fail)
            generalize hW1 : w.drewN _ = W1
            have HB1 : Hid (Below w.heap.size w W1) := by rw [Hid, ← hW1]; exact Mem.below_draws (Below.refl _ _) _
            clear hW1 f6 f5 f0 f2 f4 o0 o1 o2 o3 o4 o5 k5 k6
            have lb' := LB.out W1 HB1.out
            obtain ⟨f6, f5, f0, f2, f4⟩ := HF.out W1 HB1.out
            go_upto_region 12 with fail
            go_quiet (fail)
            generalize hW2 : W1.drewN _ = W2
            have HB2 : Hid (Below w.heap.size w W2) := by rw [Hid, ← hW2]; exact Mem.below_draws HB1.out _
            clear hW2 f6 f5 f0 f2 f4 lb'
            have lp' := LP.out W2 HB2.out
            obtain ⟨f6, f5, f0, f2, f4⟩ := HF.out W2 HB2.out
            go_upto_region 15 with fail
            go_quiet (fail)
            generalize hW3 : W2.drewN _ = W3
            have HB3 : Hid (Below w.heap.size w W3) := by rw [Hid, ← hW3]; exact Mem.below_draws HB2.out _
            clear hW3 f6 f5 f0 f2 f4 lp'
            go_wp2_with fail
            go_ret
            exact HS.out _ HB3.out
          | true =>
            have nb : ¬ place 0 (l.sections.map Sec.name) b < 0 := by have := of_decide_eq_true pb; omega
            cases pp : decide (0 ≤ place 0 l.points p) with
            | false =>
              have np : place 0 l.points p < 0 := by have := of_decide_eq_false pp; omega
              have HX : Hid (declL l [a, ae, b, be, p, q] = (l, 3)) := link_nopt g1 g2 g3 (by omega) np
              rw [HX.out]
              have la := look_any h.q3 za pa
              have LB : Hid (∀ W, Below w.heap.size w W → _) := fun W hb => look_any (h.below hb).q3 zb pb
              have LP : Hid (∀ W, Below w.heap.size w W → _) := fun W hb => look_any (h.below hb).q2 zp pp
              have HS := Lib.hid (fun w' (hb : Below w.heap.size w w') => Dr.stay (z := 3) h hb)
              clear h hO hz HX
              go_enter Try.func44, Try.ntmps44
              go_upto_region 11 with (first | (go_at_call 74; (with_reducible refine (EA.out _).mono ?_); rintro e w' ⟨rfl, rfl⟩) | (go_at_call 74; (with_reducible refine (EB.out _).mono ?_); rintro e w' ⟨rfl, rfl⟩) | (go_at_call 75; (with_reducible refine (EP.out _).mono ?_); rintro e w' ⟨rfl, rfl⟩))
              obtain ⟨f6, f5, f0, f2, f4⟩ := HF.out w (Below.refl _ _)
              go_quiet (fail)
              generalize hW1 : w.drewN _ = W1
              have HB1 : Hid (Below w.heap.size w W1) := by rw [Hid, ← hW1]; exact Mem.below_draws (Below.refl _ _) _
              clear hW1 f6 f5 f0 f2 f4 o0 o1 o2 o3 o4 o5 k5 k6
              have lb' := LB.out W1 HB1.out
              obtain ⟨f6, f5, f0, f2, f4⟩ := HF.out W1 HB1.out
              go_upto_region 12 with fail
              go_quiet (fail)
              generalize hW2 : W1.drewN _ = W2
              have HB2 : Hid (Below w.heap.size w W2) := by rw [Hid, ← hW2]; exact Mem.below_draws HB1.out _
              clear hW2 f6 f5 f0 f2 f4 lb'
              have lp' := LP.out W2 HB2.out
              obtain ⟨f6, f5, f0, f2, f4⟩ := HF.out W2 HB2.out
              go_upto_region 15 with fail
              go_quiet (fail)
              generalize hW3 : W2.drewN _ = W3
              have HB3 : Hid (Below w.heap.size w W3) := by rw [Hid, ← hW3]; exact Mem.below_draws HB2.out _
              clear hW3 f6 f5 f0 f2 f4 lp'
              go_wp2_with fail
              go_ret
              exact HS.out _ HB3.out
            | true =>
              have np : ¬ place 0 l.points p < 0 := by have := of_decide_eq_true pp; omega
              obtain ⟨zp0, hzp0⟩ : ∃ z, place 0 l.points p = z := ⟨_, rfl⟩
              obtain ⟨za0, hza0⟩ : ∃ z, place 0 (l.sections.map Sec.name) a = z := ⟨_, rfl⟩
              obtain ⟨zb0, hzb0⟩ : ∃ z, place 0 (l.sections.map Sec.name) b = z := ⟨_, rfl⟩
              have HX : Hid (declL l [a, ae, b, be, p, q] = ({ l with links := l.links ++ [⟨za0, endV ae, zb0, endV be, zp0, posV q⟩] }, 0)) := by
                rw [Hid, ← hza0, ← hzb0, ← hzp0]
                exact link_pt g1 g2 g3 (by omega) np
              rw [HX.out]
              have la := look_any h.q3 za pa
              rw [show numOf (l.sections.map Sec.name) a = za0 from (if_neg na).trans hza0] at la
              have LB : Hid (∀ W, Below w.heap.size w W → _) := fun W hb => look_any (h.below hb).q3 zb pb
              rw [show numOf (l.sections.map Sec.name) b = zb0 from (if_neg nb).trans hzb0] at LB
              have LP : Hid (∀ W, Below w.heap.size w W → _) := fun W hb => look_any (h.below hb).q2 zp pp
              rw [show numOf l.points p = zp0 from (if_neg np).trans hzp0] at LP
              have HD : Hid (∀ W, Below w.heap.size w W → Dr W g m1 m2 m3 k l v) := fun W hb => h.below hb
              have hms := h.ms
              have hb4 := h.b4
              clear h hO hz HX hza0 hzb0 na nb pa pb hzp0 np pp
              go_enter Try.func44, Try.ntmps44
              go_upto_region 11 with (first | (go_at_call 74; (with_reducible refine (EA.out _).mono ?_); rintro e w' ⟨rfl, rfl⟩) | (go_at_call 74; (with_reducible refine (EB.out _).mono ?_); rintro e w' ⟨rfl, rfl⟩) | (go_at_call 75; (with_reducible refine (EP.out _).mono ?_); rintro e w' ⟨rfl, rfl⟩))
              obtain ⟨f6, f5, f0, f2, f4⟩ := HF.out w (Below.refl _ _)
              go_quiet (fail)
              generalize hW1 : w.drewN _ = W1
              have HB1 : Hid (Below w.heap.size w W1) := by rw [Hid, ← hW1]; exact Mem.below_draws (Below.refl _ _) _
              clear hW1 f6 f5 f0 f2 f4 o0 o1 o2 o3 o4 o5 k5 k6
              have lb' := LB.out W1 HB1.out
              obtain ⟨f6, f5, f0, f2, f4⟩ := HF.out W1 HB1.out
              go_upto_region 12 with fail
              go_quiet (fail)
              generalize hW2 : W1.drewN _ = W2
              have HB2 : Hid (Below w.heap.size w W2) := by rw [Hid, ← hW2]; exact Mem.below_draws HB1.out _
              clear hW2 f6 f5 f0 f2 f4 lb'
              have lp' := LP.out W2 HB2.out
              obtain ⟨f6, f5, f0, f2, f4⟩ := HF.out W2 HB2.out
              go_upto_region 15 with fail
              go_quiet (fail)
              generalize hW3 : W2.drewN _ = W3
              have HB3 : Hid (Below w.heap.size w W3) := by rw [Hid, ← hW3]; exact Mem.below_draws HB2.out _
              clear hW3 f6 f5 f0 f2 f4 lp'
              have hDW := HD.out W3 HB3.out
              have hzw : w.heap.size ≤ W3.heap.size := HB3.out.size
              have k3 := hDW.blk.c3
              have hgW := hDW.blk.lt
              have HDW := Lib.hid hDW
              have hn63 : v.n4 + 1 ≤ maxLen := by unfold maxLen; omega
              have hby : (v.n4 + 1) * 48 ≤ 140737488355328 := by omega
              obtain ⟨ih, hih, hz0, hz1, hz2⟩ := info_parts infoLnk
              clear hDW
              go_wp2_with (at_builtin; refine wpList_append_own _ rfl _ _ 24 rfl (g + 1) 74 ih _ 6 48 Try.underlying24 hih hz0 hz1 hz2 rfl (by omega) (.slice v.A4 v.n4 v.c4) v.n4 (lnkR.cs l.links) rfl (HDW.out.lnk.2.alloc _) ⟨W3.heap.size, 0, none⟩ 1 1 [.int .i64 za0, .int .i64 (endV ae), .int .i64 zb0, .int .i64 (endV be), .int .i64 (zp0), .int .i64 (posV q)] rfl rfl (World.news_of_block (cs := #[.int .i64 za0, .int .i64 (endV ae), .int .i64 zb0, .int .i64 (endV be), .int .i64 (zp0), .int .i64 (posV q)]) (t := 74) (fr := (0, 0)) (heap_alloc_new _ _)) (by simp [Value.oneCell']) hn63 hby (by simp; omega) ?_)
              intro vv w7 hown7 hgrow7 _
              have hO7 := Recs.Own.push (R := lnkR) (a := ⟨za0, endV ae, zb0, endV be, zp0, posV q⟩) HDW.out.lnk.1 hown7
              obtain ⟨A', c', rfl, _⟩ := hO7.form
              have HO7 := Lib.hid hO7
              have h2 : W3.grownBy w7 (Value.slice v.A4 v.n4 v.c4).ownBlock := (World.grownBy_alloc W3 _ _).trans hgrow7
              have HDr := Lib.hid (HDW.out.link h2 HO7.out)
              have HBB : Hid (Below m1 W3 (w7.setCell ⟨g, 3, none⟩ (.slice A' (v.n4 + 1) c'))) := below3 (m := m1) (Nat.le_refl _) (by omega) (by omega) (World.grownBy.refl _ _) h2 (Dr.lo HDW.out.lnk)
              have hu := Dr.lo HDW.out.lnk
              have hg7 : w7.heap[g]? = W3.heap[g]? := h2.block g hgW (fun e => by have := hu _ e.symm; omega)
              have k7 := (cell_same (p := ⟨g, 3, none⟩) hg7).trans k3
              have f7 := (frozen_same (p := ⟨g, 3, none⟩) hg7).trans (HDW.out.blk.f 3)
              clear hO7 hown7 hgrow7 hg7 k3 h2 hu
              go_wp2_with fail
              go_ret
              exact ⟨_, rfl, HDr.out, (HB3.out.mono (by omega)).trans HBB.out, by have := HBB.out.size; omega⟩
theorem add_link (g m1 m2 m3 k : Nat) (l : Lay) (v : LV) (A : Option Addr) (n c : Nat) (O : List Bs) (w : World) (h : Dr w g m1 m2 m3 k l v) (hO : Opn w g A n O) (hk : k ≤ 100000) (hn : n ≤ 100) (hz : ∀ s ∈ O, s.length ≤ 65537) : Calls Try.prog 44 #[.pointer (some ⟨g, 0, none⟩), .slice A n c] w (DrPost g m1 m2 m3 (k + 1) (declL l O) w) := by
  by_cases h4 : n = 4
  · exact link_four g m1 m2 m3 k l v A n c O w h hO hk hn hz h4
  · by_cases h6 : n = 6
    · exact link_six g m1 m2 m3 k l v A n c O w h hO hk hn hz h6
    · exact link_no g m1 m2 m3 k l v A n c O w h hO hk hn hz h4 h6
end Go.Proofs.Ytdcbaedhgoipjaa.DLnk
