/-
  Contracts of the comparisons of two lists, and of two layouts, that are equal.
-/
import Derived.Test.YtkfobijgjdgbgaaDoorPSecs
import Derived.Deep.QuietTactic
import Derived.BigQuiet
namespace Go.Proofs.YtkfobijgjdgbgaaDoor.Eqs
open Go.ChangeShapes Go.WideShapes Go.ChangeAt Go.RowKit Wd Small Mem Lay Recs Keep Names PNames PSecs
set_option linter.unusedVariables false

set_option maxHeartbeats 1000000 in
theorem same_str (A : Option Addr) (n c : Nat) (A2 : Option Addr) (c2 : Nat) (L : List Bs) (w : World) (hL : Rd sR w w.heap.size A n L) (hM : Rd sR w w.heap.size A2 n L) (hn : n ≤ 9223372036854775807) :
    Calls Tryd.prog 41 #[.slice A n c, .slice A2 n c2] w (BoolPost true w) := by
  go_enter Tryd.func41, Tryd.ntmps41
  go_wp2
  go_loopw [13] (fun i wr => ∃ k : Nat, k ≤ n ∧ i = .int .i64 k ∧ Below w.heap.size w wr) (fun i _ => n - (intOf i).toNat)
  case atStart => exact ⟨0, Nat.zero_le _, rfl, Below.refl _ _⟩
  case round =>
    obtain ⟨k, hk, rfl, hbw⟩ := hrel
    by_cases hlt : k < n
    · obtain ⟨ad, s, rfl, hab, hs, d0⟩ := loadS (hL.below hbw) hlt
      obtain ⟨ad2, t, rfl, hab2, ht, e0⟩ := loadS (hM.below hbw) hlt
      have e : s = t := by rw [hs] at ht; exact Option.some.inj ht
      subst e
      have hkn : (k : Int) < (n : Int) := by omega
      clear hL hM hs ht
      go_wp2
      go_quiet (fail)
      go_wp2
      go_roundw
      case rel => exact ⟨k + 1, by omega, by go_num, Mem.below_draws hbw _⟩
      case measure => simp [intOf]; omega
    · clear hL hM
      go_wp2
      go_ret
      exact ⟨rfl, hbw⟩

set_option maxHeartbeats 1000000 in
theorem same_sec (A : Option Addr) (n c : Nat) (A2 : Option Addr) (c2 : Nat) (L : List Sec) (w : World) (hL : Rd secR w w.heap.size A n L) (hM : Rd secR w w.heap.size A2 n L) (hn : n ≤ 9223372036854775807) :
    Calls Tryd.prog 42 #[.slice A n c, .slice A2 n c2] w (BoolPost true w) := by
  go_enter Tryd.func42, Tryd.ntmps42
  go_wp2
  go_loopw [13] (fun i wr => ∃ k : Nat, k ≤ n ∧ i = .int .i64 k ∧ Below w.heap.size w wr) (fun i _ => n - (intOf i).toNat)
  case atStart => exact ⟨0, Nat.zero_le _, rfl, Below.refl _ _⟩
  case round =>
    obtain ⟨k, hk, rfl, hbw⟩ := hrel
    by_cases hlt : k < n
    · obtain ⟨ad, s, rfl, hab, hs, d0, d1, d2, d3, d4⟩ := loadSec (hL.below hbw) hlt
      obtain ⟨ad2, t, rfl, hab2, ht, e0, e1, e2, e3, e4⟩ := loadSec (hM.below hbw) hlt
      have e : s = t := by rw [hs] at ht; exact Option.some.inj ht
      subst e
      have hkn : (k : Int) < (n : Int) := by omega
      clear hL hM hs ht
      go_wp2
      go_quiet (fail)
      go_wp2
      go_roundw
      case rel => exact ⟨k + 1, by omega, by go_num, Mem.below_draws hbw _⟩
      case measure => simp [intOf]; omega
    · clear hL hM
      go_wp2
      go_ret
      exact ⟨rfl, hbw⟩

set_option maxHeartbeats 1000000 in
theorem same_lnk (A : Option Addr) (n c : Nat) (A2 : Option Addr) (c2 : Nat) (L : List Lnk) (w : World) (hL : Rd lnkR w w.heap.size A n L) (hM : Rd lnkR w w.heap.size A2 n L) (hn : n ≤ 9223372036854775807) :
    Calls Tryd.prog 43 #[.slice A n c, .slice A2 n c2] w (BoolPost true w) := by
  go_enter Tryd.func43, Tryd.ntmps43
  go_wp2
  go_loopw [13] (fun i wr => ∃ k : Nat, k ≤ n ∧ i = .int .i64 k ∧ Below w.heap.size w wr) (fun i _ => n - (intOf i).toNat)
  case atStart => exact ⟨0, Nat.zero_le _, rfl, Below.refl _ _⟩
  case round =>
    obtain ⟨k, hk, rfl, hbw⟩ := hrel
    by_cases hlt : k < n
    · obtain ⟨ad, s, rfl, hab, hs, d0, d1, d2, d3, d4, d5⟩ := loadLnk (hL.below hbw) hlt
      obtain ⟨ad2, t, rfl, hab2, ht, e0, e1, e2, e3, e4, e5⟩ := loadLnk (hM.below hbw) hlt
      have e : s = t := by rw [hs] at ht; exact Option.some.inj ht
      subst e
      have hkn : (k : Int) < (n : Int) := by omega
      clear hL hM hs ht
      go_wp2
      go_quiet (fail)
      go_wp2
      go_roundw
      case rel => exact ⟨k + 1, by omega, by go_num, Mem.below_draws hbw _⟩
      case measure => simp [intOf]; omega
    · clear hL hM
      go_wp2
      go_ret
      exact ⟨rfl, hbw⟩

set_option maxHeartbeats 1000000 in
theorem same_hop (A : Option Addr) (n c : Nat) (A2 : Option Addr) (c2 : Nat) (L : List Hop) (w : World) (hL : Rd hopR w w.heap.size A n L) (hM : Rd hopR w w.heap.size A2 n L) (hn : n ≤ 9223372036854775807) :
    Calls Tryd.prog 21 #[.slice A n c, .slice A2 n c2] w (BoolPost true w) := by
  go_enter Tryd.func21, Tryd.ntmps21
  go_wp2
  go_loopw [13] (fun i wr => ∃ k : Nat, k ≤ n ∧ i = .int .i64 k ∧ Below w.heap.size w wr) (fun i _ => n - (intOf i).toNat)
  case atStart => exact ⟨0, Nat.zero_le _, rfl, Below.refl _ _⟩
  case round =>
    obtain ⟨k, hk, rfl, hbw⟩ := hrel
    by_cases hlt : k < n
    · obtain ⟨ad, s, rfl, hab, hs, d0, d1, d2, d3⟩ := loadHop (hL.below hbw) hlt
      obtain ⟨ad2, t, rfl, hab2, ht, e0, e1, e2, e3⟩ := loadHop (hM.below hbw) hlt
      have e : s = t := by rw [hs] at ht; exact Option.some.inj ht
      subst e
      have hkn : (k : Int) < (n : Int) := by omega
      clear hL hM hs ht
      go_wp2
      go_quiet (fail)
      go_wp2
      go_roundw
      case rel => exact ⟨k + 1, by omega, by go_num, Mem.below_draws hbw _⟩
      case measure => simp [intOf]; omega
    · clear hL hM
      go_wp2
      go_ret
      exact ⟨rfl, hbw⟩

set_option maxRecDepth 100000 in
set_option maxHeartbeats 2000000 in
theorem same_layout (v v2 : LV) (l : Lay) (w : World) (h : RdL w w.heap.size v l) (h2 : RdL w w.heap.size v2 l) : Calls Tryd.prog 15 #[v.val, v2.val] w (BoolPost true w) := by
  have e1 : v2.n1 = v.n1 := h2.st.1.symm.trans h.st.1
  have e2 : v2.n2 = v.n2 := h2.pt.1.symm.trans h.pt.1
  have e3 : v2.n3 = v.n3 := h2.sec.1.symm.trans h.sec.1
  have e4 : v2.n4 = v.n4 := h2.lnk.1.symm.trans h.lnk.1
  obtain ⟨W, hW⟩ : ∃ W, (w.alloc (.cells #[.slice v.A1 v.n1 v.c1, .slice v.A2 v.n2 v.c2, .slice v.A3 v.n3 v.c3, .slice v.A4 v.n4 v.c4] 26)).alloc (.cells #[.slice v2.A1 v2.n1 v2.c1, .slice v2.A2 v2.n2 v2.c2, .slice v2.A3 v2.n3 v2.c3, .slice v2.A4 v2.n4 v2.c4] 26) = W := ⟨_, rfl⟩
  have hb : Below w.heap.size w W := by rw [← hW]; exact ((Below.refl _ _).alloc (Nat.le_refl _) _).alloc (by simp) _
  have hz : w.heap.size + 1 < W.heap.size := by rw [← hW]; simp
  have HC : Hid ((W.cell? ⟨w.heap.size, 0, none⟩ = some (.slice v.A1 v.n1 v.c1) ∧ W.cell? ⟨w.heap.size, 1, none⟩ = some (.slice v.A2 v.n2 v.c2) ∧ W.cell? ⟨w.heap.size, 2, none⟩ = some (.slice v.A3 v.n3 v.c3) ∧ W.cell? ⟨w.heap.size, 3, none⟩ = some (.slice v.A4 v.n4 v.c4)) ∧
      (W.cell? ⟨w.heap.size + 1, 0, none⟩ = some (.slice v2.A1 v2.n1 v2.c1) ∧ W.cell? ⟨w.heap.size + 1, 1, none⟩ = some (.slice v2.A2 v2.n2 v2.c2) ∧ W.cell? ⟨w.heap.size + 1, 2, none⟩ = some (.slice v2.A3 v2.n3 v2.c3) ∧ W.cell? ⟨w.heap.size + 1, 3, none⟩ = some (.slice v2.A4 v2.n4 v2.c4))) := by
    rw [Hid, ← hW]; exact ⟨by simp, by simp⟩
  have HK : Hid (∀ wx, Below W.heap.size W wx → (wx.cell? ⟨w.heap.size, 0, none⟩ = some (.slice v.A1 v.n1 v.c1) ∧ wx.cell? ⟨w.heap.size, 1, none⟩ = some (.slice v.A2 v.n2 v.c2) ∧ wx.cell? ⟨w.heap.size, 2, none⟩ = some (.slice v.A3 v.n3 v.c3) ∧ wx.cell? ⟨w.heap.size, 3, none⟩ = some (.slice v.A4 v.n4 v.c4)) ∧
      (wx.cell? ⟨w.heap.size + 1, 0, none⟩ = some (.slice v2.A1 v2.n1 v2.c1) ∧ wx.cell? ⟨w.heap.size + 1, 1, none⟩ = some (.slice v2.A2 v2.n2 v2.c2) ∧ wx.cell? ⟨w.heap.size + 1, 2, none⟩ = some (.slice v2.A3 v2.n3 v2.c3) ∧ wx.cell? ⟨w.heap.size + 1, 3, none⟩ = some (.slice v2.A4 v2.n4 v2.c4))) := fun wx hx => ⟨box_kept hx (by omega) HC.out.1, box_kept hx hz HC.out.2⟩
  have HS : Hid (∀ wx, Below W.heap.size W wx → Calls Tryd.prog 41 #[.slice v.A1 v.n1 v.c1, .slice v2.A1 v2.n1 v2.c1] wx (BoolPost true wx) ∧ Calls Tryd.prog 41 #[.slice v.A2 v.n2 v.c2, .slice v2.A2 v2.n2 v2.c2] wx (BoolPost true wx) ∧
      Calls Tryd.prog 42 #[.slice v.A3 v.n3 v.c3, .slice v2.A3 v2.n3 v2.c3] wx (BoolPost true wx) ∧ Calls Tryd.prog 43 #[.slice v.A4 v.n4 v.c4, .slice v2.A4 v2.n4 v2.c4] wx (BoolPost true wx)) := fun wx hx => by
    have g := (h.grow hb (show w.heap.size ≤ W.heap.size by omega)).grow hx hx.size
    have g2 := (h2.grow hb (show w.heap.size ≤ W.heap.size by omega)).grow hx hx.size
    have s1 := g2.st; have s2 := g2.pt; have s3 := g2.sec; have s4 := g2.lnk
    rw [e1] at s1; rw [e2] at s2; rw [e3] at s3; rw [e4] at s4
    rw [e1, e2, e3, e4]
    exact ⟨same_str _ _ _ _ _ _ wx g.st s1 g.m1, same_str _ _ _ _ _ _ wx g.pt s2 g.m2, same_sec _ _ _ _ _ _ wx g.sec s3 g.m3, same_lnk _ _ _ _ _ _ wx g.lnk s4 g.m4⟩
  have HB := Lib.hid hb
  clear h h2 e1 e2 e3 e4 hb
  obtain ⟨A1, n1, c1, A2, n2, c2, A3, n3, c3, A4, n4, c4⟩ := v
  obtain ⟨B1, m1, d1, B2, m2, d2, B3, m3, d3, B4, m4, d4⟩ := v2
  simp only [LV.val] at *
  obtain ⟨⟨a0, a1, a2, a3⟩, b0, b1, b2, b3⟩ := HC.out
  go_enter Tryd.func15, Tryd.ntmps15
  go_wp2_with fail
  clear hW
  refine (HS.out _ (Below.refl _ _)).1.mono ?_
  rintro e w1 ⟨rfl, hb1⟩
  have hz1 := hb1.size
  clear a0 a1 a2 a3 b0 b1 b2 b3
  obtain ⟨⟨a0, a1, a2, a3⟩, b0, b1, b2, b3⟩ := HK.out w1 hb1
  go_wp2_with fail
  refine (HS.out _ hb1).2.1.mono ?_
  rintro e w2 ⟨rfl, hb2⟩
  have hb2w := hb1.trans (hb2.mono hz1)
  have hz2 := hb2w.size
  clear a0 a1 a2 a3 b0 b1 b2 b3 hb1 hb2
  obtain ⟨⟨a0, a1, a2, a3⟩, b0, b1, b2, b3⟩ := HK.out w2 hb2w
  go_wp2_with fail
  refine (HS.out _ hb2w).2.2.1.mono ?_
  rintro e w3 ⟨rfl, hb3⟩
  have hb3w := hb2w.trans (hb3.mono hz2)
  have hz3 := hb3w.size
  clear a0 a1 a2 a3 b0 b1 b2 b3 hb2w hb3
  obtain ⟨⟨a0, a1, a2, a3⟩, b0, b1, b2, b3⟩ := HK.out w3 hb3w
  go_wp2_with fail
  refine (HS.out _ hb3w).2.2.2.mono ?_
  rintro e w4 ⟨rfl, hb4⟩
  clear a0 a1 a2 a3 b0 b1 b2 b3
  go_wp2_with fail
  go_ret
  exact ⟨rfl, HB.out.trans ((hb3w.trans (hb4.mono hz3)).mono (by omega))⟩
end Go.Proofs.YtkfobijgjdgbgaaDoor.Eqs
