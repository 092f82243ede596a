/-
  The walk of the statement that checks the example of chapter 4.
-/
import Derived.Test.YtdcbaedhgoipjaaPPar
import Derived.Test.YtdcbaedhgoipjaaPHops
import Derived.Test.YtdcbaedhgoipjaaEqs
import Derived.Test.YtdcbaedhgoipjaaHDiff
namespace Go.Proofs.Ytdcbaedhgoipjaa.Exm
open Go.ChangeShapes Go.WideShapes Go.ChangeAt Go.RowKit Wd Small Mem Lay LayT Recs Keep Names PNames PSecs PEnds PCheck PStep PHops Eqs RNames Awake PPar
set_option linter.unusedVariables false

/-- the example's text -/
def exText : Bs := [115, 116, 97, 116, 105, 111, 110, 32, 78, 111, 114, 116, 104, 10, 112, 111, 105, 110, 116, 32, 87, 10, 115, 101, 99, 116, 105, 111, 110, 32, 84, 32, 52, 48, 32, 51, 51, 48, 48, 48, 32, 48, 10, 115, 101, 99, 116, 105, 111, 110, 32, 78, 49, 32, 50, 48, 32, 50, 48, 48, 48, 48, 32, 48, 32, 97, 116, 32, 78, 111, 114, 116, 104, 10, 115, 101, 99, 116, 105, 111, 110, 32, 78, 50, 32, 50, 48, 32, 50, 48, 48, 48, 48, 32, 48, 32, 97, 116, 32, 78, 111, 114, 116, 104, 10, 108, 105, 110, 107, 32, 84, 32, 66, 32, 78, 49, 32, 65, 32, 87, 32, 48, 10, 108, 105, 110, 107, 32, 84, 32, 66, 32, 78, 50, 32, 65, 32, 87, 32, 49, 10]
/-- the example's layout -/
def exLay : Lay := ⟨[[78, 111, 114, 116, 104]], [[87]], [⟨[84], 40, 33000, 0, -1⟩, ⟨[78, 49], 20, 20000, 0, 0⟩, ⟨[78, 50], 20, 20000, 0, 0⟩], [⟨0, 1, 1, 0, 0, 0⟩, ⟨0, 1, 2, 0, 0, 1⟩]⟩
set_option maxRecDepth 100000 in
theorem ex_parse : parse exText = (exLay, 0, 0) := by decide +kernel
set_option maxRecDepth 100000 in
theorem ex_hops : hopsOf exLay (0, 0) = [⟨(1, 0), 0, 0⟩, ⟨(2, 0), 0, 1⟩] := by decide +kernel
set_option maxRecDepth 100000 in
theorem ex_back : hopsOf exLay (2, 1) = [⟨(0, 1), 0, 1⟩] := by decide +kernel
set_option maxRecDepth 100000 in
theorem ex_res : resources exLay = 4 := by decide +kernel

set_option maxRecDepth 100000 in
theorem example_any (w : World) : Calls Try.prog 10 #[] w fun e w' => e = .returned (.string (str exText)) ∧ w = w' := by
  go_enter Try.func10, Try.ntmps10
  go_wp2_with fail
  go_ret
  exact ⟨rfl, rfl⟩

/-- a list of hops in a new block -/
theorem new_hops (w : World) (cs : List Value) (L : List Hop) (t : TypeId) (n : Nat) (h : hopR.cs L = cs) (hn : L.length = n) : Rd hopR (w.alloc (.cells cs.toArray t)) (w.alloc (.cells cs.toArray t)).heap.size (some ⟨w.heap.size, 0, none⟩) n L := by
  subst h
  refine ⟨hn, fun j u hu => ⟨⟨w.heap.size, 0, none⟩, rfl, by simp, ?_⟩⟩
  have e : (⟨w.heap.size, 0, none⟩ : Addr).add j = ⟨w.heap.size, j, none⟩ := by unfold Addr.add; split <;> simp_all
  rw [e]
  have hb := heap_alloc_new w (.cells (hopR.cs L).toArray t)
  generalize w.alloc (.cells (hopR.cs L).toArray t) = W at hb
  simp [World.cell?, hb, hu]

set_option maxRecDepth 100000 in
set_option maxHeartbeats 4000000 in
theorem examples (w : World) (m : Int) (hm : w.cell? ⟨0, 0, none⟩ = some (.int .i64 m)) : Calls Try.prog 3 #[] w (Yes w) := by
  have HP := Lib.hid (p_parse (str exText) m w (by rw [size_str]; decide) hm)
  rw [bs_str, ex_parse] at HP
  clear hm
  go_enter Try.func3, Try.ntmps3
  go_wp2_with fail
  refine (example_any w).mono ?_
  rintro e w0 ⟨rfl, rfl⟩
  go_wp2_with fail
  refine HP.out.mono ?_
  rintro e w1 ⟨v, rfl, hR, hb1⟩
  obtain ⟨W, hW, HZ, HB0, HBX⟩ := boxed v w1
  have HC := Lib.hid HBX
  have hgW : w1.heap.size < W.heap.size := by rw [HZ.out]; omega
  have hRW := hR.grow HB0 HB0.size
  have HRW : Hid (∀ wx, Below W.heap.size W wx → RdL wx wx.heap.size v exLay) := fun wx hb => hRW.grow hb hb.size
  have HK : Hid (∀ wr, Below W.heap.size W wr → _) := fun wr hb => box_kept hb hgW HC.out
  have HBW := Lib.hid (hb1.trans (HB0.mono hb1.size))
  have hzw : w.heap.size ≤ W.heap.size := HBW.out.size
  clear hR hb1 HBX HB0 hRW
  have H1 : Hid (∀ wx, Below W.heap.size W wx → _) := fun wx hb => p_hops v exLay (0, 0) wx (HRW.out wx hb)
  rw [ex_hops] at H1
  have H2 : Hid (∀ wx, Below W.heap.size W wx → _) := fun wx hb => p_hops v exLay (2, 1) wx (HRW.out wx hb)
  rw [ex_back] at H2
  have H3 : Hid (∀ wx, Below W.heap.size W wx → _) := fun wx hb => p_resources v exLay wx (HRW.out wx hb)
  rw [ex_res] at H3
  obtain ⟨A1, n1, c1, A2, n2, c2, A3, n3, c3, A4, n4, c4⟩ := v
  simp only [LV.val] at *
  go_upto_region 2 with fail
  try rw [hW]
  clear hW
  obtain ⟨k0, k1, k2, k3⟩ := HK.out W (Below.refl _ _)
  go_wp2_with fail
  refine (H1.out W (Below.refl _ _)).mono ?_
  rintro e w2 ⟨Ah, nh, ch, rfl, hOh, hb2⟩
  have HB2 := Lib.hid hb2
  have HRh := Lib.hid hOh.rd
  obtain rfl : nh = 2 := hOh.1.symm
  clear k0 k1 k2 k3 hb2 hOh
  obtain ⟨k0, k1, k2, k3⟩ := HK.out w2 HB2.out
  go_wp2_with fail
  refine (H2.out w2 HB2.out).mono ?_
  rintro e w3 ⟨Ad, nd, cd, rfl, hOd, hb3⟩
  have hz23 := hb3.size
  have HRh3 := Lib.hid (HRh.out.grow hb3 hz23)
  have HB3 := Lib.hid (HB2.out.trans (hb3.mono HB2.out.size))
  have HRd := Lib.hid hOd.rd
  obtain rfl : nd = 1 := hOd.1.symm
  clear k0 k1 k2 k3 hb3 hOd
  obtain ⟨W4, hW4⟩ : ∃ W4, w3.alloc (.cells #[.int .i64 1, .int .i64 0, .int .i64 0, .int .i64 0, .int .i64 2, .int .i64 0, .int .i64 0, .int .i64 1] 37) = W4 := ⟨_, rfl⟩
  have hb4 : Below w3.heap.size w3 W4 := by rw [← hW4]; exact (Below.refl _ _).alloc (Nat.le_refl _) _
  have hz3 := HB3.out.size
  have HB4 := Lib.hid (HB3.out.trans (hb4.mono hz3))
  have HM4 : Hid (Rd hopR W4 W4.heap.size (some ⟨w3.heap.size, 0, none⟩) 2 [⟨(1, 0), 0, 0⟩, ⟨(2, 0), 0, 1⟩]) := by rw [Hid, ← hW4]; exact new_hops w3 [.int .i64 1, .int .i64 0, .int .i64 0, .int .i64 0, .int .i64 2, .int .i64 0, .int .i64 0, .int .i64 1] [⟨(1, 0), 0, 0⟩, ⟨(2, 0), 0, 1⟩] 37 2 rfl rfl
  have HL4 := Lib.hid (HRh3.out.grow hb4 hb4.size)
  have HD4 := Lib.hid (HRd.out.grow hb4 hb4.size)
  have HS4 := Lib.hid (same_hop Ah 2 ch (some ⟨w3.heap.size, 0, none⟩) 2 [⟨(1, 0), 0, 0⟩, ⟨(2, 0), 0, 1⟩] W4 HL4.out HM4.out (by decide))
  have HW4 := Lib.hid hW4
  clear hW4 hb4
  go_wp2_with fail
  rw [HW4.out]
  refine HS4.out.mono ?_
  rintro e w5 ⟨rfl, hb5⟩
  have hz4 := HB4.out.size
  have HB5 := Lib.hid (HB4.out.trans (hb5.mono hz4))
  have HD5 := Lib.hid (HD4.out.grow hb5 hb5.size)
  clear hb5 HW4
  obtain ⟨W6, hW6⟩ : ∃ W6, w5.alloc (.cells #[.int .i64 0, .int .i64 1, .int .i64 0, .int .i64 1] 37) = W6 := ⟨_, rfl⟩
  have hb6 : Below w5.heap.size w5 W6 := by rw [← hW6]; exact (Below.refl _ _).alloc (Nat.le_refl _) _
  have hz5 := HB5.out.size
  have HB6 := Lib.hid (HB5.out.trans (hb6.mono hz5))
  have HM6 : Hid (Rd hopR W6 W6.heap.size (some ⟨w5.heap.size, 0, none⟩) 1 [⟨(0, 1), 0, 1⟩]) := by rw [Hid, ← hW6]; exact new_hops w5 [.int .i64 0, .int .i64 1, .int .i64 0, .int .i64 1] [⟨(0, 1), 0, 1⟩] 37 1 rfl rfl
  have HD6 := Lib.hid (HD5.out.grow hb6 hb6.size)
  have HS6 := Lib.hid (same_hop Ad 1 cd (some ⟨w5.heap.size, 0, none⟩) 1 [⟨(0, 1), 0, 1⟩] W6 HD6.out HM6.out (by decide))
  have HW6 := Lib.hid hW6
  clear hW6 hb6
  go_wp2_with fail
  rw [HW6.out]
  refine HS6.out.mono ?_
  rintro e w7 ⟨rfl, hb7⟩
  have hz6 := HB6.out.size
  have HB7 := Lib.hid (HB6.out.trans (hb7.mono hz6))
  clear hb7 HW6
  obtain ⟨k0, k1, k2, k3⟩ := HK.out w7 HB7.out
  go_wp2_with fail
  refine (H3.out w7 HB7.out).mono ?_
  rintro e w8 ⟨rfl, hb8⟩
  have HB8 := Lib.hid (HBW.out.trans ((HB7.out.trans (hb8.mono HB7.out.size)).mono hzw))
  clear hb8 k0 k1 k2 k3
  go_wp2_with fail
  go_ret
  exact ⟨rfl, HB8.out⟩
end Go.Proofs.Ytdcbaedhgoipjaa.Exm
