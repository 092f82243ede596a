/-
  The walk of the statement on the text of a generated layout: the round trip.
-/
import Derived.Test.YtkfobijgjdgbgaaDoorFmtAll
import Derived.Test.YtkfobijgjdgbgaaDoorPPar
import Derived.Test.YtkfobijgjdgbgaaDoorMaker
import Derived.Test.YtkfobijgjdgbgaaDoorEqs
import Derived.Test.YtkfobijgjdgbgaaDoorAwake
import Derived.Test.YtkfobijgjdgbgaaDoorLawF
namespace Go.Proofs.YtkfobijgjdgbgaaDoor.WRt
open Go.ChangeShapes Go.WideShapes Go.ChangeAt Go.RowKit Wd Small Mem Lay LayT Recs PNames PSecs PEnds Src Eqs Awake PPar Maker LawF PFmt Itoa
set_option linter.unusedVariables false

theorem parse_back (L : Lay) (hv : check L = 0) (m : Int) (wx : World) (hm : wx.cell? ⟨0, 0, none⟩ = some (.int .i64 m)) : Calls Tryd.prog 13 #[.string (str (format L))] wx (ParPost (L, 0, 0) wx) := by
  have h := p_parse (str (format L)) m wx (by have := format_len L; rw [size_str]; omega) hm
  rw [bs_str, parse_format L hv] at h
  exact h

set_option maxRecDepth 100000 in
set_option maxHeartbeats 4000000 in
theorem trip (A0 : Option Addr) (n0 c0 : Nat) (hn0 : n0 ≤ c0) (hc0 : c0 ≤ 9223372036854775807) (w : World) (hI : Ints w w.heap.size A0 n0) (m : Int) (hm : w.cell? ⟨0, 0, none⟩ = some (.int .i64 m)) (ht : Tab w) :
    Calls Tryd.prog 6 #[.slice A0 n0 c0] w (Yes w) := by
  go_enter Tryd.func6, Tryd.ntmps6
  go_wp2_with fail
  refine (layout_any A0 n0 c0 w hI (by omega)).mono ?_
  rintro e wl ⟨v, L, rfl, hR, hv, hbl⟩
  obtain ⟨W1, hW1, HZ1, HB1, HBX1⟩ := boxed v wl
  have hR1 := hR.grow HB1 HB1.size
  have HR1 := Lib.hid hR1
  have HW1 := Lib.hid (hbl.trans (HB1.mono hbl.size))
  have HC1 := Lib.hid HBX1
  have hg1 : wl.heap.size < W1.heap.size := by rw [HZ1.out]; omega
  have HE := Lib.hid (p_format v L W1 hR1 hv (ht.keep HW1.out))
  unfold FmtPost at HE
  have HM := Lib.hid (fun wx (hb : Below w.heap.size w wx) => PPar.keep_cell hb hm)
  have HD := Lib.hid (fun wx (hb : Below w.heap.size w wx) => parse_back L hv m wx (HM.out wx hb))
  generalize str (format L) = t at *
  clear hR hR1 hbl HB1 HBX1 hI hv hm ht HM
  obtain ⟨A1, n1, c1, A2, n2, c2, A3, n3, c3, A4, n4, c4⟩ := v
  simp only [LV.val] at *
  go_upto_region 2 with fail
  try rw [hW1]
  clear hW1
  obtain ⟨a0, a1, a2, a3⟩ := HC1.out
  go_wp2_with fail
  refine HE.out.mono ?_
  rintro e we ⟨rfl, hbe⟩
  have HW2 := Lib.hid (HW1.out.trans (hbe.mono HW1.out.size))
  have HR2 := Lib.hid (HR1.out.grow hbe hbe.size)
  have HC2 := Lib.hid (box_kept (v := ⟨A1, n1, c1, A2, n2, c2, A3, n3, c3, A4, n4, c4⟩) hbe hg1 HC1.out)
  have hg2 : wl.heap.size < we.heap.size := Nat.lt_of_lt_of_le hg1 hbe.size
  clear hbe a0 a1 a2 a3 HR1 HC1 HE HW1 hg1
  go_wp2_with fail
  refine (HD.out we HW2.out).mono ?_
  rintro e w2 ⟨v2, rfl, hR2, hb2⟩
  obtain ⟨W3, hW3, HZ3, HB3, HBX3⟩ := boxed v2 w2
  have hbb := hb2.trans (HB3.mono hb2.size)
  have HRA := Lib.hid (HR2.out.grow hbb hbb.size)
  have HRB := Lib.hid (hR2.grow HB3 HB3.size)
  have HW3 := Lib.hid (HW2.out.trans (hbb.mono HW2.out.size))
  have HCA := Lib.hid (fun wx (hb : Below W3.heap.size W3 wx) => box_kept (v := ⟨A1, n1, c1, A2, n2, c2, A3, n3, c3, A4, n4, c4⟩) (hbb.trans (hb.mono hbb.size)) hg2 HC2.out)
  have hg3 : w2.heap.size < W3.heap.size := by rw [HZ3.out]; omega
  have HCB := Lib.hid (fun wx (hb : Below W3.heap.size W3 wx) => box_kept (v := v2) hb hg3 HBX3)
  have HSame := Lib.hid (fun wx (hb : Below W3.heap.size W3 wx) => same_layout ⟨A1, n1, c1, A2, n2, c2, A3, n3, c3, A4, n4, c4⟩ v2 L wx (HRA.out.grow hb hb.size) (HRB.out.grow hb hb.size))
  obtain ⟨B1, k1, d1, B2, k2, d2, B3, k3, d3, B4, k4, d4⟩ := v2
  simp only [LV.val] at *
  clear hR2 hb2 HB3 HBX3 hbb HR2 HC2 HD
  go_upto_region 3 with fail
  try rw [hW3]
  clear hW3
  go_wp2_with (first | (go_at_call 7; refine (awake_any _).mono ?_; rintro e wa ⟨rfl, hba⟩; obtain ⟨a0, a1, a2, a3⟩ := HCA.out wa hba; obtain ⟨b0, b1, b2, b3⟩ := HCB.out wa hba) | fail)
  refine (HSame.out wa hba).mono ?_
  rintro e w3 ⟨rfl, hb3⟩
  have HW4 := Lib.hid ((HW3.out.trans (hba.mono HW3.out.size)).trans (hb3.mono (HW3.out.trans (hba.mono HW3.out.size)).size))
  clear hb3 a0 a1 a2 a3 b0 b1 b2 b3
  go_wp2_with fail
  go_ret
  exact ⟨by simp, HW4.out⟩
end Go.Proofs.YtkfobijgjdgbgaaDoor.WRt
