/-
  The walk of the statements' comparison of the program's Decode with the document's.
-/
import Derived.Test.YtepbdcnjhbaehaaRDec
import Derived.Test.YtepbdcnjhbaehaaEqs
import Derived.Test.YtepbdcnjhbaehaaCrcA
import Derived.Test.YtepbdcnjhbaehaaAwake
namespace Go.Proofs.Ytepbdcnjhbaehaa.Dcs
open Go.ChangeShapes Go.WideShapes Go.ChangeAt Go.RowKit Wd Small Mem Lay LayT Recs PNames PSecs PEnds Eqs Awake PDec RDec
set_option linter.unusedVariables false

set_option maxRecDepth 100000 in
set_option maxHeartbeats 4000000 in
theorem decodes_any (s : ByteArray) (w : World) (hs : s.size ≤ 9223372036854775807) : Calls Try.prog 21 #[.string s] w (Yes w) := by
  have HP := Lib.hid (p_decode s w hs)
  have HR := Lib.hid (fun wx => r_decode s wx hs)
  generalize Bin.decode (bs s) = R at *
  obtain ⟨l, num, er⟩ := R
  go_enter Try.func21, Try.ntmps21
  go_wp2_with fail
  refine HP.out.mono ?_
  rintro e w1 ⟨v, rfl, hR1, hb1⟩
  obtain ⟨W1, hW1, HZ1, HB1, HBX1⟩ := boxed v w1
  have HR1 := Lib.hid (hR1.grow HB1 HB1.size)
  have HW1 := Lib.hid (hb1.trans (HB1.mono hb1.size))
  have HC1 := Lib.hid HBX1
  have hg1 : w1.heap.size < W1.heap.size := by rw [HZ1.out]; omega
  have hz1 := HW1.out.size
  clear hR1 hb1 HB1 HBX1
  obtain ⟨A1, n1, c1, A2, n2, c2, A3, n3, c3, A4, n4, c4⟩ := v
  simp only [LV.val] at *
  go_upto_region 2 with fail
  try rw [hW1]
  clear hW1
  go_wp2_with fail
  refine (HR.out W1).mono ?_
  rintro e w2 ⟨v2, rfl, hR2, hb2⟩
  have hz2 := hb2.size
  obtain ⟨W2, hW2, HZ2, HB2, HBX2⟩ := boxed v2 w2
  have hbb := hb2.trans (HB2.mono hz2)
  have HRA := Lib.hid (HR1.out.grow hbb hbb.size)
  have HRB := Lib.hid (hR2.grow HB2 HB2.size)
  have HW2 := Lib.hid (HW1.out.trans (hbb.mono hz1))
  have HCA := Lib.hid (box_kept (v := ⟨A1, n1, c1, A2, n2, c2, A3, n3, c3, A4, n4, c4⟩) hbb hg1 HC1.out)
  have HCB := Lib.hid HBX2
  have hSame := same_layout ⟨A1, n1, c1, A2, n2, c2, A3, n3, c3, A4, n4, c4⟩ v2 l W2 HRA.out HRB.out
  obtain ⟨B1, k1, d1, B2, k2, d2, B3, k3, d3, B4, k4, d4⟩ := v2
  simp only [LV.val] at *
  have HSame := Lib.hid hSame
  clear hR2 hb2 HB2 HBX2 hbb hSame
  go_upto_region 3 with fail
  try rw [hW2]
  clear hW2
  obtain ⟨a0, a1, a2, a3⟩ := HCA.out
  obtain ⟨b0, b1, b2, b3⟩ := HCB.out
  go_wp2_with fail
  refine HSame.out.mono ?_
  rintro e w3 ⟨rfl, hb3⟩
  have HW3 := Lib.hid (HW2.out.trans (hb3.mono HW2.out.size))
  clear hb3 a0 a1 a2 a3 b0 b1 b2 b3
  go_wp2_with fail
  go_ret
  exact ⟨by simp, HW3.out⟩
end Go.Proofs.Ytepbdcnjhbaehaa.Dcs
