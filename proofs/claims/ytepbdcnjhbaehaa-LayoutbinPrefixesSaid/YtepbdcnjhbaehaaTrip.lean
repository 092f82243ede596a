/-
  The walks of the statements on the encoding of a generated layout: the round trip, its proper beginnings.
-/
import Derived.Test.YtepbdcnjhbaehaaPDec
import Derived.Test.YtepbdcnjhbaehaaEncA
import Derived.Test.YtepbdcnjhbaehaaREnc
import Derived.Test.YtepbdcnjhbaehaaMaker
import Derived.Test.YtepbdcnjhbaehaaEqs
import Derived.Test.YtepbdcnjhbaehaaCrcA
import Derived.Test.YtepbdcnjhbaehaaAwake
import Derived.Test.YtepbdcnjhbaehaaLawF
namespace Go.Proofs.Ytepbdcnjhbaehaa.Trip
open Go.ChangeShapes Go.WideShapes Go.ChangeAt Go.RowKit Wd Small Mem Lay LayT Recs PNames PSecs PEnds Src Dec Eqs Awake PDec Enc REnc Maker LawF Weach Wnum
set_option linter.unusedVariables false

theorem enc_small {l : Lay} (h : check l = 0) : (Bin.enc l).length ≤ 100000 := by
  have hval := valid_of h
  have hs := Bin.sizes_of h
  have g1 : ∀ a ∈ l.stations, (Bin.nm a).length ≤ 13 := fun a ha => by rw [nm_len]; have := name_le (hval.st a ha); omega
  have g2 : ∀ a ∈ l.points, (Bin.nm a).length ≤ 13 := fun a ha => by rw [nm_len]; have := name_le (hval.pt a ha); omega
  have g3 : ∀ a ∈ l.sections, (Bin.encSec a).length ≤ 20 := fun a ha => by rw [sec_len]; have := name_le (hval.sec a ha).1; omega
  have g4 : ∀ a ∈ l.links, (Bin.encLnk a).length ≤ 4 := fun a ha => by rw [lnk_len]; omega
  have f1 := flat_all _ 13 _ g1
  have f2 := flat_all _ 13 _ g2
  have f3 := flat_all _ 20 _ g3
  have f4 := flat_all _ 4 _ g4
  rw [Bin.enc_len]
  unfold Bin.body
  simp only [List.length_append, Bin.counts, Bin.sig, Bin.le_length, List.length_cons, List.length_nil]
  omega
def Enco (l : Lay) (w : World) (e : Ending) (w' : World) : Prop := e = .returned (.tuple #[.string (str (Bin.enc l)), .int .i64 0]) ∧ Below w.heap.size w w'
theorem enco {P : Program} {f : FuncId} {args : Array Value} {l : Lay} {w : World} (hv : check l = 0) (h : Calls P f args w (EncPost l w)) : Calls P f args w (Enco l w) :=
  h.mono fun e w' h => by unfold EncPost encT encE at h; rwa [if_pos hv, if_pos hv] at h

set_option maxRecDepth 100000 in
set_option maxHeartbeats 4000000 in
theorem trip (A0 : Option Addr) (n0 c0 : Nat) (hn0 : n0 ≤ c0) (hc0 : c0 ≤ 9223372036854775807) (w : World) (hI : Ints w w.heap.size A0 n0) :
    Calls Try.prog 9 #[.slice A0 n0 c0] w (Yes w) := by
  go_enter Try.func9, Try.ntmps9
  go_wp2_with fail
  refine (layout_any A0 n0 c0 w hI (by omega)).mono ?_
  rintro e wl ⟨v, L, rfl, hR, hv, hbl⟩
  obtain ⟨W1, hW1, HZ1, HB1, HBX1⟩ := boxed v wl
  have hR1 := hR.grow HB1 HB1.size
  have HR1 := Lib.hid hR1
  have HW1 := Lib.hid (hbl.trans (HB1.mono hbl.size))
  have HC1 := Lib.hid HBX1
  have hg1 : wl.heap.size < W1.heap.size := by rw [HZ1.out]; omega
  have HE := Lib.hid (enco hv (p_encode v L W1 hR1))
  unfold Enco at HE
  have hsz : (str (Bin.enc L)).size ≤ 9223372036854775807 := by have := enc_small hv; rw [size_str]; omega
  have HD := Lib.hid (fun wx => p_decode (str (Bin.enc L)) wx hsz)
  simp only [bs_str, Bin.decode_enc hv] at HD
  generalize str (Bin.enc L) = t at *
  clear hR hR1 hbl HB1 HBX1 hI hsz hv
  obtain ⟨A1, n1, c1, A2, n2, c2, A3, n3, c3, A4, n4, c4⟩ := v
  simp only [LV.val] at *
  go_upto_region 2 with fail
  try rw [hW1]
  clear hW1
  obtain ⟨a0, a1, a2, a3⟩ := HC1.out
  go_wp2_with fail
  refine HE.out.mono ?_
  rintro e we ⟨rfl, hbe⟩
  have HW2 := Lib.hid (HW1.out.trans (hbe.mono HW1.out.size))
  have HR2 := Lib.hid (HR1.out.grow hbe hbe.size)
  have HC2 := Lib.hid (box_kept (v := ⟨A1, n1, c1, A2, n2, c2, A3, n3, c3, A4, n4, c4⟩) hbe hg1 HC1.out)
  have hg2 : wl.heap.size < we.heap.size := Nat.lt_of_lt_of_le hg1 hbe.size
  clear hbe a0 a1 a2 a3 HR1 HC1 HE HW1 hg1
  go_wp2_with fail
  refine (HD.out we).mono ?_
  rintro e w2 ⟨v2, rfl, hR2, hb2⟩
  obtain ⟨W3, hW3, HZ3, HB3, HBX3⟩ := boxed v2 w2
  have hbb := hb2.trans (HB3.mono hb2.size)
  have HRA := Lib.hid (HR2.out.grow hbb hbb.size)
  have HRB := Lib.hid (hR2.grow HB3 HB3.size)
  have HW3 := Lib.hid (HW2.out.trans (hbb.mono HW2.out.size))
  have HCA := Lib.hid (box_kept (v := ⟨A1, n1, c1, A2, n2, c2, A3, n3, c3, A4, n4, c4⟩) hbb hg2 HC2.out)
  have HCB := Lib.hid HBX3
  have hSame := same_layout ⟨A1, n1, c1, A2, n2, c2, A3, n3, c3, A4, n4, c4⟩ v2 L W3 HRA.out HRB.out
  obtain ⟨B1, k1, d1, B2, k2, d2, B3, k3, d3, B4, k4, d4⟩ := v2
  simp only [LV.val] at *
  have HSame := Lib.hid hSame
  clear hR2 hb2 HB3 HBX3 hbb hSame HR2 HC2 HD
  go_upto_region 4 with fail
  try rw [hW3]
  clear hW3
  obtain ⟨a0, a1, a2, a3⟩ := HCA.out
  obtain ⟨b0, b1, b2, b3⟩ := HCB.out
  go_wp2_with (first | (go_at_call 15; refine (Awk.awake_any _).mono ?_; rintro e w' ⟨rfl, rfl⟩) | fail)
  refine HSame.out.mono ?_
  rintro e w3 ⟨rfl, hb3⟩
  have HW4 := Lib.hid (HW3.out.trans (hb3.mono HW3.out.size))
  clear hb3 a0 a1 a2 a3 b0 b1 b2 b3
  go_wp2_with fail
  go_ret
  exact ⟨by simp, HW4.out⟩

set_option maxRecDepth 100000 in
set_option maxHeartbeats 4000000 in
theorem prefixes (A0 : Option Addr) (n0 c0 : Nat) (hn0 : n0 ≤ c0) (hc0 : c0 ≤ 9223372036854775807) (a1 : Int) (w1 : (Lit.int .i64 a1).wf = true) (w : World) (hI : Ints w w.heap.size A0 n0) :
    Calls Try.prog 11 #[.slice A0 n0 c0, .int .i64 a1] w (Yes w) := by
  obtain ⟨b11, b12⟩ := bounds_i64 w1
  clear w1
  go_enter Try.func11, Try.ntmps11
  go_wp2_with fail
  refine (layout_any A0 n0 c0 w hI (by omega)).mono ?_
  rintro e wl ⟨v, L, rfl, hR, hv, hbl⟩
  have HBL := Lib.hid hbl
  have HE := Lib.hid (enco hv (r_encode v L wl hR))
  unfold Enco at HE
  have hsm := enc_small hv
  have hlen : 12 ≤ (Bin.enc L).length := by rw [Bin.enc_len]; have := Bin.body_len L; omega
  obtain ⟨E, hE⟩ : ∃ E, Bin.enc L = E := ⟨_, rfl⟩
  have HP := Lib.hid (fun k (hk : k < E.length) => by have := Bin.decode_prefix hv (k := k) (by rw [hE]; exact hk); rw [hE] at this; exact this)
  rw [hE] at HE hsm hlen
  clear hR hbl hI hv hE
  obtain ⟨A1, n1, c1, A2, n2, c2, A3, n3, c3, A4, n4, c4⟩ := v
  simp only [LV.val] at *
  go_wp2_with fail
  refine HE.out.mono ?_
  rintro e we ⟨rfl, hbe⟩
  have HW := Lib.hid (HBL.out.trans (hbe.mono HBL.out.size))
  clear hbe HE HBL
  have hts : (str E).size = E.length := size_str E
  obtain ⟨t, ht⟩ : ∃ t, str E = t := ⟨_, rfl⟩
  have hbt : bs t = E := by rw [← ht, bs_str]
  rw [ht] at hts ⊢
  have hlt : 12 ≤ t.size := by omega
  have hst : t.size ≤ 100000 := by omega
  have HTS := Lib.hid hts
  clear ht hts hlen hsm
  go_wp2_with fail
  refine (pick_any a1 (t.size : Nat) we b11 b12 (by omega) (by omega)).mono ?_
  rintro e wx ⟨rfl, rfl⟩
  obtain ⟨p0, p1⟩ := pick_range a1 (t.size : Nat) (by omega)
  obtain ⟨q, hq⟩ : ∃ q : Nat, pick a1 (t.size : Nat) = q := ⟨(pick a1 (t.size : Nat)).toNat, by omega⟩
  rw [hq] at p0 p1 ⊢
  clear hq
  have hqs : q < t.size := by omega
  have hc1 : (q : Int) ≤ (t.size : Int) := by omega
  obtain ⟨u, hu, hus, hub⟩ : ∃ u : ByteArray, t.extract 0 q = u ∧ u.size ≤ 9223372036854775807 ∧ bs u = E.take q := ⟨_, rfl, by rw [ByteArray.size_extract]; omega, by rw [bs_extract, List.drop_zero, Nat.sub_zero, hbt]⟩
  obtain ⟨⟨D, i, er⟩, hd⟩ : ∃ r, Bin.decode (E.take q) = r := ⟨_, rfl⟩
  have hp := HP.out q (by have := HTS.out; omega)
  have HD := Lib.hid (fun wx => p_decode u wx hus)
  simp only [hub, hd] at HD
  rw [hd] at hp
  obtain ⟨rfl, hi⟩ : er = 10 ∧ i ≤ q := hp
  have hi' : (i : Int) ≤ (q : Int) := by omega
  clear hd hub HP hbt
  go_wp2_with fail
  refine (HD.out _).mono ?_
  rintro e w2 ⟨v2, rfl, hR2, hb2⟩
  have HW2 := Lib.hid (HW.out.trans (hb2.mono HW.out.size))
  obtain ⟨W3, hW3, HZ3, HB3, HBX3⟩ := boxed v2 w2
  have HW3 := Lib.hid (HW2.out.trans (HB3.mono HW2.out.size))
  obtain ⟨B1, k1, d1, B2, k2, d2, B3, k3, d3, B4, k4, d4⟩ := v2
  simp only [LV.val] at *
  clear hR2 hb2 HB3 HBX3
  go_upto_region 4 with fail
  try rw [hW3]
  clear hW3
  go_wp2_with (first | (go_at_call 15; refine (Awk.awake_any _).mono ?_; rintro e w' ⟨rfl, rfl⟩) | fail)
  go_ret
  exact ⟨by simp, HW3.out⟩
end Go.Proofs.Ytepbdcnjhbaehaa.Trip
