/-
  The walk of the statement that Decode returns the specified results for changed encodings.
-/
import Derived.Test.YtepbdcnjhbaehaaTrip
import Derived.Test.YtepbdcnjhbaehaaChg
import Derived.Test.YtepbdcnjhbaehaaDcs
import Derived.Deep.CutBlock
namespace Go.Proofs.Ytepbdcnjhbaehaa.Mut
open Go.ChangeShapes Go.WideShapes Go.ChangeAt Go.RowKit Wd Small Mem Lay LayT Recs PNames PSecs PEnds Src Dec Eqs Awake PDec Enc REnc Maker LawF Trip Chg Dcs Crc CrcP
set_option linter.unusedVariables false

theorem conv_any (wx : World) (b : UInt8) : (convert 36 9 (.slice (some ⟨wx.heap.size, 0, none⟩) 1 1)).run Try.prog (wx.alloc (.cells #[.int .u8 (b.toNat : Int)] 5)) = .ok (.string ⟨#[b]⟩) (wx.alloc (.cells #[.int .u8 (b.toNat : Int)] 5)) :=
  run_convert_bytes_back (P := Try.prog) _ 36 9 5 ⟨wx.heap.size, 0, none⟩ 1 [b] Try.underlying36 Try.underlying5 Try.underlying9 (fun j hj => by
    obtain rfl : j = 0 := by simpa using hj
    simp [Addr.add])
theorem conv_drew (wx : World) (b : UInt8) : (convert 36 9 (.slice (some ⟨wx.heap.size, 0, none⟩) 1 1)).run Try.prog (wx.alloc (.cells #[.int .u8 (b.toNat : Int)] 5)).drew = .ok (.string ⟨#[b]⟩) (wx.alloc (.cells #[.int .u8 (b.toNat : Int)] 5)).drew :=
  run_convert_bytes_back (P := Try.prog) _ 36 9 5 ⟨wx.heap.size, 0, none⟩ 1 [b] Try.underlying36 Try.underlying5 Try.underlying9 (fun j hj => by
    obtain rfl : j = 0 := by simpa using hj
    simp [Addr.add])
set_option maxRecDepth 100000 in
set_option maxHeartbeats 4000000 in
theorem mutations (A0 : Option Addr) (n0 c0 : Nat) (hn0 : n0 ≤ c0) (hc0 : c0 ≤ 9223372036854775807) (a1 : Int) (w1 : (Lit.int .i64 a1).wf = true) (a2 : Int) (w2 : (Lit.int .u8 a2).wf = true) (a3 : Int) (w3 : (Lit.int .u8 a3).wf = true) (w : World) (hI : Ints w w.heap.size A0 n0) :
    Calls Try.prog 8 #[.slice A0 n0 c0, .int .i64 a1, .int .u8 a2, .int .u8 a3] w (Yes w) := by
  obtain ⟨b11, b12⟩ := bounds_i64 w1
  obtain ⟨b21, b22⟩ : 0 ≤ a2 ∧ a2 ≤ 255 := by simpa [Lit.wf, IntKind.min, IntKind.max, IntKind.signed, IntKind.bits] using w2
  obtain ⟨b31, b32⟩ : 0 ≤ a3 ∧ a3 ≤ 255 := by simpa [Lit.wf, IntKind.min, IntKind.max, IntKind.signed, IntKind.bits] using w3
  clear w1 w2 w3
  obtain ⟨b, hb⟩ : ∃ b : UInt8, a2 = (b.toNat : Int) := ⟨UInt8.ofNat a2.toNat, by rw [UInt8.toNat_ofNat']; omega⟩
  subst hb
  go_enter Try.func8, Try.ntmps8
  go_wp2_with fail
  refine (layout_any A0 n0 c0 w hI (by omega)).mono ?_
  rintro e wl ⟨v, L, rfl, hR, hv, hbl⟩
  have HBL := Lib.hid hbl
  have HE := Lib.hid (enco hv (r_encode v L wl hR))
  unfold Enco at HE
  have hsm := enc_small hv
  have hlen : 12 ≤ (Bin.enc L).length := by rw [Bin.enc_len]; have := Bin.body_len L; omega
  generalize Bin.enc L = E at *
  clear hR hbl hI hv
  obtain ⟨A1, n1, c1, A2, n2, c2, A3, n3, c3, A4, n4, c4⟩ := v
  simp only [LV.val] at *
  go_wp2_with fail
  refine HE.out.mono ?_
  rintro e we ⟨rfl, hbe⟩
  have HW := Lib.hid (HBL.out.trans (hbe.mono HBL.out.size))
  clear hbe HE HBL
  have hts : (str E).size = E.length := size_str E
  obtain ⟨s, ht⟩ : ∃ t, str E = t := ⟨_, rfl⟩
  rw [ht] at hts ⊢
  have hlt : 12 ≤ s.size := by omega
  have hst : s.size ≤ 100000 := by omega
  clear ht hts hlen hsm
  go_wp2_with fail
  refine (pick_any a1 (s.size : Nat) we b11 b12 (by omega) (by omega)).mono ?_
  rintro e wx ⟨rfl, rfl⟩
  obtain ⟨p0, p1⟩ := pick_range a1 (s.size : Nat) (by omega)
  obtain ⟨q, hq⟩ : ∃ q : Nat, pick a1 (s.size : Nat) = q := ⟨(pick a1 (s.size : Nat)).toNat, by omega⟩
  rw [hq] at p0 p1 ⊢
  clear hq
  have hqs : q < s.size := by omega
  obtain ⟨r, hr, r0, r3⟩ : ∃ r, Int.tmod a3 4 = r ∧ 0 ≤ r ∧ r ≤ 3 := ⟨_, rfl, by rw [Int.tmod_eq_emod_of_nonneg b31]; omega, by rw [Int.tmod_eq_emod_of_nonneg b31]; omega⟩
  go_upto_block 0 with fail
  go_cut [11, 12, 13] from 27 to 90 (fun _ t _ wx => ∃ u : ByteArray, t = .string u ∧ u.size ≤ 9223372036854775807 ∧ Below w.heap.size w wx)
  case first =>
    have c0' : (0 : Int) ≤ q := by omega
    have c1' : (q : Int) ≤ (s.size : Int) := by omega
    have k1 : (⟨#[b]⟩ : ByteArray).size = 1 := rfl
    have HC := Lib.hid (fun (wx : World) => conv_any wx b)
    obtain rfl | rfl | rfl | rfl : r = 0 ∨ r = 1 ∨ r = 2 ∨ r = 3 := by omega
    · obtain ⟨u1, hu1, s1⟩ : ∃ u : ByteArray, s.extract 0 q = u ∧ u.size ≤ q := ⟨_, rfl, by rw [ByteArray.size_extract]; omega⟩
      go_wp2_with fail
      go_meet
      exact ⟨u1, rfl, by omega, HW.out⟩
    · have hcv := HC.out
      have l1 : s.size + (⟨#[b]⟩ : ByteArray).size ≤ 9223372036854775807 := by omega
      obtain ⟨u1, hu1, s1⟩ : ∃ u : ByteArray, s ++ ⟨#[b]⟩ = u ∧ u.size ≤ s.size + 1 := ⟨_, rfl, by rw [ByteArray.size_append]; omega⟩
      have HB1 : Hid (Below w.heap.size w (we.alloc (.cells #[.int .u8 (b.toNat : Int)] 5))) := HW.out.alloc HW.out.size _
      go_wp2_with fail
      go_meet
      exact ⟨u1, rfl, by omega, HB1.out⟩
    · have hcv := fun (wx : World) => conv_drew wx b
      obtain ⟨u1, hu1, s1⟩ : ∃ u : ByteArray, s.extract 0 q = u ∧ u.size ≤ q := ⟨_, rfl, by rw [ByteArray.size_extract]; omega⟩
      obtain ⟨u2, hu2, s2⟩ : ∃ u : ByteArray, s.extract (q + 1) s.size = u ∧ u.size ≤ s.size - (q + 1) := ⟨_, rfl, by rw [ByteArray.size_extract]; omega⟩
      have l1 : u1.size + (⟨#[b]⟩ : ByteArray).size ≤ 9223372036854775807 := by omega
      obtain ⟨u3, hu3, s3⟩ : ∃ c : ByteArray, u1 ++ ⟨#[b]⟩ = c ∧ c.size ≤ q + 1 := ⟨_, rfl, by rw [ByteArray.size_append]; omega⟩
      have l2 : u3.size + u2.size ≤ 9223372036854775807 := by omega
      obtain ⟨u4, hu4, s4⟩ : ∃ c : ByteArray, u3 ++ u2 = c ∧ c.size ≤ 9223372036854775807 := ⟨_, rfl, by rw [ByteArray.size_append]; omega⟩
      have c2' : (0 : Int) ≤ (q : Int) + 1 := by omega
      have c3' : (q : Int) + 1 ≤ (s.size : Int) := by omega
      have hwq : IntKind.i64.wrap ((q : Int) + 1) = (q : Int) + 1 := IntWalk.i64_in _ (by omega)
      have htq : ((q : Int) + 1).toNat = q + 1 := by omega
      have HB1 : Hid (Below w.heap.size w (we.alloc (.cells #[.int .u8 (b.toNat : Int)] 5)).drew) := (HW.out.alloc HW.out.size _).drew
      clear k1
      go_upto_region 14 with fail
      go_region
      go_wp2_with fail
      go_meet
      exact ⟨u4, rfl, by omega, HB1.out⟩
    · have hwl : IntKind.i64.wrap ((s.size : Int) - 4) = (s.size : Int) - 4 := IntWalk.i64_in _ (by omega)
      have htn : ((s.size : Int) - 4).toNat = s.size - 4 := by omega
      obtain ⟨p0', p1'⟩ := pick_range a1 ((s.size : Int) - 4) (by omega)
      have HPK := Lib.hid (fun wx => pick_any a1 ((s.size : Int) - 4) wx b11 b12 (by omega) (by omega))
      obtain ⟨q2, hq2⟩ : ∃ q2 : Nat, pick a1 ((s.size : Int) - 4) = q2 := ⟨(pick a1 ((s.size : Int) - 4)).toNat, by omega⟩
      rw [hq2] at p0' p1' HPK
      clear hq2
      have hcv := fun (wx : World) => conv_drew wx b
      obtain ⟨u1, hu1, s1⟩ : ∃ u : ByteArray, s.extract 0 q2 = u ∧ u.size ≤ q2 := ⟨_, rfl, by rw [ByteArray.size_extract]; omega⟩
      obtain ⟨u2, hu2, s2⟩ : ∃ u : ByteArray, s.extract (q2 + 1) (s.size - 4) = u ∧ u.size ≤ s.size - (q2 + 1) := ⟨_, rfl, by rw [ByteArray.size_extract]; omega⟩
      have l1 : u1.size + (⟨#[b]⟩ : ByteArray).size ≤ 9223372036854775807 := by omega
      obtain ⟨u3, hu3, s3⟩ : ∃ c : ByteArray, u1 ++ ⟨#[b]⟩ = c ∧ c.size ≤ q2 + 1 := ⟨_, rfl, by rw [ByteArray.size_append]; omega⟩
      have l2 : u3.size + u2.size ≤ 9223372036854775807 := by omega
      obtain ⟨u4, hu4, s4⟩ : ∃ c : ByteArray, u3 ++ u2 = c ∧ c.size ≤ s.size + 1 := ⟨_, rfl, by rw [ByteArray.size_append]; omega⟩
      have d1' : (q2 : Int) ≤ (s.size : Int) := by omega
      have d2' : (0 : Int) ≤ (q2 : Int) + 1 := by omega
      have d3' : (q2 : Int) + 1 ≤ (s.size : Int) - 4 := by omega
      have d4' : (s.size : Int) - 4 ≤ (s.size : Int) := by omega
      have d5' : (0 : Int) ≤ (s.size : Int) - 4 := by omega
      have d6' : (0 : Int) ≤ q2 := by omega
      have hwq : IntKind.i64.wrap ((q2 : Int) + 1) = (q2 : Int) + 1 := IntWalk.i64_in _ (by omega)
      have htq : ((q2 : Int) + 1).toNat = q2 + 1 := by omega
      have HB1 : Hid (Below w.heap.size w (we.alloc (.cells #[.int .u8 (b.toNat : Int)] 5)).drew) := (HW.out.alloc HW.out.size _).drew
      have HCR := Lib.hid (fun wx => r_crc u4 wx (by omega))
      have hcl := crc_lt (bs u4)
      generalize crc (bs u4) = n at *
      clear k1 c0' c1'
      go_wp2_with fail
      refine (HPK.out _).mono ?_
      rintro e wp ⟨rfl, rfl⟩
      go_upto_region 6 with fail
      go_region
      generalize (we.alloc (.cells #[.int .u8 (b.toNat : Int)] 5)).drew = W at *
      clear hcv
      have hn3 : (n : Int) / 16777216 = ((UInt8.ofNat ((n : Int) / 16777216).toNat).toNat : Int) := by
        have := low_int ((n : Int) / 16777216) (by omega); omega
      have hcv4 := conv_four ((n : Int) % 256) ((n : Int) / 256 % 256) ((n : Int) / 65536 % 256) ((n : Int) / 16777216) _ _ _ _ (low_int _ (by omega)) (low_int _ (by omega)) (low_int _ (by omega)) hn3
      generalize UInt8.ofNat (n : Int).toNat = e0 at *
      generalize UInt8.ofNat ((n : Int) / 256).toNat = e1 at *
      generalize UInt8.ofNat ((n : Int) / 65536).toNat = e2 at *
      generalize UInt8.ofNat ((n : Int) / 16777216).toNat = e3 at *
      clear hn3
      obtain ⟨t4, ht4⟩ : ∃ t4, str [e0, e1, e2, e3] = t4 := ⟨_, rfl⟩
      have hz4 : t4.size = 4 := by rw [← ht4]; rfl
      rw [ht4] at hcv4
      have l5 : u4.size + t4.size ≤ 9223372036854775807 := by omega
      obtain ⟨u5, hu5, s5⟩ : ∃ c : ByteArray, u4 ++ t4 = c ∧ c.size ≤ s.size + 5 := ⟨_, rfl, by rw [ByteArray.size_append]; omega⟩
      have HB2 : Hid (Below w.heap.size w (W.alloc (.cells #[.int .u8 ((n : Int) % 256), .int .u8 ((n : Int) / 256 % 256), .int .u8 ((n : Int) / 65536 % 256), .int .u8 ((n : Int) / 16777216)] 5))) := HB1.out.alloc HB1.out.size _
      clear ht4 hz4
      go_wp2_with fail
      refine (HCR.out _).mono ?_
      rintro e wp ⟨rfl, rfl⟩
      go_wp2_with fail
      go_meet
      exact ⟨u5, rfl, by omega, HB2.out⟩
  case rest =>
    obtain ⟨u, rfl, hu, hb⟩ := hcut
    have HB := Lib.hid hb
    clear hb
    go_wp2_with (first | (go_at_call 15; refine (Awk.awake_any _).mono ?_; rintro e w' ⟨rfl, rfl⟩) | fail)
    refine (decodes_any u _ hu).mono ?_
    rintro e w9 ⟨rfl, hb9⟩
    have HB9 := Lib.hid (HB.out.trans (hb9.mono HB.out.size))
    go_wp2_with fail
    go_ret
    exact ⟨by simp, HB9.out⟩
end Go.Proofs.Ytepbdcnjhbaehaa.Mut
