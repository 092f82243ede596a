/-
  The walk of the statement that a change of one byte changes the sum.
-/
import Derived.Test.YtepbdcnjhbaehaaCrcA
import Derived.Test.YtepbdcnjhbaehaaSrc
import Derived.Laws.IdiomStrings
import Derived.BigRegion
namespace Go.Proofs.Ytepbdcnjhbaehaa.Chg
open Go.ChangeShapes Go.WideShapes Go.ChangeAt Go.RowKit Wd Crc CrcP Awk Src Dec
set_option linter.unusedVariables false

theorem extract_le (t : ByteArray) (i j : Nat) : (t.extract i j).size ≤ t.size := by
  rw [ByteArray.size_extract]; omega
/-- a text around its byte q -/
theorem around (s : ByteArray) (q : Nat) (h : q < s.size) (b : UInt8) :
    bs (s.extract 0 q ++ ⟨#[b]⟩ ++ s.extract (q + 1) s.size) = (bs s).take q ++ b :: (bs s).drop (q + 1) := by
  rw [bs_append, bs_append, bs_extract, bs_extract]
  rw [List.drop_zero, Nat.sub_zero, List.take_of_length_le (l := (bs s).drop (q + 1)) (by rw [List.length_drop, bs_length]; omega)]
  rw [List.append_assoc]; rfl
theorem back (s : ByteArray) (q : Nat) (h : q < s.size) : bs s = (bs s).take q ++ s[q] :: (bs s).drop (q + 1) := by
  rw [← bs_drop s q h, List.take_append_drop]
theorem changed (s : ByteArray) (q : Nat) (h : q < s.size) (b : UInt8) :
    (((crc (bs s) : Nat) : Int) == ((crc (bs (s.extract 0 q ++ ⟨#[b]⟩ ++ s.extract (q + 1) s.size)) : Nat) : Int)) = (((s[q].toNat : Nat) : Int) == (b.toNat : Int)) := by
  rw [around s q h b]
  have e := back s q h
  rw [Bool.eq_iff_iff, beq_iff_eq, beq_iff_eq]
  constructor
  · intro hc
    have hc : crc (bs s) = crc ((bs s).take q ++ b :: (bs s).drop (q + 1)) := by omega
    rw [e] at hc
    have l1 : ((bs s).take q ++ s[q] :: (bs s).drop (q + 1)).take q = (bs s).take q := by rw [← e]
    have l2 : ((bs s).take q ++ s[q] :: (bs s).drop (q + 1)).drop (q + 1) = (bs s).drop (q + 1) := by rw [← e]
    rw [l1, l2] at hc
    rw [crc_change _ _ _ _ hc]
  · intro hb
    have hb : s[q] = b := UInt8.toNat_inj.1 (by omega)
    rw [← hb, ← e]

set_option maxRecDepth 100000 in
set_option maxHeartbeats 4000000 in
theorem change (s : ByteArray) (zs : s.size ≤ 9223372036854775807) (a1 : Int) (w1 : (Lit.int .i64 a1).wf = true) (a2 : Int) (w2 : (Lit.int .u8 a2).wf = true) (w : World) :
    Calls Try.prog 5 #[.string s, .int .i64 a1, .int .u8 a2] w fun e w' => e = .returned (.bool true) ∧ Below w.heap.size w w' := by
  obtain ⟨b11, b12⟩ := bounds_i64 w1
  obtain ⟨b21, b22⟩ : 0 ≤ a2 ∧ a2 ≤ 255 := by simpa [Lit.wf, IntKind.min, IntKind.max, IntKind.signed, IntKind.bits] using w2
  clear w1 w2
  by_cases h0 : s.size = 0
  · have h0' : ((s.size : Int) == 0) = true := by simp [h0]
    clear h0
    go_enter Try.func5, Try.ntmps5
    go_wp2_with (go_at_call 15; refine (awake_any _).mono ?_; rintro e w' ⟨rfl, rfl⟩)
    go_ret
    exact ⟨rfl, Below.refl _ _⟩
  · have h0' : ((s.size : Int) == 0) = false := by simp [h0]
    obtain ⟨b, hb⟩ : ∃ b : UInt8, a2 = (b.toNat : Int) := ⟨UInt8.ofNat a2.toNat, by rw [UInt8.toNat_ofNat']; omega⟩
    subst hb
    obtain ⟨p0, p1⟩ := pick_range a1 (s.size : Nat) (by omega)
    obtain ⟨q, hq⟩ : ∃ q : Nat, pick a1 (s.size : Nat) = q := ⟨(pick a1 (s.size : Nat)).toNat, by omega⟩
    have hp := fun wx => pick_any a1 (s.size : Nat) wx b11 b12 (by omega) (by omega)
    rw [hq] at p0 p1 hp
    have HP := Lib.hid hp
    have hqs : q < s.size := by omega
    have HC := Lib.hid (changed s q hqs b)
    clear hp hq h0
    go_enter Try.func5, Try.ntmps5
    go_upto_region 3 with fail
    go_wp2_with fail
    refine (HP.out w).mono ?_
    rintro e wx ⟨rfl, rfl⟩
    have hcv : ∀ wx : World, (convert 36 9 (.slice (some ⟨wx.heap.size, 0, none⟩) 1 1)).run Try.prog (wx.alloc (.cells #[.int .u8 (b.toNat : Int)] 5)).drew = .ok (.string ⟨#[b]⟩) (wx.alloc (.cells #[.int .u8 (b.toNat : Int)] 5)).drew := fun wx =>
      run_convert_bytes_back (P := Try.prog) _ 36 9 5 ⟨wx.heap.size, 0, none⟩ 1 [b] Try.underlying36 Try.underlying5 Try.underlying9 (fun j hj => by
        obtain rfl : j = 0 := by simpa using hj
        simp [Addr.add])
    obtain ⟨u1, hu1, s1⟩ : ∃ u : ByteArray, s.extract 0 q = u ∧ u.size ≤ q := ⟨_, rfl, by rw [ByteArray.size_extract]; omega⟩
    obtain ⟨u2, hu2, s2⟩ : ∃ u : ByteArray, s.extract (q + 1) s.size = u ∧ u.size ≤ s.size - (q + 1) := ⟨_, rfl, by rw [ByteArray.size_extract]; omega⟩
    have l1 : u1.size + (⟨#[b]⟩ : ByteArray).size ≤ 9223372036854775807 := by have : (⟨#[b]⟩ : ByteArray).size = 1 := rfl; omega
    obtain ⟨u3, hu3, s3⟩ : ∃ c : ByteArray, u1 ++ ⟨#[b]⟩ = c ∧ c.size ≤ q + 1 := ⟨_, rfl, by rw [ByteArray.size_append]; have : (⟨#[b]⟩ : ByteArray).size = 1 := rfl; omega⟩
    have l2 : u3.size + u2.size ≤ 9223372036854775807 := by omega
    obtain ⟨u4, hu4, s4⟩ : ∃ c : ByteArray, u3 ++ u2 = c ∧ c.size ≤ 9223372036854775807 := ⟨_, rfl, by rw [ByteArray.size_append]; omega⟩
    have HC4 : Hid ((((crc (bs s) : Nat) : Int) == ((crc (bs u4) : Nat) : Int)) = (((s[q].toNat : Nat) : Int) == (b.toNat : Int))) := by rw [Hid, ← hu4, ← hu3, ← hu2, ← hu1]; exact HC.out
    have c0' : (0 : Int) ≤ q := by omega
    have c1' : (q : Int) ≤ (s.size : Int) := by omega
    have c2' : (0 : Int) ≤ (q : Int) + 1 := by omega
    have c3' : (q : Int) + 1 ≤ (s.size : Int) := by omega
    have hwq : IntKind.i64.wrap ((q : Int) + 1) = (q : Int) + 1 := IntWalk.i64_in _ (by omega)
    have htq : ((q : Int) + 1).toNat = q + 1 := by omega
    go_upto_region 4 with fail
    go_region
    go_wp2_with fail
    clear hcv hwq htq
    have HB : Hid (Below w.heap.size w (w.alloc (.cells #[.int .u8 (b.toNat : Int)] 5)).drew) := ((Below.refl _ _).alloc (Nat.le_refl _) _).drew
    generalize (w.alloc (.cells #[.int .u8 (b.toNat : Int)] 5)).drew = W at *
    go_quiet ((first | (go_at_call 15; exact Awk.quiet (awake_any _)) | (go_at_call 14; refine Awk.quiet (sum_any _ _ ?_); assumption)))
    go_wp2_with fail
    go_ret
    exact ⟨by rw [HC4.out]; simp, Mem.below_draws HB.out _⟩
end Go.Proofs.Ytepbdcnjhbaehaa.Chg
