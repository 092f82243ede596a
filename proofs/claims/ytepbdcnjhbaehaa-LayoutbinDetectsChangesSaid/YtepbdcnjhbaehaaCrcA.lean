/-
  Plain mathematics of the CRC-32: each step can be undone, so a change of one byte changes the sum. No program in it.
  Contracts of the program's Sum and of the document's Crc: both answer the sum of the text's bytes, and leave the world alone.
  Contract of the statements' check that the sum is awake, and what it takes to walk it.
-/
import Derived.Test.YtepbdcnjhbaehaaText
import Derived.Laws.BitsLemmas
import Derived.Test.YtepbdcnjhbaehaaRows
import Derived.Test.YtepbdcnjhbaehaaSmall
import Derived.Deep.QuietTactic
import Derived.BigQuiet
namespace Go.Proofs.Ytepbdcnjhbaehaa.Crc
open Wd

/-- one bit is taken into the sum -/
def shiftN (v : Nat) : Nat := if v % 2 = 1 then (v / 2) ^^^ 3988292384 else v / 2
def shifts : Nat → Nat → Nat
  | 0, v => v
  | k + 1, v => shiftN (shifts k v)
def feed (v : Nat) (b : UInt8) : Nat := shifts 8 (v ^^^ b.toNat)
def state (s : Bs) : Nat := s.foldl feed 4294967295
def crc (s : Bs) : Nat := state s ^^^ 4294967295

theorem shift_lt {v : Nat} (h : v < 4294967296) : shiftN v < 4294967296 := by
  unfold shiftN
  split
  · exact Nat.xor_lt_two_pow (n := 32) (by omega) (by decide)
  · omega
theorem shifts_lt {v : Nat} (h : v < 4294967296) : ∀ k, shifts k v < 4294967296
  | 0 => h
  | k + 1 => shift_lt (shifts_lt h k)
theorem mix_lt {v : Nat} (h : v < 4294967296) (b : UInt8) : v ^^^ b.toNat < 4294967296 :=
  Nat.xor_lt_two_pow (n := 32) h (by have := b.toNat_lt; omega)
theorem feed_lt {v : Nat} (h : v < 4294967296) (b : UInt8) : feed v b < 4294967296 := shifts_lt (mix_lt h b) 8
theorem fold_lt : ∀ (s : Bs) {v : Nat}, v < 4294967296 → s.foldl feed v < 4294967296
  | [], _, h => h
  | b :: r, _, h => fold_lt r (feed_lt h b)
theorem state_lt (s : Bs) : state s < 4294967296 := fold_lt s (by decide)
theorem crc_lt (s : Bs) : crc s < 4294967296 := Nat.xor_lt_two_pow (n := 32) (state_lt s) (by decide)

theorem top_bit {v : Nat} (h : v < 4294967296) : (shiftN v).testBit 31 = decide (v % 2 = 1) := by
  unfold shiftN
  have hz : (v / 2).testBit 31 = false := Nat.testBit_lt_two_pow (by omega)
  split
  · rename_i h1
    rw [Nat.testBit_xor, hz, h1]
    decide
  · rename_i h1
    rw [hz, decide_eq_false h1]
theorem xor_cancel {a b c : Nat} (h : a ^^^ c = b ^^^ c) : a = b := by
  have := congrArg (· ^^^ c) h
  simpa only [Nat.xor_assoc, Nat.xor_self, Nat.xor_zero] using this
theorem shift_inj {a b : Nat} (ha : a < 4294967296) (hb : b < 4294967296) (h : shiftN a = shiftN b) : a = b := by
  have h1 := top_bit ha
  rw [h, top_bit hb] at h1
  have h2 : (b % 2 = 1) ↔ (a % 2 = 1) := by simpa using h1
  unfold shiftN at h
  by_cases hp : a % 2 = 1
  · rw [if_pos hp, if_pos (h2.2 hp)] at h
    have := xor_cancel h
    have := h2.2 hp
    omega
  · rw [if_neg hp, if_neg (fun x => hp (h2.1 x))] at h
    have : ¬ b % 2 = 1 := fun x => hp (h2.1 x)
    omega
theorem shifts_inj {a b : Nat} (ha : a < 4294967296) (hb : b < 4294967296) : ∀ k, shifts k a = shifts k b → a = b
  | 0, h => h
  | k + 1, h => shifts_inj ha hb k (shift_inj (shifts_lt ha k) (shifts_lt hb k) h)
theorem feed_inj {a b : Nat} (ha : a < 4294967296) (hb : b < 4294967296) (c : UInt8) (h : feed a c = feed b c) : a = b :=
  xor_cancel (shifts_inj (mix_lt ha c) (mix_lt hb c) 8 h)
theorem feed_byte {a : Nat} (ha : a < 4294967296) (c d : UInt8) (h : feed a c = feed a d) : c = d := by
  have := shifts_inj (mix_lt ha c) (mix_lt ha d) 8 h
  rw [Nat.xor_comm a, Nat.xor_comm a] at this
  exact UInt8.toNat_inj.1 (xor_cancel this)
theorem fold_inj : ∀ (s : Bs) {a b : Nat}, a < 4294967296 → b < 4294967296 → s.foldl feed a = s.foldl feed b → a = b
  | [], _, _, _, _, h => h
  | c :: r, _, _, ha, hb, h => feed_inj ha hb c (fold_inj r (feed_lt ha c) (feed_lt hb c) h)
/-- a change of one byte changes the sum -/
theorem crc_change (p q : Bs) (c d : UInt8) (h : crc (p ++ c :: q) = crc (p ++ d :: q)) : c = d := by
  have h1 : state (p ++ c :: q) = state (p ++ d :: q) := xor_cancel h
  unfold state at h1
  rw [List.foldl_append, List.foldl_append, List.foldl_cons, List.foldl_cons] at h1
  have hp := fold_lt p (v := 4294967295) (by decide)
  exact feed_byte hp c d (fold_inj q (feed_lt hp c) (feed_lt hp d) h1)

/-! ### in the spelling of the walks -/

theorem wraps_u32 (n : Int) (h₀ : 0 ≤ n) (h₁ : n < 2 ^ 32) : IntKind.u32.wrap n = n := by rw [IntKind.wrap_u32]; omega
theorem bits_xor (a b : Nat) (ha : a < 4294967296) (hb : b < 4294967296) : bits .xor .u32 a b = ((a ^^^ b : Nat) : Int) := by
  have ha' : a % 2 ^ IntKind.u32.bits = a := Nat.mod_eq_of_lt ha
  have hb' : b % 2 ^ IntKind.u32.bits = b := Nat.mod_eq_of_lt hb
  simp only [bits, BitVec.ofInt_natCast, BitVec.toNat_xor, BitVec.toNat_ofNat, ha', hb']
  exact wraps_u32 _ (Int.natCast_nonneg _) (by have := Nat.xor_lt_two_pow (n := 32) ha hb; omega)
theorem bits_low (a : Nat) (ha : a < 4294967296) : bits .and .u32 a 1 = ((a % 2 : Nat) : Int) := by
  have := bits_mask .u32 32 (Nat.le_refl _) (fun n h1 h2 => wraps_u32 n h1 h2) 1 (by decide) a (by omega) (by omega)
  simpa using this

end Go.Proofs.Ytepbdcnjhbaehaa.Crc

namespace Go.Proofs.Ytepbdcnjhbaehaa.CrcP
open Go.ChangeShapes Go.WideShapes Go.ChangeAt Go.RowKit Wd Crc
set_option linter.unusedVariables false

theorem ret_u32 {a b : Int} (h : a = b) : Ending.returned (.int .u32 a) = .returned (.int .u32 b) := by rw [h]
theorem val_u32 {a b : Int} (h : a = b) : Value.int .u32 a = .int .u32 b := by rw [h]
theorem half (v : Nat) : ((v : Int) / 2) = ((v / 2 : Nat) : Int) := by omega
theorem low_yes {v : Nat} (hv : v < 4294967296) (h : v % 2 = 1) : (bits .and .u32 v 1 == 1) = true := by rw [bits_low v hv, h]; decide
theorem low_no {v : Nat} (hv : v < 4294967296) (h : ¬ v % 2 = 1) : (bits .and .u32 v 1 == 1) = false := by
  rw [bits_low v hv]
  have : v % 2 = 0 := by omega
  rw [this]; decide
theorem shift_yes {v : Nat} (hv : v < 4294967296) (h : v % 2 = 1) : bits .xor .u32 ((v : Int) / 2) 3988292384 = (shiftN v : Nat) := by
  rw [half]
  have := bits_xor (v / 2) 3988292384 (by omega) (by decide)
  unfold shiftN
  rw [if_pos h, ← this]
  rfl
theorem shift_no {v : Nat} (h : ¬ v % 2 = 1) : (v : Int) / 2 = (shiftN v : Nat) := by
  rw [half]; unfold shiftN; rw [if_neg h]
theorem mix_u32 {v : Nat} (hv : v < 4294967296) (b : UInt8) : bits .xor .u32 (v : Int) ((b.toNat : Int) % 4294967296) = ((v ^^^ b.toNat : Nat) : Int) := by
  have hb := b.toNat_lt
  rw [show (b.toNat : Int) % 4294967296 = (b.toNat : Int) by omega]
  exact bits_xor v b.toNat hv (by omega)
theorem not_u32 {v : Nat} (hv : v < 4294967296) : bits .xor .u32 (IntKind.u32.max) (v : Int) = ((v ^^^ 4294967295 : Nat) : Int) := by
  rw [Nat.xor_comm]
  exact bits_xor 4294967295 v (by decide) hv

theorem shift_any (v : Nat) (w : World) (hv : v < 4294967296) : Calls Try.prog 34 #[.int .u32 v] w fun e w' => e = .returned (.int .u32 (shiftN v : Nat)) ∧ w = w' := by
  by_cases h : v % 2 = 1
  · have h1 := low_yes hv h
    have HX := Lib.hid (shift_yes hv h)
    clear h
    go_enter Try.func34, Try.ntmps34
    go_wp2
    go_ret
    exact ⟨ret_u32 HX.out, rfl⟩
  · have h1 := low_no hv h
    have HX := Lib.hid (shift_no h)
    clear h
    go_enter Try.func34, Try.ntmps34
    go_wp2
    go_ret
    exact ⟨ret_u32 HX.out, rfl⟩

theorem state_snoc (s : Bs) (b : UInt8) : state (s ++ [b]) = feed (state s) b := by simp [state]

set_option maxHeartbeats 1000000 in
theorem sum_any (s : ByteArray) (w : World) (hs : s.size ≤ 9223372036854775807) : Calls Try.prog 14 #[.string s] w fun e w' => e = .returned (.int .u32 (crc (bs s) : Nat)) ∧ w = w' := by
  go_enter Try.func14, Try.ntmps14
  go_wp2
  go_loop [3, 7] (fun v i => ∃ k : Nat, k ≤ s.size ∧ i = .int .i64 k ∧ v = .int .u32 (state ((bs s).take k) : Nat)) (fun _ i => s.size - (intOf i).toNat)
  case atStart => exact ⟨0, Nat.zero_le _, rfl, rfl⟩
  case round =>
    obtain ⟨k, hk, rfl, rfl⟩ := hrel
    have hst := state_lt ((bs s).take k)
    by_cases hlt : k < s.size
    · have HN : Hid (shifts 8 (state ((bs s).take k) ^^^ s[k].toNat) = state ((bs s).take (k + 1))) := by rw [bs_take s k hlt, state_snoc]; rfl
      have HM := Lib.hid (mix_u32 hst s[k])
      have hml := mix_lt hst s[k]
      obtain ⟨m, hm⟩ : ∃ m, state ((bs s).take k) ^^^ s[k].toNat = m := ⟨_, rfl⟩
      rw [hm] at HN HM hml
      have HMM := Lib.hid hm
      clear hm
      go_wp2
      go_loop [3, 16] (fun v j => ∃ n : Nat, n ≤ 8 ∧ j = .int .i64 n ∧ v = .int .u32 (shifts n m : Nat)) (fun _ j => 8 - (intOf j).toNat)
      case atStart => exact ⟨0, Nat.zero_le _, rfl, val_u32 HM.out⟩
      case round =>
        obtain ⟨n, hn, rfl, rfl⟩ := hrel
        have hv := shifts_lt hml n
        by_cases h8 : n < 8
        · have h8' : (n : Int) < 8 := by omega
          go_wp2_with (go_at_call 34; refine (shift_any _ _ hv).mono ?_; rintro e w' ⟨rfl, rfl⟩)
          go_round
          case rel => exact ⟨n + 1, by omega, by go_num, rfl⟩
          case measure => simp [intOf]; omega
        · have : n = 8 := by omega
          subst this
          go_wp2
          go_round
          case rel => exact ⟨k + 1, by omega, by go_num, val_u32 (by rw [← HN.out])⟩
          case measure => simp [intOf]; omega
    · have HX : Hid ((bs s).take k = bs s) := List.take_of_length_le (by rw [bs_length]; omega)
      have HU := Lib.hid (not_u32 hst)
      go_wp2
      go_ret
      exact ⟨ret_u32 (by rw [HU.out, HX.out]; rfl), rfl⟩

set_option maxHeartbeats 1000000 in
theorem r_crc (s : ByteArray) (w : World) (hs : s.size ≤ 9223372036854775807) : Calls Try.prog 16 #[.string s] w fun e w' => e = .returned (.int .u32 (crc (bs s) : Nat)) ∧ w = w' := by
  go_enter Try.func16, Try.ntmps16
  go_wp2
  go_loop [3, 4] (fun v i => ∃ k : Nat, k ≤ s.size ∧ i = .int .i64 k ∧ v = .int .u32 (state ((bs s).take k) : Nat)) (fun _ i => s.size - (intOf i).toNat)
  case atStart => exact ⟨0, Nat.zero_le _, rfl, rfl⟩
  case round =>
    obtain ⟨k, hk, rfl, rfl⟩ := hrel
    have hst := state_lt ((bs s).take k)
    by_cases hlt : k < s.size
    · have HN : Hid (shifts 8 (state ((bs s).take k) ^^^ s[k].toNat) = state ((bs s).take (k + 1))) := by rw [bs_take s k hlt, state_snoc]; rfl
      have HM := Lib.hid (mix_u32 hst s[k])
      have hml := mix_lt hst s[k]
      obtain ⟨m, hm⟩ : ∃ m, state ((bs s).take k) ^^^ s[k].toNat = m := ⟨_, rfl⟩
      rw [hm] at HN HM hml
      have HMM := Lib.hid hm
      clear hm
      go_wp2
      go_loop [3, 5] (fun v j => ∃ n : Nat, n ≤ 8 ∧ j = .int .i64 n ∧ v = .int .u32 (shifts n m : Nat)) (fun _ j => 8 - (intOf j).toNat)
      case atStart => exact ⟨0, Nat.zero_le _, rfl, val_u32 HM.out⟩
      case round =>
        obtain ⟨n, hn, rfl, rfl⟩ := hrel
        have hv := shifts_lt hml n
        by_cases h8 : n < 8
        · have h8' : (n : Int) < 8 := by omega
          by_cases hp : shifts n m % 2 = 1
          · have hb := low_yes hv hp
            have HX := Lib.hid (shift_yes hv hp)
            clear hp
            go_wp2
            go_round
            case rel => exact ⟨n + 1, by omega, by go_num, val_u32 HX.out⟩
            case measure => simp [intOf]; omega
          · have hb := low_no hv hp
            have HX := Lib.hid (shift_no hp)
            clear hp
            go_wp2
            go_round
            case rel => exact ⟨n + 1, by omega, by go_num, val_u32 HX.out⟩
            case measure => simp [intOf]; omega
        · have : n = 8 := by omega
          subst this
          go_wp2
          go_round
          case rel => exact ⟨k + 1, by omega, by go_num, val_u32 (by rw [← HN.out])⟩
          case measure => simp [intOf]; omega
    · have HX : Hid ((bs s).take k = bs s) := List.take_of_length_le (by rw [bs_length]; omega)
      have HU := Lib.hid (not_u32 hst)
      go_wp2
      go_ret
      exact ⟨ret_u32 (by rw [HU.out, HX.out]; rfl), rfl⟩

end Go.Proofs.Ytepbdcnjhbaehaa.CrcP

namespace Go.Proofs.Ytepbdcnjhbaehaa.Awk
open Go.ChangeShapes Go.WideShapes Go.ChangeAt Go.RowKit Wd Crc CrcP
set_option linter.unusedVariables false

/-- a call that leaves the world alone, read the other way round -/
theorem flip {P : Program} {f : FuncId} {args : Array Value} {w : World} {v : Ending} (h : Calls P f args w fun e w' => e = v ∧ w = w') : Calls P f args w fun e w' => e = v ∧ w' = w := h.mono fun _ _ ⟨a, b⟩ => ⟨a, b.symm⟩
/-- the same behind draws -/
theorem quiet {P : Program} {f : FuncId} {args : Array Value} {w : World} {n : Nat} {v : Value} (h : Calls P f args (w.drewN n) fun e w' => e = .returned v ∧ w.drewN n = w') :
    Calls P f args (w.drewN n) fun e w' => e = .returned v ∧ ∃ m, w' = w.drewN m := h.mono fun _ _ ⟨he, hm⟩ => ⟨he, n, hm.symm⟩
theorem crc_a : crc [97] = 3904355907 := by decide +kernel

theorem awake_any (w : World) : Calls Try.prog 15 #[] w fun e w' => e = .returned (.bool true) ∧ w = w' := by
  have HS : Hid (∀ wx, Calls Try.prog 14 #[.string ⟨#[97]⟩] wx fun e w' => e = .returned (.int .u32 3904355907) ∧ wx = w') := fun wx => by
    have h := sum_any ⟨#[97]⟩ wx (by decide)
    rw [show crc (bs ⟨#[97]⟩) = 3904355907 from crc_a] at h
    exact h
  go_enter Try.func15, Try.ntmps15
  go_wp2_with (go_at_call 14; refine (HS.out _).mono ?_; rintro e w' ⟨rfl, rfl⟩)
  go_ret
  exact ⟨rfl, rfl⟩

theorem sums (s : ByteArray) (w : World) (hs : s.size ≤ 9223372036854775807) : Calls Try.prog 4 #[.string s] w fun e w' => e = .returned (.bool true) ∧ w = w' := by
  go_enter Try.func4, Try.ntmps4
  go_wp2_with (first | (go_at_call 15; refine (awake_any _).mono ?_; rintro e w' ⟨rfl, rfl⟩) | (go_at_call 14; refine (sum_any s _ hs).mono ?_; rintro e w' ⟨rfl, rfl⟩) | (go_at_call 16; refine (r_crc s _ hs).mono ?_; rintro e w' ⟨rfl, rfl⟩))
  go_ret
  exact ⟨by simp, rfl⟩
end Go.Proofs.Ytepbdcnjhbaehaa.Awk
