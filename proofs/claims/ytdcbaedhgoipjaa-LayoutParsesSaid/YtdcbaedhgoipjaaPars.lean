/-
  The walks of the statements that compare the program's reading of a text with the document's.
-/
import Derived.Test.YtdcbaedhgoipjaaRPar
import Derived.Test.YtdcbaedhgoipjaaEqs
import Derived.Test.YtdcbaedhgoipjaaLawF
import Derived.Laws.Concat
namespace Go.Proofs.Ytdcbaedhgoipjaa.Pars
open Go.ChangeShapes Go.WideShapes Go.ChangeAt Go.RowKit Wd Small Mem Lay LayT Recs Keep Names PNames PSecs PEnds RNames Eqs Awake PPar RPar LawF
set_option linter.unusedVariables false

set_option maxRecDepth 100000 in
set_option maxHeartbeats 4000000 in
theorem parses_any (s : ByteArray) (m : Int) (w : World) (hs : s.size ≤ 9223372036854775807) (hm : w.cell? ⟨0, 0, none⟩ = some (.int .i64 m)) : Calls Try.prog 21 #[.string s] w (Yes w) := by
  have HP := Lib.hid (p_parse s m w hs hm)
  have HR := Lib.hid (fun wx => r_parse s wx hs)
  generalize parse (bs s) = R at *
  obtain ⟨l, num, er⟩ := R
  clear hm
  go_enter Try.func21, Try.ntmps21
  go_wp2_with fail
  refine HP.out.mono ?_
  rintro e w1 ⟨v, rfl, hR1, hb1⟩
  obtain ⟨W1, hW1, HZ1, HB1, HBX1⟩ := boxed v w1
  have HR1 := Lib.hid (hR1.grow HB1 HB1.size)
  have HW1 := Lib.hid (hb1.trans (HB1.mono hb1.size))
  have HC1 := Lib.hid HBX1
  have hg1 : w1.heap.size < W1.heap.size := by rw [HZ1.out]; omega
  have hz1 := HW1.out.size
  clear hR1 hb1 HB1 HBX1
  obtain ⟨A1, n1, c1, A2, n2, c2, A3, n3, c3, A4, n4, c4⟩ := v
  simp only [LV.val] at *
  go_upto_region 2 with fail
  try rw [hW1]
  clear hW1
  go_wp2_with fail
  refine (HR.out W1).mono ?_
  rintro e w2 ⟨v2, rfl, hR2, hb2⟩
  have hz2 := hb2.size
  obtain ⟨W2, hW2, HZ2, HB2, HBX2⟩ := boxed v2 w2
  have hbb := hb2.trans (HB2.mono hz2)
  have HRA := Lib.hid (HR1.out.grow hbb hbb.size)
  have HRB := Lib.hid (hR2.grow HB2 HB2.size)
  have HW2 := Lib.hid (HW1.out.trans (hbb.mono hz1))
  have HCA := Lib.hid (box_kept (v := ⟨A1, n1, c1, A2, n2, c2, A3, n3, c3, A4, n4, c4⟩) hbb hg1 HC1.out)
  have HCB := Lib.hid HBX2
  have hSame := same_layout ⟨A1, n1, c1, A2, n2, c2, A3, n3, c3, A4, n4, c4⟩ v2 l W2 HRA.out HRB.out
  obtain ⟨B1, k1, d1, B2, k2, d2, B3, k3, d3, B4, k4, d4⟩ := v2
  simp only [LV.val] at *
  have HSame := Lib.hid hSame
  clear hR2 hb2 HB2 HBX2 hbb hSame
  go_upto_region 3 with fail
  try rw [hW2]
  clear hW2
  obtain ⟨a0, a1, a2, a3⟩ := HCA.out
  obtain ⟨b0, b1, b2, b3⟩ := HCB.out
  go_wp2_with fail
  refine HSame.out.mono ?_
  rintro e w3 ⟨rfl, hb3⟩
  have HW3 := Lib.hid (HW2.out.trans (hb3.mono HW2.out.size))
  clear hb3 a0 a1 a2 a3 b0 b1 b2 b3
  go_wp2_with fail
  go_ret
  exact ⟨rfl, HW3.out⟩

def table : Array Value := #[.string ⟨#[115, 116, 97, 116, 105, 111, 110]⟩, .string ⟨#[112, 111, 105, 110, 116]⟩, .string ⟨#[115, 101, 99, 116, 105, 111, 110]⟩, .string ⟨#[108, 105, 110, 107]⟩, .string ⟨#[97, 116]⟩, .string ⟨#[65]⟩, .string ⟨#[66]⟩, .string ⟨#[88]⟩, .string ⟨#[89]⟩, .string ⟨#[87]⟩, .string ⟨#[83, 48]⟩, .string ⟨#[48]⟩, .string ⟨#[49]⟩, .string ⟨#[50, 48]⟩, .string ⟨#[57, 48, 48, 48]⟩, .string ⟨#[45, 51]⟩, .string ⟨#[10]⟩, .string ⟨#[10]⟩, .string ⟨#[10]⟩, .string ⟨#[35]⟩]
theorem table_at (i : Nat) (h : i < 20) : ∃ t : ByteArray, table[i]? = some (.string t) ∧ t.size ≤ 7 := by
  match i, h with
  | 0, _ => exact ⟨_, rfl, by decide⟩
  | 1, _ => exact ⟨_, rfl, by decide⟩
  | 2, _ => exact ⟨_, rfl, by decide⟩
  | 3, _ => exact ⟨_, rfl, by decide⟩
  | 4, _ => exact ⟨_, rfl, by decide⟩
  | 5, _ => exact ⟨_, rfl, by decide⟩
  | 6, _ => exact ⟨_, rfl, by decide⟩
  | 7, _ => exact ⟨_, rfl, by decide⟩
  | 8, _ => exact ⟨_, rfl, by decide⟩
  | 9, _ => exact ⟨_, rfl, by decide⟩
  | 10, _ => exact ⟨_, rfl, by decide⟩
  | 11, _ => exact ⟨_, rfl, by decide⟩
  | 12, _ => exact ⟨_, rfl, by decide⟩
  | 13, _ => exact ⟨_, rfl, by decide⟩
  | 14, _ => exact ⟨_, rfl, by decide⟩
  | 15, _ => exact ⟨_, rfl, by decide⟩
  | 16, _ => exact ⟨_, rfl, by decide⟩
  | 17, _ => exact ⟨_, rfl, by decide⟩
  | 18, _ => exact ⟨_, rfl, by decide⟩
  | 19, _ => exact ⟨_, rfl, by decide⟩
  | i + 20, h => exact absurd h (by omega)
theorem byts_below {w w' : World} {A : Option Addr} {n : Nat} (h : Byts w A n) (hb : Below w.heap.size w w') : Byts w' A n := fun j hj => by
  obtain ⟨ad, b, e, hlt, hc⟩ := h j hj
  exact ⟨ad, b, e, Nat.lt_of_lt_of_le hlt hb.size, (hb.cell (by rw [Mem.block_add]; exact hlt)).trans hc⟩

set_option maxRecDepth 100000 in
set_option maxHeartbeats 8000000 in
theorem both (s0 : ByteArray) (z0 : s0.size ≤ 9223372036854775807) (A : Option Addr) (n c : Nat) (hn : n ≤ c) (hc : c ≤ 9223372036854775807) (w : World) (hB : Byts w A n) (m : Int) (hm : w.cell? ⟨0, 0, none⟩ = some (.int .i64 m)) : Calls Try.prog 7 #[.string s0, .slice A n c] w (Yes w) := by
  go_enter Try.func7, Try.ntmps7
  go_wp2_with fail
  obtain ⟨W0, hW0⟩ : ∃ W0, w.alloc (.cells table 9) = W0 := ⟨_, rfl⟩
  have hT : ∀ i, i < 20 → ∃ t : ByteArray, W0.cell? ⟨w.heap.size, i, none⟩ = some (.string t) ∧ t.size ≤ 7 := by
    intro i hi
    obtain ⟨t, h1, h2⟩ := table_at i hi
    refine ⟨t, ?_, h2⟩
    rw [← hW0]
    exact (cell_of_row _ w.heap.size i table 9 (0, 0) (heap_alloc_new w _)).trans h1
  have hbw : Below w.heap.size w W0 := by rw [← hW0]; exact (Below.refl _ _).alloc (Nat.le_refl _) _
  have hB2 := byts_below hB hbw
  have hmW := keep_cell hbw hm
  rw [table] at hW0
  rw [hW0]
  clear hB hm hW0
  go_loopw [6, 7] (fun x i wr => ∃ (k : Nat) (t : ByteArray), k ≤ n ∧ k ≤ 80 ∧ i = .int .i64 k ∧ x = .string t ∧ t.size ≤ k * 8 ∧ W0 = wr) (fun _ i _ => n - (intOf i).toNat)
  case atStart => exact ⟨0, _, by omega, by omega, rfl, rfl, by decide, rfl⟩
  case round =>
    obtain ⟨k, t, hk, hk2, rfl, rfl, ht, rfl⟩ := hrel
    by_cases hlt : k < n
    · by_cases h80 : k < 80
      · obtain ⟨ad, b, rfl, hb1, hb2⟩ := hB2 k hlt
        have hb256 := b.toNat_lt
        obtain ⟨u, hu, hus⟩ := hT (b.toNat % 20) (by omega)
        have hmod : ((b.toNat : Int)).tmod 20 = ((b.toNat % 20 : Nat) : Int) := by rw [Int.tmod_eq_emod_of_nonneg (by omega)]; rfl
        have hm2 : b.toNat % 20 < 20 := by omega
        generalize b.toNat % 20 = q at *
        have hus1 : (u ++ ⟨#[32]⟩ : ByteArray).size ≤ 8 := by rw [ByteArray.size_append]; show u.size + 1 ≤ 8; omega
        have hcat0 : u.size + (⟨#[32]⟩ : ByteArray).size ≤ 9223372036854775807 := by show u.size + 1 ≤ _; omega
        have hcat : t.size + (u ++ ⟨#[32]⟩ : ByteArray).size ≤ 9223372036854775807 := by omega
        have hcs : (t ++ (u ++ ⟨#[32]⟩) : ByteArray).size ≤ (k + 1) * 8 := by rw [ByteArray.size_append]; omega
        clear hT hB2 hmW hbw
        go_wp2_with fail
        go_roundw
        case rel => exact ⟨k + 1, t ++ (u ++ ⟨#[32]⟩), by omega, by omega, by go_num, rfl, hcs, by trivial⟩
        case measure => simp [intOf]; omega
      · clear hT hB2
        have hcell := Lib.hid hmW
        clear hmW
        go_wp2_with fail
        refine (awake_any _).mono ?_
        rintro e wa ⟨rfl, hba⟩
        have HB1 := Lib.hid (hbw.trans (hba.mono hbw.size))
        have hm1 := Lib.hid (keep_cell hba hcell.out)
        clear hba
        go_wp2_with fail
        refine (parses_any s0 m wa z0 hm1.out).mono ?_
        rintro e wb ⟨rfl, hbb⟩
        have HB2 := Lib.hid (HB1.out.trans (hbb.mono HB1.out.size))
        have hm2 := Lib.hid (keep_cell hbb hm1.out)
        clear hbb
        go_wp2_with fail
        refine (parses_any t m wb (by omega) hm2.out).mono ?_
        rintro e wd ⟨rfl, hbd⟩
        have HB3 := Lib.hid (HB2.out.trans (hbd.mono HB2.out.size))
        clear hbd
        go_wp2_with fail
        go_ret
        exact ⟨rfl, HB3.out⟩
    · clear hT hB2
      have hcell := Lib.hid hmW
      clear hmW
      go_wp2_with fail
      refine (awake_any _).mono ?_
      rintro e wa ⟨rfl, hba⟩
      have HB1 := Lib.hid (hbw.trans (hba.mono hbw.size))
      have hm1 := Lib.hid (keep_cell hba hcell.out)
      clear hba
      go_wp2_with fail
      refine (parses_any s0 m wa z0 hm1.out).mono ?_
      rintro e wb ⟨rfl, hbb⟩
      have HB2 := Lib.hid (HB1.out.trans (hbb.mono HB1.out.size))
      have hm2 := Lib.hid (keep_cell hbb hm1.out)
      clear hbb
      go_wp2_with fail
      refine (parses_any t m wb (by omega) hm2.out).mono ?_
      rintro e wd ⟨rfl, hbd⟩
      have HB3 := Lib.hid (HB2.out.trans (hbd.mono HB2.out.size))
      clear hbd
      go_wp2_with fail
      go_ret
      exact ⟨rfl, HB3.out⟩
end Go.Proofs.Ytdcbaedhgoipjaa.Pars
