/-
  Contracts of what the statements of this seat call beside the program: the comparison of two answers, the short look that the program is awake, texts of pieces, the choice of a number.
-/
import Derived.Test.YthjdhcldocpfjaaSame
import Derived.Test.YthjdhcldocpfjaaPLines
import Derived.Test.YthjdhcldocpfjaaRLines
import Derived.Test.YthjdhcldocpfjaaNames
import Derived.Test.YthjdhcldocpfjaaNum
import Derived.Laws.Concat
namespace Go.Proofs.Ythjdhcldocpfjaa.Aids
open Go.ChangeShapes Go.WideShapes Go.ChangeAt Go.RowKit Wd Small Lin Mem Bytes Of PLines RLines Same Names Mag Num
set_option linter.unusedVariables false

/-- what a call leaves that answers yes -/
def Yes (w : World) (e : Ending) (w' : World) : Prop := e = .returned (.bool true) ∧ Below w.heap.size w w'

theorem keep_cell {w w' : World} {m : Int} (hb : Below w.heap.size w w') (hm : w.cell? ⟨0, 0, none⟩ = some (.int .i64 m)) : w'.cell? ⟨0, 0, none⟩ = some (.int .i64 m) :=
  (hb.cell (p := ⟨0, 0, none⟩) (World.block_lt_of_cell? w _ hm)).trans hm

set_option maxHeartbeats 1000000 in
theorem same_lines (s : ByteArray) (m : Int) (w : World) (hs : s.size ≤ 9223372036854775807) (hm : w.cell? ⟨0, 0, none⟩ = some (.int .i64 m)) : Calls Try.prog 25 #[.string s] w (Yes w) := by
  go_enter Try.func25, Try.ntmps25
  go_wp2_with fail
  refine (p_lines s m _ hs hm).mono ?_
  rintro e w1 ⟨A, n, c, rfl, hO, hb1⟩
  go_wp2_with fail
  refine (r_lines s _ hs).mono ?_
  rintro e w2 ⟨A2, n2, c2, rfl, hO2, hb2⟩
  have hO1 := hO.below hb2 (Nat.le_refl _)
  obtain ⟨_, _, ex, q1, q2⟩ := hO1.form
  cases ex
  obtain ⟨_, _, ex, q3, q4⟩ := hO2.form
  cases ex
  unfold maxLen at q2 q4
  have hz1 := hb1.size
  have hbw := hb1.trans (hb2.mono hz1)
  have hS := sames_any _ _ A n c (linesOf (bs s)).1 A2 n2 c2 (linesOf (bs s)).1 w2 hO1 (by omega) hO2 (by omega)
  have es : sames (linesOf (bs s)).1 (linesOf (bs s)).1 = true := by simp [sames]
  rw [es] at hS
  have HS := Lib.hid hS
  clear hS es hO hO1 hO2
  generalize (linesOf (bs s)).2.1 = x at *
  generalize (linesOf (bs s)).2.2 = y at *
  go_wp2_with fail
  refine HS.out.mono ?_
  rintro e w3 ⟨rfl, hb3⟩
  go_wp2_with fail
  go_ret
  exact ⟨rfl, hbw.trans (hb3.mono hbw.size)⟩

theorem awake_lines : linesOf [120, 32, 49] = ([[([120], 1, 1), ([49], 1, 3)]], 0, 0) := by decide
theorem awake_num : number [45, 49, 50] = -12 ∧ numOK [45, 49, 50] = true := by decide
theorem awake_name : isName [65, 95, 49] = true := by decide
theorem awake_any (m : Int) (w : World) (hm : w.cell? ⟨0, 0, none⟩ = some (.int .i64 m)) : Calls Try.prog 18 #[] w (Yes w) := by
  go_enter Try.func18, Try.ntmps18
  go_wp2_with fail
  refine (p_lines _ m _ (by decide) hm).mono ?_
  rintro e w1 ⟨A, n, c, rfl, hO, hb1⟩
  have hL : linesOf (bs ⟨#[120, 32, 49]⟩) = ([[([120], 1, 1), ([49], 1, 3)]], 0, 0) := awake_lines
  rw [hL] at hO ⊢
  clear hL
  simp only at hO
  have hn : n = 1 := by obtain ⟨us, h, _⟩ := hO; exact h.symm
  subst hn
  obtain ⟨ad, L, A1, c1, rfl, hab, hL, c0, r1, z1, z1'⟩ := hO.load (k := 0) (by omega)
  have hL2 : L.length = 2 := by simp at hL; rw [← hL]; rfl
  rw [hL2] at c0
  have hbw := hb1
  clear hO hL r1 z1 z1' hL2 hm
  have c0' : w1.cell? ad = some (.slice A1 2 c1) := by simpa [Addr.add] using c0
  clear c0
  go_wp2_with fail
  refine (p_num _ _ (by decide)).mono ?_
  rintro e w' ⟨rfl, rfl⟩
  rw [show number (bs ⟨#[45, 49, 50]⟩) = -12 from awake_num.1, show numOK (bs ⟨#[45, 49, 50]⟩) = true from awake_num.2]
  go_wp2_with fail
  refine (p_name _ _ (by decide)).mono ?_
  rintro e w' ⟨rfl, rfl⟩
  rw [show isName (bs ⟨#[65, 95, 49]⟩) = true from awake_name]
  go_wp2_with fail
  go_ret
  exact ⟨rfl, hbw⟩
/-- the slice of n elements at A reads as bytes -/
def Byts (w : World) (A : Option Addr) (n : Nat) : Prop := ∀ j, j < n → ∃ (ad : Addr) (b : UInt8), A = some ad ∧ ad.block < w.heap.size ∧ w.cell? (ad.add j) = some (.int .u8 b.toNat)
theorem Byts.below {w w' : World} {A : Option Addr} {n : Nat} (h : Byts w A n) (hb : Below w.heap.size w w') : Byts w' A n := fun j hj => by
  obtain ⟨ad, b, e, h1, h2⟩ := h j hj
  exact ⟨ad, b, e, Nat.lt_of_lt_of_le h1 hb.size, (hb.cell (by rw [Mem.block_add]; exact h1)).trans h2⟩

/-- a short text -/
def Piece (w : World) (e : Ending) (w' : World) : Prop := ∃ t : ByteArray, e = .returned (.string t) ∧ t.size ≤ 1040 ∧ Below w.heap.size w w'
def table : Array Value := #[.string ⟨#[97]⟩, .string ⟨#[98, 57]⟩, .string ⟨#[45]⟩, .string ⟨#[48]⟩, .string ⟨#[49, 50]⟩, .string ⟨#[32]⟩, .string ⟨#[9]⟩, .string ⟨#[10]⟩, .string ⟨#[35]⟩, .string ⟨#[46, 46]⟩, .string ⟨#[95]⟩,
  .string ⟨#[49, 48, 57, 57, 53, 49, 49, 54, 50, 55, 55, 55, 54]⟩, .string ⟨#[49, 48, 57, 57, 53, 49, 49, 54, 50, 55, 55, 55, 55]⟩, .string ⟨#[13]⟩, .string ⟨#[127]⟩, .string ⟨#[126]⟩, .string ⟨#[32, 32]⟩, .string ⟨#[195, 169]⟩, .string ⟨#[57, 46, 46, 55]⟩, .string ⟨#[45, 51, 46, 46, 52]⟩]
theorem table_at (i : Nat) (h : i < 20) : ∃ t : ByteArray, table[i]? = some (.string t) ∧ t.size ≤ 13 := by
  match i, h with
  | 0, _ => exact ⟨_, rfl, by decide⟩
  | 1, _ => exact ⟨_, rfl, by decide⟩
  | 2, _ => exact ⟨_, rfl, by decide⟩
  | 3, _ => exact ⟨_, rfl, by decide⟩
  | 4, _ => exact ⟨_, rfl, by decide⟩
  | 5, _ => exact ⟨_, rfl, by decide⟩
  | 6, _ => exact ⟨_, rfl, by decide⟩
  | 7, _ => exact ⟨_, rfl, by decide⟩
  | 8, _ => exact ⟨_, rfl, by decide⟩
  | 9, _ => exact ⟨_, rfl, by decide⟩
  | 10, _ => exact ⟨_, rfl, by decide⟩
  | 11, _ => exact ⟨_, rfl, by decide⟩
  | 12, _ => exact ⟨_, rfl, by decide⟩
  | 13, _ => exact ⟨_, rfl, by decide⟩
  | 14, _ => exact ⟨_, rfl, by decide⟩
  | 15, _ => exact ⟨_, rfl, by decide⟩
  | 16, _ => exact ⟨_, rfl, by decide⟩
  | 17, _ => exact ⟨_, rfl, by decide⟩
  | 18, _ => exact ⟨_, rfl, by decide⟩
  | 19, _ => exact ⟨_, rfl, by decide⟩
  | i + 20, h => exact absurd h (by omega)

set_option maxHeartbeats 1000000 in
theorem pieces_any (A : Option Addr) (n c : Nat) (w : World) (hn : n ≤ 9223372036854775807) (hB : Byts w A n) : Calls Try.prog 17 #[.slice A n c] w (Piece w) := by
  go_enter Try.func17, Try.ntmps17
  go_wp2_with fail
  obtain ⟨W0, hW0⟩ : ∃ W0, w.alloc (.cells table 9) = W0 := ⟨_, rfl⟩
  have hT : ∀ i, i < 20 → ∃ t : ByteArray, W0.cell? ⟨w.heap.size, i, none⟩ = some (.string t) ∧ t.size ≤ 13 := by
    intro i hi
    obtain ⟨t, h1, h2⟩ := table_at i hi
    refine ⟨t, ?_, h2⟩
    rw [← hW0]
    exact (cell_of_row _ w.heap.size i table 9 (0, 0) (heap_alloc_new w _)).trans h1
  have hbw : Below w.heap.size w W0 := by rw [← hW0]; exact (Below.refl _ _).alloc (Nat.le_refl _) _
  have hB2 := hB.below hbw
  rw [table] at hW0
  rw [hW0]
  clear hB
  go_loopw [4, 5] (fun x i wr => ∃ (k : Nat) (t : ByteArray), k ≤ n ∧ k ≤ 80 ∧ i = .int .i64 k ∧ x = .string t ∧ t.size ≤ k * 13 ∧ W0 = wr) (fun _ i _ => n - (intOf i).toNat)
  case atStart => exact ⟨0, _, by omega, by omega, rfl, rfl, by decide, rfl⟩
  case round =>
    obtain ⟨k, t, hk, hk2, rfl, rfl, ht, rfl⟩ := hrel
    by_cases hlt : k < n
    · by_cases h80 : k < 80
      · obtain ⟨ad, b, rfl, hb1, hb2⟩ := hB2 k hlt
        have hb256 := b.toNat_lt
        obtain ⟨u, hu, hus⟩ := hT (b.toNat % 20) (by omega)
        have hmod : ((b.toNat : Int)).tmod 20 = ((b.toNat % 20 : Nat) : Int) := by rw [Int.tmod_eq_emod_of_nonneg (by omega)]; rfl
        have hm2 : b.toNat % 20 < 20 := by omega
        generalize b.toNat % 20 = q at *
        have hcat : t.size + u.size ≤ 9223372036854775807 := by omega
        have hcs : (t ++ u).size ≤ (k + 1) * 13 := by rw [ByteArray.size_append]; omega
        clear hT hB2
        go_wp2_with fail
        go_roundw
        case rel => exact ⟨k + 1, t ++ u, by omega, by omega, by go_num, rfl, hcs, by trivial⟩
        case measure => simp [intOf]; omega
      · clear hT hB2
        go_wp2_with fail
        go_ret
        exact ⟨t, rfl, by omega, hbw⟩
    · clear hT hB2
      go_wp2_with fail
      go_ret
      exact ⟨t, rfl, by omega, hbw⟩
end Go.Proofs.Ythjdhcldocpfjaa.Aids
