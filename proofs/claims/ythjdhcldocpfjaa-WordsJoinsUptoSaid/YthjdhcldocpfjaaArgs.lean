/-
  A list of lists of strings that comes in as an argument: opened, with its bulk.
-/
import Derived.Test.YthjdhcldocpfjaaFrame
import Derived.Test.YthjdhcldocpfjaaStrs
import Derived.Deep.SlicePairs
namespace Go.Proofs.Ythjdhcldocpfjaa.Args
open Go.ChangeShapes Go.WideShapes Go.ChangeAt Go.ChangeMaps Go.RowKit Wd Mem Strs
set_option linter.unusedVariables false

theorem cells9 : Try.prog.cellsOf 9 = 1 := by kernel_rfl
theorem cells39 : Try.prog.cellsOf 39 = 1 := by kernel_rfl

section
variable {H : Type} {enc : TypeId × Value → H} {W : World}

theorem bulk_row (L : List ByteArray) : Rows.uptoBulkAll (L.map fun s => DataW.lit (H := H) (.string s.data.toList)) = wt L := by
  induction L with
  | nil => rfl
  | cons s r ih =>
    simp only [List.map_cons, Rows.uptoBulkAll, Rows.uptoBulk, ih, wt]
    rw [show s.data.toList.length = s.size from Array.length_toList]
theorem bulk_le (LL : List (List ByteArray)) : ∀ ds : List (DataW H), LL.length = ds.length → (∀ (i : Nat) L d, LL[i]? = some L → ds[i]? = some d → wt L + 1 ≤ Rows.uptoBulk d) → wtL LL ≤ Rows.uptoBulkAll ds := by
  induction LL with
  | nil => intro ds _ _; simp [wtL]
  | cons L r ih =>
    intro ds hl h
    cases ds with
    | nil => simp at hl
    | cons d ds =>
      have h0 := h 0 L d rfl rfl
      have h1 := ih ds (by simpa using hl) (fun i L' d' e1 e2 => h (i + 1) L' d' (by simpa using e1) (by simpa using e2))
      simp only [wtL, Rows.uptoBulkAll]
      omega

/-- an inner list, as the reading meets it -/
theorem open_row {n : Nat} {cs : List Value} {x : DataW H × List MemPlace} (h : DataW.trod enc Try.prog W 0 (fun _ => true) true n 39 cs = some x) :
    ∃ A L c, cs = [.slice A L.length c] ∧ Row W W.heap.size A L.length L ∧ L.length ≤ c ∧ c ≤ 9223372036854775807 ∧ wt L + 1 ≤ Rows.uptoBulk x.1 := by
  rcases DataW.trod_slice Try.underlying39 h with ⟨rfl, rfl⟩ | ⟨a, len, cap, elems, rest, m, _, rfl, rfl, hb, hl, hm, hlen, hel, hsp, hns⟩
  · exact ⟨none, [], 0, rfl, ⟨rfl, fun j s hs => by simp at hs⟩, by simp, by omega, by simp [wt, Rows.uptoBulk]⟩
  · have each : ∀ i, i < len → ∃ s : ByteArray, W.cell? (a.add i) = some (.string s) ∧ ∃ y, elems[i]? = some y ∧ y.1 = .lit (.string s.data.toList) := by
      intro i hi
      have hy : elems[i]? = some elems[i] := List.getElem?_eq_getElem (by omega)
      have hb' := hel i hi
      rw [hy, cells9, Nat.mul_one, Option.bind_eq_some_iff] at hb'
      obtain ⟨cs', hcs, hy'⟩ := hb'
      obtain ⟨s, rfl, e, _⟩ := DataW.trod_string Try.underlying9 hy'
      exact ⟨s, cell_of_cells?_one hcs, _, hy, by rw [e]⟩
    obtain ⟨f, hf⟩ := Go.Deep.choose_lt each
    have hL : ((List.range len).map f).length = len := by simp
    refine ⟨some a, (List.range len).map f, cap, by rw [hL], ⟨rfl, fun j s hs => ?_⟩, by rw [hL]; exact hl, by unfold maxLen at hm; omega, ?_⟩
    · have hj : j < len := by have := (List.getElem?_eq_some_iff.1 hs).1; rwa [hL] at this
      have e : s = f j := by simp [hj] at hs; exact hs.symm
      obtain ⟨h0, _⟩ := hf j hj
      subst e
      have hlt := World.block_lt_of_cell? W _ h0
      rw [Mem.block_add] at hlt
      exact ⟨a, rfl, hlt, h0⟩
    · have he : elems.map (·.1) = ((List.range len).map f).map fun s => DataW.lit (H := H) (.string s.data.toList) := by
        apply List.ext_getElem?
        intro j
        by_cases hj : j < len
        · obtain ⟨_, y, h1, h2⟩ := hf j hj
          simp [h1, h2, hj]
        · rw [List.getElem?_eq_none (by simp; omega), List.getElem?_eq_none (by simp; omega)]
      simp only [Rows.uptoBulk, he, bulk_row]
      omega

theorem arg_grid {r : Reach} {b0 : Nat} {v : Value} {d : DataW H} {p : List MemPlace} (hval : Value.okWide Try.prog W r b0 46 v) (hd : DataW.Trod enc Try.prog W 0 (fun _ => true) true 46 v d p) :
    ∃ A n c LL, v = .slice A n c ∧ Grid W W.heap.size A n LL ∧ n ≤ 9223372036854775807 ∧ wtL LL ≤ Rows.uptoBulk d := by
  obtain ⟨a0, len0, cap0, rfl⟩ := WideShapes.okWide_slice Try.underlying46 hval
  obtain ⟨fuel, hf⟩ := hd
  rcases DataW.trod_slice Try.underlying46 hf with ⟨hcs, hx⟩ | ⟨a, len, cap, elems, rest, m, _, hcs, hx, hb, hl, hm, hlen, hel, hsp, hns⟩
  · simp [Value.cells] at hcs
    obtain ⟨rfl, rfl, rfl⟩ := hcs
    exact ⟨_, _, _, [], rfl, ⟨rfl, fun j L hL => by simp at hL⟩, by omega, by simp [wtL]⟩
  · simp [Value.cells] at hcs
    obtain ⟨rfl, rfl, rfl⟩ := hcs
    have hd : d = .slice (elems.map (·.1)) (rest.map (·.1)) := congrArg Prod.fst hx
    have each : ∀ i, i < len0 → ∃ L : List ByteArray, (∃ A1 c1, W.cell? (a.add i) = some (.slice A1 L.length c1) ∧ Row W W.heap.size A1 L.length L ∧ L.length ≤ c1 ∧ c1 ≤ 9223372036854775807) ∧ ∃ y, elems[i]? = some y ∧ wt L + 1 ≤ Rows.uptoBulk y.1 := by
      intro i hi
      have hy : elems[i]? = some elems[i] := List.getElem?_eq_getElem (by omega)
      have hb' := hel i hi
      rw [hy, cells39, Nat.mul_one, Option.bind_eq_some_iff] at hb'
      obtain ⟨cs', hcs, hy'⟩ := hb'
      obtain ⟨A1, L, c1, rfl, g1, g2, g3, g4⟩ := open_row hy'
      exact ⟨L, ⟨A1, c1, cell_of_cells?_one hcs, g1, g2, g3⟩, _, hy, g4⟩
    obtain ⟨f, hf⟩ := Go.Deep.choose_lt each
    refine ⟨some a, len0, cap0, (List.range len0).map f, rfl, ⟨by simp, fun j L hL => ?_⟩, by unfold maxLen at hm; omega, ?_⟩
    · have hj : j < len0 := by have := (List.getElem?_eq_some_iff.1 hL).1; simpa using this
      have e : L = f j := by simp [hj] at hL; exact hL.symm
      subst e
      obtain ⟨⟨A1, c1, h0, h1⟩, _⟩ := hf j hj
      have hlt := World.block_lt_of_cell? W _ h0
      rw [Mem.block_add] at hlt
      exact ⟨a, A1, c1, rfl, hlt, h0, h1⟩
    · rw [hd]
      have := bulk_le ((List.range len0).map f) (elems.map (·.1)) (by simp [hlen]) (fun i L d e1 e2 => by
        have hi : i < len0 := by have := (List.getElem?_eq_some_iff.1 e1).1; simpa using this
        obtain ⟨_, y, h1, h2⟩ := hf i hi
        simp [hi] at e1
        simp [h1] at e2
        subst e1 e2
        exact h2)
      simp only [Rows.uptoBulk]
      omega
end
end Go.Proofs.Ythjdhcldocpfjaa.Args
