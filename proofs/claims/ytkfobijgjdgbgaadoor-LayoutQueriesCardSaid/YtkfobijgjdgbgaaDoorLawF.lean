/-
  From the walk of a statement of this seat to the given row: arguments opened (integers, strings, slices of integers and of bytes), the one cell of the library that searches read, and the row's last step for a call that has changed no old memory.
-/
import Derived.Test.YtkfobijgjdgbgaaDoorSrc
import Derived.Test.YtkfobijgjdgbgaaDoorAwake
import Derived.HandedShaped
import Derived.Shelf.Vars
import Derived.Deep.SlicePairs
import Derived.Carry
namespace Go.Proofs.YtkfobijgjdgbgaaDoor.LawF
open Go.ChangeShapes Go.WideShapes Go.ChangeAt Go.RowKit Wd Mem
set_option linter.unusedVariables false

/-- n bytes lie at A -/
def Byts (w : World) (A : Option Addr) (n : Nat) : Prop := ∀ j, j < n → ∃ ad b, A = some ad ∧ ad.block < w.heap.size ∧ w.cell? (ad.add j) = some (.int .u8 (UInt8.toNat b))
theorem cells3 : Tryd.prog.cellsOf 3 = 1 := by kernel_rfl
theorem cells5 : Tryd.prog.cellsOf 5 = 1 := by kernel_rfl
theorem laid : laidOutB Tryd.prog = true := by kernel_rfl
theorem rr0 : Tryd.prog.readableRec 3 = true ∧ 3 < Tryd.prog.types.size := ⟨by kernel_rfl, of_decide_eq_true (by kernel_rfl)⟩
theorem rr1 : Tryd.prog.readableRec 4 = true ∧ 4 < Tryd.prog.types.size := ⟨by kernel_rfl, of_decide_eq_true (by kernel_rfl)⟩
theorem rr2 : Tryd.prog.readableRec 5 = true ∧ 5 < Tryd.prog.types.size := ⟨by kernel_rfl, of_decide_eq_true (by kernel_rfl)⟩
theorem rr3 : Tryd.prog.readableRec 9 = true ∧ 9 < Tryd.prog.types.size := ⟨by kernel_rfl, of_decide_eq_true (by kernel_rfl)⟩
theorem rr4 : Tryd.prog.readableRec 31 = true ∧ 31 < Tryd.prog.types.size := ⟨by kernel_rfl, of_decide_eq_true (by kernel_rfl)⟩
theorem rr5 : Tryd.prog.readableRec 126 = true ∧ 126 < Tryd.prog.types.size := ⟨by kernel_rfl, of_decide_eq_true (by kernel_rfl)⟩
def fine (t : TypeId) : Bool := [3, 4, 5, 9, 31, 126].contains t
theorem rrs (ts : List TypeId) (h : ts.all fine = true) : ∀ t ∈ ts, Tryd.prog.readableRec t = true ∧ t < Tryd.prog.types.size := by
  intro t ht
  have hf := List.all_eq_true.1 h t ht
  simp only [fine, List.contains_iff_mem, List.mem_cons, List.not_mem_nil, or_false] at hf
  rcases hf with rfl | rfl | rfl | rfl | rfl | rfl
  · exact rr0
  · exact rr1
  · exact rr2
  · exact rr3
  · exact rr4
  · exact rr5
section
variable {H : Type} {enc : TypeId × Value → H}

set_option maxRecDepth 100000 in
theorem arg_ints {W : World} {r : Reach} {b0 : Nat} {v : Value} {d : DataW H} {p : List MemPlace} (hval : Value.okWide Tryd.prog W r b0 31 v) (hd : DataW.Trod enc Tryd.prog W 0 (fun _ => true) true 31 v d p) :
    ∃ A n c, v = .slice A n c ∧ Src.Ints W W.heap.size A n ∧ n ≤ c ∧ c ≤ 9223372036854775807 := by
  obtain ⟨a, len, cap, rfl⟩ := WideShapes.okWide_slice Tryd.underlying31 hval
  obtain ⟨fuel, hf⟩ := hd
  rcases open_ints Tryd.underlying31 Tryd.underlying3 cells3 hf with ⟨hcs, _⟩ | ⟨a', len', cap', zs, hcs, _, hl, hm, hz, _, hcell, hwz⟩
  · simp [Value.cells] at hcs
    obtain ⟨rfl, rfl, rfl⟩ := hcs
    exact ⟨_, _, _, rfl, fun j hj => absurd hj (by omega), Nat.le_refl _, by omega⟩
  · simp [Value.cells] at hcs
    obtain ⟨rfl, rfl, rfl⟩ := hcs
    simp only [if_true] at hz
    refine ⟨_, _, _, rfl, fun j hj => ?_, hl, by unfold maxLen at hm; omega⟩
    have hj' : j < zs.length := by omega
    have hc := hcell j hj'
    have hw := hwz _ (List.getElem_mem hj')
    have hb := bounds_i64 hw
    have e : zs.getD j 0 = zs[j] := by simp [List.getD, List.getElem?_eq_getElem hj']
    rw [e] at hc
    have hlt := World.block_lt_of_cell? W _ hc
    rw [Mem.block_add] at hlt
    exact ⟨a', zs[j], rfl, hlt, hc, by omega, by omega⟩

theorem bounds_u8 {n : Int} (h : (Lit.int .u8 n).wf = true) : 0 ≤ n ∧ n ≤ 255 := by simpa [Lit.wf, IntKind.min, IntKind.max, IntKind.signed, IntKind.bits] using h

set_option maxRecDepth 100000 in
theorem arg_bytes {W : World} {r : Reach} {b0 : Nat} {v : Value} {d : DataW H} {p : List MemPlace} (hval : Value.okWide Tryd.prog W r b0 126 v) (hd : DataW.Trod enc Tryd.prog W 0 (fun _ => true) true 126 v d p) :
    ∃ A n c, v = .slice A n c ∧ Byts W A n ∧ n ≤ c ∧ c ≤ 9223372036854775807 := by
  obtain ⟨a, len, cap, rfl⟩ := WideShapes.okWide_slice Tryd.underlying126 hval
  obtain ⟨fuel, hf⟩ := hd
  rcases open_ints Tryd.underlying126 Tryd.underlying5 cells5 hf with ⟨hcs, _⟩ | ⟨a', len', cap', zs, hcs, _, hl, hm, hz, _, hcell, hwz⟩
  · simp [Value.cells] at hcs
    obtain ⟨rfl, rfl, rfl⟩ := hcs
    exact ⟨_, _, _, rfl, fun j hj => absurd hj (by omega), Nat.le_refl _, by omega⟩
  · simp [Value.cells] at hcs
    obtain ⟨rfl, rfl, rfl⟩ := hcs
    simp only [if_true] at hz
    refine ⟨_, _, _, rfl, fun j hj => ?_, hl, by unfold maxLen at hm; omega⟩
    have hj' : j < zs.length := by omega
    have hc := hcell j hj'
    have hw := hwz _ (List.getElem_mem hj')
    have hb := bounds_u8 hw
    have e : zs.getD j 0 = zs[j] := by simp [List.getD, List.getElem?_eq_getElem hj']
    rw [e] at hc
    have hlt := World.block_lt_of_cell? W _ hc
    rw [Mem.block_add] at hlt
    refine ⟨a', UInt8.ofNat zs[j].toNat, rfl, hlt, ?_⟩
    rw [hc]
    congr 2
    rw [UInt8.toNat_ofNat']
    omega

theorem trodAll_below {P : Program} (hl : laidOutB P = true) {W W' : World} (hb : Below W.heap.size W W') : ∀ {ts : List TypeId} {vs : List Value} {ds : List (DataW H)} {ps : List MemPlace}, (∀ t ∈ ts, P.readableRec t = true ∧ t < P.types.size) →
    DataW.TrodAll enc P W 0 (fun _ => true) true ts vs ds ps → (∀ x ∈ ps, x.block < W.heap.size) → DataW.TrodAll enc P W' 0 (fun b => decide (b < W.heap.size)) true ts vs ds ps
  | [], [], [], ps, _, h, _ => h
  | t :: ts, v :: vs, d :: ds, ps, ht, h, hlt => by
    obtain ⟨p, q, h0, h1, rfl⟩ := h
    obtain ⟨r1, r2⟩ := ht t List.mem_cons_self
    exact ⟨p, q, Below.trod hl r1 r2 h0 hb (fun x hx => hlt x (List.mem_append_left _ hx)), trodAll_below hl hb (fun t' h' => ht t' (List.mem_cons_of_mem _ h')) h1 (fun x hx => hlt x (List.mem_append_right _ hx)), rfl⟩

/-- the row's last step of a law: it returned true, and no old memory has changed -/
theorem post_law {P : Program} {f : Func} {s : ChangeSpec} {apart fresh handsOn : Bool} {W W' : World} {args : Array Value} {ds : List (DataW H)} {before : List MemPlace} {t4 : TypeId}
    (hl : laidOutB P = true) (ht : ∀ t ∈ f.params.toList, P.readableRec t = true ∧ t < P.types.size) (h4 : P.underlying t4 = some .bool) (hr : f.resultTypes.toList = [t4]) (hn : f.resultTypes.size = 1) (hv : s.vars = [])
    (hs1 : (s.fn H ds).results = [.lit (.bool true)]) (hs2 : (s.fn H ds).args = ds) (hs3 : (s.fn H ds).vars = [])
    (hW : DataW.Whole enc P f.params.toList s.vars apart W args.toList ds [] before) (hb : Below W.heap.size W W') :
    s.post enc P f apart fresh handsOn false W args (.bool true) W' := by
  have hlt : ∀ p ∈ before, p.block < W.heap.size := fun p hp => hW.lt p hp
  have hW' := hW
  obtain ⟨p, q, hA, hV, rfl, _, _⟩ := hW
  rw [hv] at hV
  obtain ⟨_, rfl⟩ := trodVars_none hV
  refine ⟨ds, [], p ++ [], [], p, [], hW', ?_, ?_, ?_, World.keptBut_mono (fun p' hp => ⟨hp, ?_⟩) (hb.frame (· ∈ p ++ [])), fun h => by cases h⟩
  · rw [List.append_nil, hs1, hr, hn]
    exact trodAll_cons_mk (shut_bool h4 _) trodAll_mk0
  · rw [List.append_nil, hs2]
    exact trodAll_below hl hb ht hA (fun x hx => hlt x (List.mem_append_left _ hx))
  · rw [List.append_nil, hs3, hv]
    exact rfl
  · rw [List.append_nil] at hp
    exact .inr (.inl hp)
end

end Go.Proofs.YtkfobijgjdgbgaaDoor.LawF
