/-
  From the walk of a statement of this seat to the given row: arguments opened (integers, bools, slices of integers, slices of spans), and the row's last step for a call that has changed no old memory.
-/
import Derived.Test.YtapflikdoiedeaaSource
import Derived.Deep.SlicePairs
import Derived.Carry
namespace Go.Proofs.Ytapflikdoiedeaa.Frame
open Go.ChangeShapes Go.WideShapes Go.ChangeAt Go.RowKit Plain Mem
set_option linter.unusedVariables false

theorem cells3 : Try.prog.cellsOf 3 = 1 := by kernel_rfl
theorem cells29 : Try.prog.cellsOf 29 = 2 := by kernel_rfl

theorem laid : laidOutB Try.prog = true := by kernel_rfl
theorem rr3 : Try.prog.readableRec 3 = true ∧ 3 < Try.prog.types.size := ⟨by kernel_rfl, of_decide_eq_true (by kernel_rfl)⟩
theorem rr4 : Try.prog.readableRec 4 = true ∧ 4 < Try.prog.types.size := ⟨by kernel_rfl, of_decide_eq_true (by kernel_rfl)⟩
theorem rr22 : Try.prog.readableRec 22 = true ∧ 22 < Try.prog.types.size := ⟨by kernel_rfl, of_decide_eq_true (by kernel_rfl)⟩
theorem rr35 : Try.prog.readableRec 35 = true ∧ 35 < Try.prog.types.size := ⟨by kernel_rfl, of_decide_eq_true (by kernel_rfl)⟩
theorem rr (t : TypeId) (h : t = 3 ∨ t = 4 ∨ t = 22 ∨ t = 35) : Try.prog.readableRec t = true ∧ t < Try.prog.types.size := by
  rcases h with rfl | rfl | rfl | rfl
  · exact rr3
  · exact rr4
  · exact rr22
  · exact rr35

def fine (t : TypeId) : Bool := t == 3 || t == 4 || t == 22 || t == 35
theorem rrs (ts : List TypeId) (h : ts.all fine = true) : ∀ t ∈ ts, Try.prog.readableRec t = true ∧ t < Try.prog.types.size := by
  intro t ht
  have hf := List.all_eq_true.1 h t ht
  simp only [fine, Bool.or_eq_true, beq_iff_eq] at hf
  rcases hf with ((hf | hf) | hf) | hf
  · exact rr t (.inl hf)
  · exact rr t (.inr (.inl hf))
  · exact rr t (.inr (.inr (.inl hf)))
  · exact rr t (.inr (.inr (.inr hf)))

section
variable {H : Type} {enc : TypeId × Value → H}

theorem arg_ints {W : World} {r : Reach} {b0 : Nat} {v : Value} {d : DataW H} {p : List MemPlace} (hval : Value.okWide Try.prog W r b0 35 v) (hd : DataW.Trod enc Try.prog W 0 (fun _ => true) true 35 v d p) :
    ∃ A n c, v = .slice A n c ∧ Source.Ints W W.heap.size A n ∧ n ≤ c ∧ c ≤ 9223372036854775807 := by
  obtain ⟨a, len, cap, rfl⟩ := WideShapes.okWide_slice Try.underlying35 hval
  obtain ⟨fuel, hf⟩ := hd
  rcases open_ints Try.underlying35 Try.underlying3 cells3 hf with ⟨hcs, _⟩ | ⟨a', len', cap', zs, hcs, _, hl, hm, hz, _, hcell, hwz⟩
  · simp [Value.cells] at hcs
    obtain ⟨rfl, rfl, rfl⟩ := hcs
    exact ⟨_, _, _, rfl, fun j hj => absurd hj (by omega), Nat.le_refl _, by omega⟩
  · simp [Value.cells] at hcs
    obtain ⟨rfl, rfl, rfl⟩ := hcs
    simp only [if_true] at hz
    refine ⟨_, _, _, rfl, fun j hj => ?_, hl, by unfold maxLen at hm; omega⟩
    have hj' : j < zs.length := by omega
    have hc := hcell j hj'
    have hw := hwz _ (List.getElem_mem hj')
    have hb := bounds_i64 hw
    have e : zs.getD j 0 = zs[j] := by simp [List.getD, List.getElem?_eq_getElem hj']
    rw [e] at hc
    have hlt := World.block_lt_of_cell? W _ hc
    rw [Mem.block_add] at hlt
    exact ⟨a', zs[j], rfl, hlt, hc, by omega, by omega⟩

theorem arg_spans {W : World} {r : Reach} {b0 : Nat} {v : Value} {d : DataW H} {p : List MemPlace} (hval : Value.okWide Try.prog W r b0 22 v) (hd : DataW.Trod enc Try.prog W 0 (fun _ => true) true 22 v d p) :
    ∃ A n c L, v = .slice A n c ∧ Spans W W.heap.size A n L ∧ n ≤ c ∧ c ≤ 9223372036854775807 := by
  obtain ⟨a, len, cap, rfl⟩ := WideShapes.okWide_slice Try.underlying22 hval
  obtain ⟨fuel, hf⟩ := hd
  rcases Go.Deep.open_slice_pairs Try.underlying22 Try.underlying29 cells29 rfl rfl cells3 cells3 hf with ⟨hcs, _⟩ | ⟨a', len', cap', m, k, V0, V1, D0, D1, P0, P1, hcs, _, hl, hm, hmm, _, hcell⟩
  · simp [Value.cells] at hcs
    obtain ⟨rfl, rfl, rfl⟩ := hcs
    exact ⟨_, _, _, [], rfl, Spans.nil _ _ _, Nat.le_refl _, by omega⟩
  · simp [Value.cells] at hcs
    obtain ⟨rfl, rfl, rfl⟩ := hcs
    simp only [if_true] at hmm
    subst hmm
    have each : ∀ i, i < len → ∃ q : Int × Int, W.cell? (a'.add (i * 2)) = some (.int .i64 q.1) ∧ W.cell? (a'.add (i * 2 + 1)) = some (.int .i64 q.2) := by
      intro i hi
      obtain ⟨h0, h1, t0, t1⟩ := hcell i (by omega)
      obtain ⟨n0, e0, _, _⟩ := DataW.trod_int Try.underlying3 t0
      obtain ⟨n1, e1, _, _⟩ := DataW.trod_int Try.underlying3 t1
      simp only [List.cons.injEq, and_true] at e0 e1
      exact ⟨(n0, n1), by rw [h0, e0], by rw [h1, e1]⟩
    obtain ⟨f, hf⟩ := Go.Deep.choose_lt each
    refine ⟨_, _, _, (List.range len).map f, rfl, ⟨by simp, fun j u hu => ?_⟩, hl, by unfold maxLen at hm; omega⟩
    have hj : j < len * 2 := by
      have := (List.getElem?_eq_some_iff.1 hu).1
      rw [cs_length] at this
      simpa using this
    have hk : j / 2 < len := by omega
    obtain ⟨h0, h1⟩ := hf (j / 2) hk
    rcases Nat.mod_two_eq_zero_or_one j with e | e
    · have ej : j = j / 2 * 2 := by omega
      rw [ej] at hu ⊢
      rw [cs_get0] at hu
      simp [hk] at hu
      subst hu
      have hlt := World.block_lt_of_cell? W _ h0
      rw [Mem.block_add] at hlt
      exact ⟨a', rfl, hlt, h0⟩
    · have ej : j = j / 2 * 2 + 1 := by omega
      rw [ej] at hu ⊢
      rw [cs_get1] at hu
      simp [hk] at hu
      subst hu
      have hlt := World.block_lt_of_cell? W _ h1
      rw [Mem.block_add] at hlt
      exact ⟨a', rfl, hlt, h1⟩

theorem trodAll_below {P : Program} (hl : laidOutB P = true) {W W' : World} (hb : Below W.heap.size W W') : ∀ {ts : List TypeId} {vs : List Value} {ds : List (DataW H)} {ps : List MemPlace}, (∀ t ∈ ts, P.readableRec t = true ∧ t < P.types.size) →
    DataW.TrodAll enc P W 0 (fun _ => true) true ts vs ds ps → (∀ x ∈ ps, x.block < W.heap.size) → DataW.TrodAll enc P W' 0 (fun b => decide (b < W.heap.size)) true ts vs ds ps
  | [], [], [], ps, _, h, _ => h
  | t :: ts, v :: vs, d :: ds, ps, ht, h, hlt => by
    obtain ⟨p, q, h0, h1, rfl⟩ := h
    obtain ⟨r1, r2⟩ := ht t List.mem_cons_self
    exact ⟨p, q, Below.trod hl r1 r2 h0 hb (fun x hx => hlt x (List.mem_append_left _ hx)), trodAll_below hl hb (fun t' h' => ht t' (List.mem_cons_of_mem _ h')) h1 (fun x hx => hlt x (List.mem_append_right _ hx)), rfl⟩

/-- the row's last step of a law: it returned true, and no old memory has changed -/
theorem post_law {P : Program} {f : Func} {s : ChangeSpec} {apart fresh handsOn : Bool} {W W' : World} {args : Array Value} {ds : List (DataW H)} {before : List MemPlace} {t4 : TypeId}
    (hl : laidOutB P = true) (ht : ∀ t ∈ f.params.toList, P.readableRec t = true ∧ t < P.types.size) (h4 : P.underlying t4 = some .bool) (hr : f.resultTypes.toList = [t4]) (hn : f.resultTypes.size = 1) (hv : s.vars = [])
    (hs1 : (s.fn H ds).results = [.lit (.bool true)]) (hs2 : (s.fn H ds).args = ds) (hs3 : (s.fn H ds).vars = [])
    (hW : DataW.Whole enc P f.params.toList s.vars apart W args.toList ds [] before) (hb : Below W.heap.size W W') :
    s.post enc P f apart fresh handsOn false W args (.bool true) W' := by
  have hlt : ∀ p ∈ before, p.block < W.heap.size := fun p hp => hW.lt p hp
  have hW' := hW
  obtain ⟨p, q, hA, hV, rfl, _, _⟩ := hW
  rw [hv] at hV
  obtain ⟨_, rfl⟩ := trodVars_none hV
  refine ⟨ds, [], p ++ [], [], p, [], hW', ?_, ?_, ?_, World.keptBut_mono (fun p' hp => ⟨hp, ?_⟩) (hb.frame (· ∈ p ++ [])), fun h => by cases h⟩
  · rw [List.append_nil, hs1, hr, hn]
    exact trodAll_cons_mk (shut_bool h4 _) trodAll_mk0
  · rw [List.append_nil, hs2]
    exact trodAll_below hl hb ht hA (fun x hx => hlt x (List.mem_append_left _ hx))
  · rw [List.append_nil, hs3, hv]
    exact rfl
  · rw [List.append_nil] at hp
    exact .inr (.inl hp)
end

end Go.Proofs.Ytapflikdoiedeaa.Frame
