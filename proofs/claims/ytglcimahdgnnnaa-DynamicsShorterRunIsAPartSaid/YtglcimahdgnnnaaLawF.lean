/-
  From the walk of a statement of this seat to the given row: arguments opened (integers, slices of integers and of cells, a stock), and the row's last step for a call that has changed no old memory.
-/
import Derived.Test.YtglcimahdgnnnaaSrc
import Derived.HandedShaped
import Derived.Lib.SmallJoins
import Derived.Deep.SlicePairs
import Derived.Deep.Fields
import Derived.Carry
namespace Go.Proofs.Ytglcimahdgnnnaa.LawF
open Go.ChangeShapes Go.WideShapes Go.ChangeAt Go.RowKit Dyn Mem
set_option linter.unusedVariables false

def Yes (w : World) (e : Ending) (w' : World) : Prop := e = .returned (.bool true) ∧ Below w.heap.size w w'

theorem cells3 : Try.prog.cellsOf 3 = 1 := by kernel_rfl
theorem cellsC : Try.prog.cellsOf 42 = 2 := by kernel_rfl
theorem cellsS : Try.prog.cellsOf 23 = 5 := by kernel_rfl
theorem laid : laidOutB Try.prog = true := by kernel_rfl
theorem rr0 : Try.prog.readableRec 3 = true ∧ 3 < Try.prog.types.size := ⟨by kernel_rfl, of_decide_eq_true (by kernel_rfl)⟩
theorem rr4 : Try.prog.readableRec 24 = true ∧ 24 < Try.prog.types.size := ⟨by kernel_rfl, of_decide_eq_true (by kernel_rfl)⟩
theorem rr5 : Try.prog.readableRec 28 = true ∧ 28 < Try.prog.types.size := ⟨by kernel_rfl, of_decide_eq_true (by kernel_rfl)⟩
theorem rr6 : Try.prog.readableRec 23 = true ∧ 23 < Try.prog.types.size := ⟨by kernel_rfl, of_decide_eq_true (by kernel_rfl)⟩
def fine (t : TypeId) : Bool := [3, 24, 28, 23].contains t
theorem rrs (ts : List TypeId) (h : ts.all fine = true) : ∀ t ∈ ts, Try.prog.readableRec t = true ∧ t < Try.prog.types.size := by
  intro t ht
  have hf := List.all_eq_true.1 h t ht
  simp only [fine, List.contains_iff_mem, List.mem_cons, List.not_mem_nil, or_false] at hf
  rcases hf with rfl | rfl | rfl | rfl
  · exact rr0
  · exact rr4
  · exact rr5
  · exact rr6
section
variable {H : Type} {enc : TypeId × Value → H}

set_option maxRecDepth 100000 in
theorem arg_ints {W : World} {r : Reach} {b0 : Nat} {v : Value} {d : DataW H} {p : List MemPlace} (hval : Value.okWide Try.prog W r b0 24 v) (hd : DataW.Trod enc Try.prog W 0 (fun _ => true) true 24 v d p) :
    ∃ A n c, v = .slice A n c ∧ Src.Ints W W.heap.size A n ∧ n ≤ c ∧ c ≤ 9223372036854775807 := by
  obtain ⟨a, len, cap, rfl⟩ := WideShapes.okWide_slice Try.underlying24 hval
  obtain ⟨fuel, hf⟩ := hd
  rcases open_ints Try.underlying24 Try.underlying3 cells3 hf with ⟨hcs, _⟩ | ⟨a', len', cap', zs, hcs, _, hl, hm, hz, _, hcell, hwz⟩
  · simp [Value.cells] at hcs
    obtain ⟨rfl, rfl, rfl⟩ := hcs
    exact ⟨_, _, _, rfl, fun j hj => absurd hj (by omega), Nat.le_refl _, by omega⟩
  · simp [Value.cells] at hcs
    obtain ⟨rfl, rfl, rfl⟩ := hcs
    simp only [if_true] at hz
    refine ⟨_, _, _, rfl, fun j hj => ?_, hl, by unfold maxLen at hm; omega⟩
    have hj' : j < zs.length := by omega
    have hc := hcell j hj'
    have hw := hwz _ (List.getElem_mem hj')
    have hb := bounds_i64 hw
    have e : zs.getD j 0 = zs[j] := by simp [List.getD, List.getElem?_eq_getElem hj']
    rw [e] at hc
    have hlt := World.block_lt_of_cell? W _ hc
    rw [Mem.block_add] at hlt
    exact ⟨a', zs[j], rfl, hlt, hc, by omega, by omega⟩

/-- a slice of records, as the reading meets it -/
theorem open_recs {W : World} {α : Type} [Inhabited α] {R : Rec α} {p : α → Prop} {t e : TypeId} {n : Nat} {cs : List Value} {x : DataW H × List MemPlace} (ht : Try.prog.underlying t = some (.slice e)) (hc : Try.prog.cellsOf e = R.k)
    (each : ∀ (m : Nat) (vs : List Value) (y : DataW H × List MemPlace), DataW.trod enc Try.prog W 0 (fun _ => true) true m e vs = some y → vs.length = R.k → ∃ a : α, vs = R.cells a ∧ p a)
    (h : DataW.trod enc Try.prog W 0 (fun _ => true) true n t cs = some x) :
    ∃ A len cap L, cs = [.slice A len cap] ∧ Rd R W W.heap.size A len L ∧ len ≤ cap ∧ cap ≤ 9223372036854775807 ∧ ∀ a ∈ L, p a := by
  rcases DataW.trod_slice ht h with ⟨rfl, rfl⟩ | ⟨a, len, cap, elems, rest, m, _, rfl, rfl, hb, hl, hm, hlen, hel, hsp, hns⟩
  · exact ⟨none, 0, 0, [], rfl, Rd.nil _ _ _, Nat.le_refl _, by omega, nofun⟩
  · have one : ∀ i, i < len → ∃ y : α, (∀ j, j < R.k → W.cell? (a.add (i * R.k + j)) = (R.cells y)[j]?) ∧ p y := by
      intro i hi
      have hy : elems[i]? = some elems[i] := List.getElem?_eq_getElem (by omega)
      have hb' := hel i hi
      rw [hy, hc, Option.bind_eq_some_iff] at hb'
      obtain ⟨cs', hcs, hy'⟩ := hb'
      obtain ⟨_, g1, g2⟩ := World.cells?_some hcs
      obtain ⟨y, rfl, hp⟩ := each _ _ _ hy' g1
      exact ⟨y, fun j hj => by rw [← add_add']; exact g2 j hj, hp⟩
    obtain ⟨f, hf⟩ := Go.Deep.choose_lt one
    have hL : ((List.range len).map f).length = len := by simp
    refine ⟨some a, len, cap, (List.range len).map f, rfl, ⟨hL, fun j u hu => ?_⟩, hl, by unfold maxLen at hm; omega, fun y hy => ?_⟩
    · have hlt : j < len * R.k := by
        have := (List.getElem?_eq_some_iff.1 hu).1
        rwa [Mem.cs_length, hL] at this
      have hk := R.pos
      have hj1 : j / R.k < len := (Nat.div_lt_iff_lt_mul hk).2 hlt
      have hj2 : j % R.k < R.k := Nat.mod_lt _ hk
      have hj : j = j / R.k * R.k + j % R.k := (Nat.div_add_mod' j R.k).symm
      have h0 := (hf _ hj1).1 _ hj2
      rw [hj, Mem.cs_get _ _ _ hj2] at hu
      simp only [List.getElem?_map, List.getElem?_range hj1, Option.map_some, Option.bind_some] at hu
      rw [hu, ← hj] at h0
      have hlt := World.block_lt_of_cell? W _ h0
      rw [Mem.block_add] at hlt
      exact ⟨a, rfl, hlt, h0⟩
    · obtain ⟨i, hi, rfl⟩ := List.mem_map.1 hy
      exact (hf i (by simpa using hi)).2


/-- a number that an int holds -/
def I64 (n : Int) : Prop := -9223372036854775808 ≤ n ∧ n ≤ 9223372036854775807
theorem one_int {W : World} {m : Nat} {vs : List Value} {y : DataW H × List MemPlace} (h : DataW.trod enc Try.prog W 0 (fun _ => true) true m 3 vs = some y) : ∃ i : Int, vs = [.int .i64 i] ∧ I64 i := by
  obtain ⟨i, rfl, _, hw⟩ := DataW.trod_int Try.underlying3 h
  have hb := bounds_i64 hw
  exact ⟨i, rfl, by omega, by omega⟩
set_option maxRecDepth 100000 in
theorem one_cel {W : World} {m : Nat} {vs : List Value} {y : DataW H × List MemPlace} (h : DataW.trod enc Try.prog W 0 (fun _ => true) true m 42 vs = some y) (hl : vs.length = 2) : ∃ s : Cel, vs = celR.cells s ∧ I64 s.lim ∧ I64 s.gr := by
  obtain ⟨xs, n, _, _, _, hlen, hf⟩ := DataW.trod_struct Try.underlying42 h
  have hx : xs.length = 2 := hlen
  match vs, hl with
  | [v0, v1], _ =>
    have f0 : DataW.trod enc Try.prog W 0 (fun _ => true) true n 3 (([v0, v1].drop 0).take (Try.prog.cellsOf 3)) = xs[0]? := hf 0 _ rfl
    have f1 : DataW.trod enc Try.prog W 0 (fun _ => true) true n 3 (([v0, v1].drop 1).take (Try.prog.cellsOf 3)) = xs[1]? := hf 1 _ rfl
    rw [List.getElem?_eq_getElem (show 0 < xs.length by omega)] at f0
    rw [List.getElem?_eq_getElem (show 1 < xs.length by omega)] at f1
    simp only [cells3, List.drop_zero, List.drop_succ_cons, List.take_succ_cons, List.take_zero] at f0 f1
    obtain ⟨i0, e0, h0⟩ := one_int f0
    obtain ⟨i1, e1, h1⟩ := one_int f1
    simp only [List.cons.injEq, and_true] at e0 e1
    subst e0 e1
    exact ⟨⟨i0, i1⟩, rfl, h0, h1⟩
theorem arg_cells {W : World} {r : Reach} {b0 : Nat} {v : Value} {d : DataW H} {p : List MemPlace} (hval : Value.okWide Try.prog W r b0 28 v) (hd : DataW.Trod enc Try.prog W 0 (fun _ => true) true 28 v d p) :
    ∃ A n c L, v = .slice A n c ∧ Rd celR W W.heap.size A n L ∧ n ≤ c ∧ c ≤ 9223372036854775807 ∧ ∀ x ∈ L, I64 x.lim ∧ I64 x.gr := by
  obtain ⟨a, len, cap, rfl⟩ := WideShapes.okWide_slice Try.underlying28 hval
  obtain ⟨fuel, hf⟩ := hd
  obtain ⟨A, n, c, L, e, g, k, m, z⟩ := open_recs (R := celR) (p := fun x : Cel => I64 x.lim ∧ I64 x.gr) Try.underlying28 cellsC (fun m vs y h hl => one_cel h hl) hf
  simp [Value.cells] at e
  obtain ⟨rfl, rfl, rfl⟩ := e
  exact ⟨_, _, _, L, rfl, g, k, m, z⟩
theorem array5 {α : Type} {cs : Array α} (h : cs.size = 5) : ∃ c0 c1 c2 c3 c4, cs = #[c0, c1, c2, c3, c4] := by
  obtain ⟨l⟩ := cs
  match l, h with
  | [c0, c1, c2, c3, c4], _ => exact ⟨c0, c1, c2, c3, c4, rfl⟩
def stkOk (s : Stk) : Prop := I64 s.len ∧ I64 s.spd ∧ I64 s.acc ∧ I64 s.brk
theorem open_agg5 {W : World} {r : Reach} {b0 : Nat} {t : TypeId} {f0 f1 f2 f3 f4 : Field} {v : Value} {d : DataW H} {p : List MemPlace} (hs : Try.prog.underlying t = some (.struct #[f0, f1, f2, f3, f4])) (hone : Go.Deep.oneCellFields Try.prog #[f0, f1, f2, f3, f4] = true) (hC : Try.prog.cellsOf t = 5)
    (hv : Value.okWide Try.prog W r b0 t v) (h : DataW.Trod enc Try.prog W 0 (fun _ => true) true t v d p) :
    ∃ (v0 v1 v2 v3 v4 : Value) (y0 y1 y2 y3 y4 : DataW H × List MemPlace) (n : Nat), v = .agg #[v0, v1, v2, v3, v4] ∧
      DataW.trod enc Try.prog W 0 (fun _ => true) true n f0.type [v0] = some y0 ∧ DataW.trod enc Try.prog W 0 (fun _ => true) true n f1.type [v1] = some y1 ∧ DataW.trod enc Try.prog W 0 (fun _ => true) true n f2.type [v2] = some y2 ∧
      DataW.trod enc Try.prog W 0 (fun _ => true) true n f3.type [v3] = some y3 ∧ DataW.trod enc Try.prog W 0 (fun _ => true) true n f4.type [v4] = some y4 := by
  obtain ⟨cs, rfl, hsz⟩ := WideShapes.okWide_struct hs hv
  obtain ⟨c0, c1, c2, c3, c4, rfl⟩ := array5 (hsz.trans hC)
  obtain ⟨fuel, hf⟩ := h
  obtain ⟨xs, n, _, _, _, hlen, hg⟩ := DataW.trod_struct hs hf
  obtain ⟨o0, k0⟩ := Go.Deep.hone_of hone 0 f0 rfl
  obtain ⟨o1, k1⟩ := Go.Deep.hone_of hone 1 f1 rfl
  obtain ⟨o2, k2⟩ := Go.Deep.hone_of hone 2 f2 rfl
  obtain ⟨o3, k3⟩ := Go.Deep.hone_of hone 3 f3 rfl
  obtain ⟨o4, k4⟩ := Go.Deep.hone_of hone 4 f4 rfl
  match xs, hlen with
  | [y0, y1, y2, y3, y4], _ =>
    refine ⟨c0, c1, c2, c3, c4, y0, y1, y2, y3, y4, n, rfl, ?_, ?_, ?_, ?_, ?_⟩
    · have := hg 0 f0 rfl
      simpa [Value.cells, o0, k0] using this
    · have := hg 1 f1 rfl
      simpa [Value.cells, o1, k1] using this
    · have := hg 2 f2 rfl
      simpa [Value.cells, o2, k2] using this
    · have := hg 3 f3 rfl
      simpa [Value.cells, o3, k3] using this
    · have := hg 4 f4 rfl
      simpa [Value.cells, o4, k4] using this
theorem arg_stock {W : World} {r : Reach} {b0 : Nat} {v : Value} {d : DataW H} {p : List MemPlace} (hval : Value.okWide Try.prog W r b0 23 v) (hd : DataW.Trod enc Try.prog W 0 (fun _ => true) true 23 v d p) :
    ∃ (x : ByteArray) (s : Stk), v = stk x s ∧ stkOk s := by
  obtain ⟨v0, v1, v2, v3, v4, y0, y1, y2, y3, y4, n, rfl, h0, h1, h2, h3, h4⟩ := open_agg5 Try.underlying23 (by kernel_rfl) cellsS hval hd
  obtain ⟨x, e0, _⟩ := DataW.trod_string Try.underlying9 h0
  obtain ⟨i1, e1, b1⟩ := one_int h1
  obtain ⟨i2, e2, b2⟩ := one_int h2
  obtain ⟨i3, e3, b3⟩ := one_int h3
  obtain ⟨i4, e4, b4⟩ := one_int h4
  simp only [List.cons.injEq, and_true] at e0 e1 e2 e3 e4
  subst e0 e1 e2 e3 e4
  exact ⟨x, ⟨i1, i2, i3, i4⟩, rfl, b1, b2, b3, b4⟩

theorem trodAll_below {P : Program} (hl : laidOutB P = true) {W W' : World} (hb : Below W.heap.size W W') : ∀ {ts : List TypeId} {vs : List Value} {ds : List (DataW H)} {ps : List MemPlace}, (∀ t ∈ ts, P.readableRec t = true ∧ t < P.types.size) →
    DataW.TrodAll enc P W 0 (fun _ => true) true ts vs ds ps → (∀ x ∈ ps, x.block < W.heap.size) → DataW.TrodAll enc P W' 0 (fun b => decide (b < W.heap.size)) true ts vs ds ps
  | [], [], [], ps, _, h, _ => h
  | t :: ts, v :: vs, d :: ds, ps, ht, h, hlt => by
    obtain ⟨p, q, h0, h1, rfl⟩ := h
    obtain ⟨r1, r2⟩ := ht t List.mem_cons_self
    exact ⟨p, q, Below.trod hl r1 r2 h0 hb (fun x hx => hlt x (List.mem_append_left _ hx)), trodAll_below hl hb (fun t' h' => ht t' (List.mem_cons_of_mem _ h')) h1 (fun x hx => hlt x (List.mem_append_right _ hx)), rfl⟩

/-- the row's last step of a law: it returned true, and no old memory has changed -/
theorem post_law {P : Program} {f : Func} {s : ChangeSpec} {apart fresh handsOn : Bool} {W W' : World} {args : Array Value} {ds : List (DataW H)} {before : List MemPlace} {t4 : TypeId}
    (hl : laidOutB P = true) (ht : ∀ t ∈ f.params.toList, P.readableRec t = true ∧ t < P.types.size) (h4 : P.underlying t4 = some .bool) (hr : f.resultTypes.toList = [t4]) (hn : f.resultTypes.size = 1) (hv : s.vars = [])
    (hs1 : (s.fn H ds).results = [.lit (.bool true)]) (hs2 : (s.fn H ds).args = ds) (hs3 : (s.fn H ds).vars = [])
    (hW : DataW.Whole enc P f.params.toList s.vars apart W args.toList ds [] before) (hb : Below W.heap.size W W') :
    s.post enc P f apart fresh handsOn false W args (.bool true) W' := by
  have hlt : ∀ p ∈ before, p.block < W.heap.size := fun p hp => hW.lt p hp
  have hW' := hW
  obtain ⟨p, q, hA, hV, rfl, _, _⟩ := hW
  rw [hv] at hV
  obtain ⟨_, rfl⟩ := trodVars_none hV
  refine ⟨ds, [], p ++ [], [], p, [], hW', ?_, ?_, ?_, World.keptBut_mono (fun p' hp => ⟨hp, ?_⟩) (hb.frame (· ∈ p ++ [])), fun h => by cases h⟩
  · rw [List.append_nil, hs1, hr, hn]
    exact trodAll_cons_mk (shut_bool h4 _) trodAll_mk0
  · rw [List.append_nil, hs2]
    exact trodAll_below hl hb ht hA (fun x hx => hlt x (List.mem_append_left _ hx))
  · rw [List.append_nil, hs3, hv]
    exact rfl
  · rw [List.append_nil] at hp
    exact .inr (.inl hp)
end

end Go.Proofs.Ytglcimahdgnnnaa.LawF
