/-
  Contracts of the program: the rates with the memory that they make, and the pass forward.
-/
import Derived.Test.YtglcimahdgnnnaaPBack
import Derived.BigRegion
import Derived.Test.YtglcimahdgnnnaaMan
import Derived.RangeFuncNested
import Derived.RangeFuncBound
import Derived.RangeFuncCalls
import Derived.RangeFuncLeaves
import Derived.Shelf.Abstract
import Derived.Shelf.RegionOpen
import Derived.OwnWalkIn
import Derived.TacticsInMore
import Derived.LoopNIn
import Derived.LoopIn
namespace Go.Proofs.Ytglcimahdgnnnaa.PFwd
open Go.ChangeShapes Go.WideShapes Go.ChangeAt Go.RowKit Dyn Mem Src PSm PChk PLim PPer PBack Man
set_option linter.unusedVariables false

/-- a cell and a stock laid in two new blocks -/
def laid2 (w : World) (c : Cel) (x : ByteArray) (s : Stk) : World :=
  (w.alloc (.cells #[.int .i64 c.lim, .int .i64 c.gr] 42)).alloc (.cells #[.string x, .int .i64 s.len, .int .i64 s.spd, .int .i64 s.acc, .int .i64 s.brk] 23)
set_option maxRecDepth 100000 in
theorem x_acc (c : Cel) (x : ByteArray) (s : Stk) (w : World) (hc : okCel c = true) (hs : okStk s = true) : Calls Try.prog 37 #[.agg #[.int .i64 c.lim, .int .i64 c.gr], stk x s] w fun e w' => e = .returned (.int .i64 (acc c s)) ∧ w' = laid2 w c x s := by
  have h1 := okCel_iff.1 hc
  have h2 := okStk_iff.1 hs
  have E : Hid (acc c s = rate c.gr s.acc) := by unfold acc rate; rfl
  obtain ⟨len, spd, ac, brk⟩ := s
  obtain ⟨lim, gr⟩ := c
  simp only [stk] at *
  clear hc hs
  go_enter Try.func37, Try.ntmps37
  go_wp2_with (go_at_call 50; refine (p_rate gr ac _ (by omega) (by omega) (by omega) (by omega)).mono ?_; rintro e w' ⟨rfl, rfl⟩)
  all_goals go_ret
  all_goals exact ⟨ret1 E.out.symm, rfl⟩
set_option maxRecDepth 100000 in
theorem x_brk (c : Cel) (x : ByteArray) (s : Stk) (w : World) (hc : okCel c = true) (hs : okStk s = true) : Calls Try.prog 39 #[.agg #[.int .i64 c.lim, .int .i64 c.gr], stk x s] w fun e w' => e = .returned (.int .i64 (brk c s)) ∧ w' = laid2 w c x s := by
  have h1 := okCel_iff.1 hc
  have h2 := okStk_iff.1 hs
  have E : Hid (brk c s = rate (-c.gr) s.brk) := by unfold brk rate; rw [Hid]; by_cases h : c.gr < 0 <;> simp [h] <;> omega
  obtain ⟨len, spd, ac, bk⟩ := s
  obtain ⟨lim, gr⟩ := c
  simp only [stk] at *
  clear hc hs
  go_enter Try.func39, Try.ntmps39
  go_wp2_with (go_at_call 50; refine (p_rate (-gr) bk _ (by omega) (by omega) (by omega) (by omega)).mono ?_; rintro e w' ⟨rfl, rfl⟩)
  all_goals go_ret
  all_goals exact ⟨ret1 E.out.symm, rfl⟩

theorem new_two (w : World) (a b : Value) (e : TypeId) : (w.alloc (.cells #[a, b] e)).cell? ⟨w.heap.size, 0, none⟩ = some a ∧ (w.alloc (.cells #[a, b] e)).cell? ⟨w.heap.size, 1, none⟩ = some b := by
  have h := heap_alloc_new w (.cells #[a, b] e)
  unfold World.cell?
  generalize w.alloc (.cells #[a, b] e) = W at *
  simp only
  rw [h]
  exact ⟨rfl, rfl⟩
/-- what stands in memory while the squares are made: the stock in its block, the slice of the squares in block q, the squares in block g -/
structure St (w : World) (wr : World) (q g N : Nat) (x : ByteArray) (s : Stk) (f : Nat → Int) : Prop where
  box : Bx wr w.heap.size x s
  var : wr.heap[q]? = some (.cells #[.slice (some ⟨g, 0, none⟩) N N] 24 (0, 0))
  row : Row wr g N f
  below : Below w.heap.size w wr
  hq : w.heap.size < q
  hg : w.heap.size < g
  ne : g ≠ q
section
variable {w wr w' : World} {q g N : Nat} {x : ByteArray} {s : Stk} {f f' : Nat → Int}
theorem St.qlt (h : St w wr q g N x s f) : q < wr.heap.size := lt_of_block h.var
theorem St.glt (h : St w wr q g N x s f) : g < wr.heap.size := h.row.lt
theorem St.size (h : St w wr q g N x s f) : w.heap.size < wr.heap.size := by have := h.qlt; have := h.hq; omega
theorem St.keep (h : St w wr q g N x s f) (hb : Below wr.heap.size wr w') : St w w' q g N x s f :=
  ⟨h.box.below hb h.size, (hb.block q h.qlt).trans h.var, h.row.below hb h.glt, h.below.trans (hb.mono (Nat.le_of_lt h.size)), h.hq, h.hg, h.ne⟩
theorem St.alloc (h : St w wr q g N x s f) (o : Obj) : St w (wr.alloc o) q g N x s f := h.keep ((Below.refl _ _).alloc (Nat.le_refl _) _)
theorem St.congr (h : St w wr q g N x s f) (e : ∀ i : Nat, i < N → f i = f' i) : St w wr q g N x s f' := ⟨h.box, h.var, h.row.congr e, h.below, h.hq, h.hg, h.ne⟩
theorem St.put (h : St w wr q g N x s f) (i : Nat) (b : Int) : St w (wr.setCell ⟨g, i, none⟩ (.int .i64 b)) q g N x s (fun j => if j = i then b else f j) :=
  ⟨(Below.heap_setCell wr ⟨g, i, none⟩ _ _ (by have := h.hg; simp only; omega)).trans h.box, (Below.heap_setCell wr ⟨g, i, none⟩ _ _ (by have := h.ne; simp only; omega)).trans h.var, h.row.set_ i b, h.below.setCell (by have := h.hg; simp only; omega) _, h.hq, h.hg, h.ne⟩
theorem St.cell (h : St w wr q g N x s f) : wr.cell? ⟨q, 0, none⟩ = some (.slice (some ⟨g, 0, none⟩) N N) := by
  have := h.var; simp [World.cell?, this]
theorem St.rowCell (h : St w wr q g N x s f) {i : Nat} (hi : i < N) : wr.cell? ⟨g, i, none⟩ = some (.int .i64 (f i)) := h.row.cell hi
theorem St.free (h : St w wr q g N x s f) (i : Nat) : wr.frozen? ⟨g, i, none⟩ = false := h.row.frozen i
end

/-! ### the pass backward, as the rounds of the loop make it -/
def stp (s : Stk) (f : Nat → Int) {m : Nat} (x : It m) : Nat → Int := fun j => if j = x.1.1 then min (f x.1.1) (f (x.1.1 + 1) + 20000 * brk x.1.2 s) else f j
def steps (s : Stk) (f : Nat → Int) {m : Nat} (pre : List (It m)) : Nat → Int := pre.foldl (fun f x => stp s f x) f
theorem steps_snoc (s : Stk) (f : Nat → Int) {m : Nat} (pre : List (It m)) (x : It m) : steps s f (pre ++ [x]) = stp s (steps s f pre) x := by simp [steps, List.foldl_append]
theorem stp_in {s : Stk} {f : Nat → Int} {m : Nat} {x : It m} (hs : okStk s = true) (h : ∀ j, j ≤ m → 0 ≤ f j ∧ f j ≤ 10000000000) : ∀ j, j ≤ m → 0 ≤ stp s f x j ∧ stp s f x j ≤ 10000000000 := by
  intro j hj
  have h1 := h x.1.1 (Nat.le_of_lt x.2.1)
  have h2 := h (x.1.1 + 1) x.2.1
  have h3 := h j hj
  have h4 := brk_bounds (c := x.1.2) hs
  unfold stp
  split <;> omega
theorem steps_in {s : Stk} {m : Nat} (hs : okStk s = true) : ∀ (pre : List (It m)) (f : Nat → Int), (∀ j, j ≤ m → 0 ≤ f j ∧ f j ≤ 10000000000) → ∀ j, j ≤ m → 0 ≤ steps s f pre j ∧ steps s f pre j ≤ 10000000000
  | [], f, h => h
  | x :: pre, f, h => steps_in hs pre (stp s f x) (stp_in hs h)
/-- what the iterator hands over in round r -/
def item (L : List Cel) (st m : Nat) (h : ∀ j, j < m → okCel (cel L (st + j)) = true) (hm : 0 < m) (r : Nat) : It m := ⟨(m - 1 - r, cel L (st + (m - 1 - r))), ⟨by omega, h _ (by omega)⟩⟩
theorem steps_first (L : List Cel) (s : Stk) (st m : Nat) (h : ∀ j, j < m → okCel (cel L (st + j)) = true) (hm : 0 < m) : ∀ k, k ≤ m → ∀ j, j ≤ m → steps s (forw L s st m) (first (item L st m h hm) k) j = if m - k ≤ j then sq L s st m j else forw L s st m j
  | 0, _, j, hj => by
    show forw L s st m j = _
    by_cases e : j = m
    · subst e; rw [if_pos (by omega), sq_last]
    · rw [if_neg (by omega)]
  | k + 1, hk, j, hj => by
    have ih := steps_first L s st m h hm k (by omega)
    rw [first_succ, steps_snoc]
    unfold stp
    have e1 : (item L st m h hm k).1.1 = m - 1 - k := rfl
    have e2 : (item L st m h hm k).1.2 = cel L (st + (m - 1 - k)) := rfl
    rw [e1, e2]
    by_cases e : j = m - 1 - k
    · have hsq := sq_step L s st m (m - 1 - k) (by omega)
      rw [if_pos e, ih _ (by omega), ih _ (by omega), if_neg (by omega), if_pos (by omega), if_pos (by omega), e, hsq]
    · rw [if_neg e, ih _ hj]
      by_cases e3 : m - k ≤ j
      · rw [if_pos e3, if_pos (by omega)]
      · rw [if_neg e3, if_neg (by omega)]
theorem steps_all {L : List Cel} {s : Stk} {st m : Nat} {h : ∀ j, j < m → okCel (cel L (st + j)) = true} {hm : 0 < m} {j : Nat} (hj : j ≤ m) : steps s (forw L s st m) (first (item L st m h hm) m) j = sq L s st m j := by
  rw [steps_first L s st m h hm m (Nat.le_refl _) j hj, if_pos (by omega)]

theorem St.grows {w wr w' : World} {q g N : Nat} {x : ByteArray} {s : Stk} {f : Nat → Int} {row : Option Nat} {B : Nat} (h : St w wr q g N x s f) (hg : wr.grownBy w' row) (hr : ∀ r, row = some r → B ≤ r) (h1 : q < B) (h2 : g < B) : St w w' q g N x s f :=
  ⟨(hg.block _ h.size (fun e => by have := hr _ e.symm; have := h.hq; omega)).trans h.box, (hg.block _ h.qlt (fun e => by have := hr _ e.symm; omega)).trans h.var,
    World.rowIs.of_block h.row (hg.block _ h.glt (fun e => by have := hr _ e.symm; omega)), h.below.grown hg (Nat.le_of_lt h.size) (fun r e => by have := hr _ e; have := h.hq; omega), h.hq, h.hg, h.ne⟩
theorem keepsFrom_put {B g i : Nat} {W wv : World} {v : Value} (hb : Below W.heap.size W wv) (hg : g < B) : KeepsFrom B W (wv.setCell ⟨g, i, none⟩ v) :=
  ⟨by simp [World.setCell]; exact hb.size, fun k o hk hko _ => ((Below.heap_setCell wv ⟨g, i, none⟩ v k (by simp only; omega)).trans (hb.block k (Array.getElem?_eq_some_iff.1 hko).1)).trans hko⟩


end Go.Proofs.Ytglcimahdgnnnaa.PFwd
