/-
  Contract of the library's iterator over a slice from its end, at cells of a run.
-/
import Derived.Test.YtglcimahdgnnnaaPPer
import Derived.RangeFuncNested
import Derived.RangeFuncBound
import Derived.RangeFuncCalls
import Derived.RangeFuncLeaves
import Derived.Shelf.Abstract
import Derived.Shelf.RegionOpen
import Derived.OwnWalkIn
import Derived.TacticsInMore
import Derived.LoopNIn
import Derived.LoopIn
namespace Go.Proofs.Ytglcimahdgnnnaa.PBack
open Go.ChangeShapes Go.WideShapes Go.ChangeAt Go.RowKit Go.Shelf Dyn Mem Src PSm PChk PLim PPer
set_option linter.unusedVariables false
attribute [local go_sem] Oper.semAt_some

/-- what the iterator hands over: a place below m and a valid cell -/
abbrev It (m : Nat) := { x : Nat × Cel // x.1 < m ∧ okCel x.2 = true }
def encI {m : Nat} (x : It m) : Array Value := #[.int .i64 (x.1.1 : Int), .agg #[.int .i64 x.1.2.lim, .int .i64 x.1.2.gr]]
/-- two blocks are kept -/
def Kp (b1 b2 : Nat) (A B : World) : Prop := B.heap[b1]? = A.heap[b1]? ∧ B.heap[b2]? = A.heap[b2]?
theorem Kp.trans {b1 b2 : Nat} {A B C : World} (h : Kp b1 b2 A B) (k : Kp b1 b2 B C) : Kp b1 b2 A C := ⟨k.1.trans h.1, k.2.trans h.2⟩
theorem Kp.refl (b1 b2 : Nat) (A : World) : Kp b1 b2 A A := ⟨rfl, rfl⟩
theorem Kp.cell {b1 b2 : Nat} {A B : World} (h : Kp b1 b2 A B) {p : Addr} (hp : p.block = b1 ∨ p.block = b2) : B.cell? p = A.cell? p := World.cell?_of_block (w := A) (by
  rcases hp with e | e
  · rw [e]; exact h.1
  · rw [e]; exact h.2)
theorem Kp.of_below {b1 b2 n : Nat} {A B : World} (h : Below n A B) (h1 : b1 < n) (h2 : b2 < n) : Kp b1 b2 A B := ⟨h.block _ h1, h.block _ h2⟩
/-- the first k of a sequence -/
def first {α : Type} (f : Nat → α) (k : Nat) : List α := (List.range k).map f
theorem first_succ {α : Type} (f : Nat → α) (k : Nat) : first f (k + 1) = first f k ++ [f k] := by simp [first, List.range_succ]
theorem first_length {α : Type} (f : Nat → α) (k : Nat) : (first f k).length = k := by simp [first]

set_option maxRecDepth 100000 in
set_option maxHeartbeats 4000000 in
theorem back1_in (F : Fence) (n : Nat) (hF : F.fn 51) (hro : F.round = none) (hn : 1 ≤ n) (l Bs cap m : Nat) (a0 : Addr) (f : Nat → It m) (hm : m ≤ 4000) (hf : ∀ r, r < m → (f r).1.1 = m - 1 - r)
    (J Jx : List (It m) → World → Prop)
    (hY : ∀ pre x W, J pre W → pre.length < m → YieldAt F (n - 1) Try.prog l (encI x) W fun e W' =>
      (e = .returned (.bool true) ∧ J (pre ++ [x]) W' ∧ Kp Bs a0.block W W') ∨ (e = .returned (.bool false) ∧ Jx (pre ++ [x]) W'))
    (W : World) (hBs : W.cell? ⟨Bs, 0, none⟩ = some (.slice (some a0) m cap))
    (hc : ∀ r, r < m → W.cell? (a0.add ((m - 1 - r) * 2)) = some (.int .i64 (f r).1.2.lim) ∧ W.cell? ⟨(a0.add ((m - 1 - r) * 2)).block, (a0.add ((m - 1 - r) * 2)).off + 1, none⟩ = some (.int .i64 (f r).1.2.gr)) (h0 : J [] W) :
    CallsIn F n Try.prog 51 #[.func (.yield l) #[] #[], .pointer (some ⟨Bs, 0, none⟩)] W fun e W' => (∃ v, e = .returned v) ∧
      ((∃ ys, ys = first f m ∧ J ys W') ∨ (∃ pre, True ∧ Jx pre W')) := by
  refine callsIn_of_wp Try.func51 rfl hF ?_ hro
  simp only [Try.ntmps51, List.size_toArray, List.length_cons, List.length_nil, Nat.reduceAdd, Nat.reduceSub, Array.replicate_succ, Array.replicate_zero, List.push_toArray, List.append_toArray, List.nil_append, List.cons_append]
  gi_wp2
  gi_loopw [3] (fun i wr => ∃ j : Nat, j ≤ m ∧ i = .int .i64 ((j : Int) - 1) ∧ J (first f (m - j)) wr ∧ Kp Bs a0.block W wr)
    (fun i _ => (intOf i + 1).toNat)
  case atStart => exact ⟨m, Nat.le_refl _, rfl, by rw [Nat.sub_self]; exact h0, Kp.refl _ _ _⟩
  case round =>
    obtain ⟨j, hj, rfl, hJs, hkp⟩ := hrel
    cases j with
    | zero =>
      gi_wp2
      go_end0
      exact ⟨⟨_, rfl⟩, .inl ⟨_, rfl, by simpa using hJs⟩⟩
    | succ j =>
      have hcx := hc (m - 1 - j) (by omega)
      have hfx := hf (m - 1 - j) (by omega)
      rw [show m - 1 - (m - 1 - j) = j by omega] at hcx hfx
      have hbx := (hkp.cell (p := ⟨Bs, 0, none⟩) (.inl rfl)).trans hBs
      have hc0 := (hkp.cell (.inr (Mem.block_add _ _))).trans hcx.1
      have hc1 := (hkp.cell (p := ⟨(a0.add (j * 2)).block, (a0.add (j * 2)).off + 1, none⟩) (.inr (Mem.block_add _ _))).trans hcx.2
      obtain ⟨fn, tmps, assign, body, hy, hR⟩ := hY _ (f (m - 1 - j)) wr hJs (by rw [first_length]; omega)
      simp only [encI, hfx] at hy
      have e1 : ((j + 1 : Nat) : Int) - 1 = (j : Int) := by omega
      rw [e1]
      have e2 : m - (j + 1) = m - 1 - j := by omega
      gi_wp2
      refine hR.mono ?_
      rintro e W3 (⟨rfl, hJ3, hk3⟩ | ⟨rfl, hJx3⟩)
      · gi_wp2
        go_roundw
        case rel =>
          refine ⟨j, by omega, rfl, ?_, hkp.trans hk3⟩
          rw [show m - j = m - 1 - j + 1 by omega, first_succ, ← e2]
          rw [← e2] at hJ3
          exact hJ3
        case measure => (first | (simp [intOf]; done) | (simp [intOf]; omega))
      · gi_wp2
        refine bodyPost_ret (results_none rfl _ _ _) rfl ?_
        exact ⟨⟨_, rfl⟩, .inr ⟨_, trivial, hJx3⟩⟩

set_option maxHeartbeats 1000000 in
theorem back_in (F : Fence) (n : Nat) (hF : F.fn 38) (hro : F.round = none) (a : Option Addr) (len cap : Nat) (w : World) :
    CallsIn F n Try.prog 38 #[.slice a len cap] w fun e w' => e = .returned (.func (.func 51) #[] #[.pointer (some ⟨w.heap.size, 0, none⟩)]) ∧ w' = w.alloc (.cells #[.slice a len cap] 28) := by
  refine callsIn_of_wp Try.func38 rfl hF ?_ hro
  simp only [Try.ntmps38, List.size_toArray, List.length_cons, List.length_nil, Nat.reduceAdd, Nat.reduceSub, Array.replicate_succ, Array.replicate_zero, List.push_toArray, List.append_toArray, List.nil_append, List.cons_append]
  gi_wp2
  go_ret
  exact ⟨rfl, rfl⟩

/-- the iterator over a slice from its end: all its cells with their places, from the last one on -/
theorem back_stops (F : Fence) (n : Nat) (hF : F.fn 51) (hro : F.round = none) (hn : 1 ≤ n) (Bs cap m : Nat) (a0 : Addr) (f : Nat → It m) (hm : m ≤ 4000) (hf : ∀ r, r < m → (f r).1.1 = m - 1 - r) (w : World)
    (hb1 : Bs < w.heap.size) (hb2 : a0.block < w.heap.size) (hBs : w.cell? ⟨Bs, 0, none⟩ = some (.slice (some a0) m cap))
    (hc : ∀ r, r < m → w.cell? (a0.add ((m - 1 - r) * 2)) = some (.int .i64 (f r).1.2.lim) ∧ w.cell? ⟨(a0.add ((m - 1 - r) * 2)).block, (a0.add ((m - 1 - r) * 2)).off + 1, none⟩ = some (.int .i64 (f r).1.2.gr)) :
    SeqStopsK F n Try.prog 51 #[.pointer (some ⟨Bs, 0, none⟩)] encI (Kp Bs a0.block) (fun ys => ys = first f m) (fun _ => True) m w := fun l J Jx W hW _ _ hY h0 =>
  back1_in F n hF hro hn l Bs cap m a0 f hm hf J Jx hY W ((hW.cell (p := ⟨Bs, 0, none⟩) hb1).trans hBs)
    (fun r hr => ⟨(hW.cell (by rw [Mem.block_add]; exact hb2)).trans (hc r hr).1, (hW.cell (p := ⟨(a0.add ((m - 1 - r) * 2)).block, (a0.add ((m - 1 - r) * 2)).off + 1, none⟩) (by rw [Mem.block_add]; exact hb2)).trans (hc r hr).2⟩) h0

end Go.Proofs.Ytglcimahdgnnnaa.PBack
