/-
  Names kept in maps: a set of names, and names with their numbers, as a call makes them. No function of the program is named here.
-/
import Derived.Test.YtkfobijgjdgbgaaDoorRecs
import Derived.Test.YtkfobijgjdgbgaaDoorLayT
import Derived.Maps.OwnSet
import Derived.Maps.OwnOps
import Derived.StringKeys
namespace Go.Proofs.YtkfobijgjdgbgaaDoor.Keep
open Go.RowKit Go.Maps Go.ChangeMaps Go.WideMaps Wd Mem Lay LayT
set_option linter.unusedVariables false

theorem keyS : Keyed Tryd.prog 9 := string_keyed Tryd.underlying9
theorem str_toList (s : Bs) : (str s).data.toList = s := by simp [str]
theorem keyOf_str {s : Bs} (h : s.length ≤ 9223372036854775807) : keyOf Tryd.prog 9 (.string (str s)) = some (.string s) := by
  have := keyOf_string_mk (P := Tryd.prog) Tryd.underlying9 (s := str s) (by rw [size_str]; unfold maxLen; omega)
  rw [str_toList] at this
  exact this
theorem zeroB (w : World) : (zeroValue 4).run Tryd.prog w = .ok (.bool false) w := by kernel_rfl
theorem zeroI (w : World) : (zeroValue 3).run Tryd.prog w = .ok (.int .i64 0) w := by kernel_rfl
theorem keyLit (s : Bs) : WideAt.IsKeyLit (.string s) := trivial

/-! ### a set of names -/

/-- block b is a set, of at most n entries, of the names done -/
def Seen (w : World) (b n : Nat) (done : List Bs) : Prop :=
  ∃ D : DataW Unit, w.ownsMap Tryd.prog 9 (plainElem Tryd.prog 4) b n D ∧ ∀ s, D.atKey (.string s) (.lit (.bool false)) = .lit (.bool (done.contains s))
section
variable {w w' : World} {b n B : Nat} {done : List Bs}
theorem Seen.made (w : World) : Seen (w.alloc (.map #[] 0)) w.heap.size 0 [] := ⟨_, World.ownsMap_made _ _ _ _, fun s => rfl⟩
theorem Seen.lt (h : Seen w b n done) : b < w.heap.size := by obtain ⟨D, h, _⟩ := h; exact h.lt
theorem Seen.below (h : Seen w b n done) (hb : Below B w w') (hB : b < B) : Seen w' b n done := by
  obtain ⟨D, ⟨es, clock, h1, h2, h3, h4⟩, hD⟩ := h
  exact ⟨D, ⟨es, clock, (hb.block b hB).trans h1, h2, h3, h4⟩, hD⟩
theorem Seen.alloc (h : Seen w b n done) (o : Obj) : Seen (w.alloc o) b n done := by
  obtain ⟨D, h, hD⟩ := h
  exact ⟨D, h.alloc o, hD⟩
set_option maxRecDepth 100000 in
theorem bool_inv {v : Value} {z : DataW Unit × List MemPlace} (h : plainElem Tryd.prog 4 v = some z) : ∃ x, v = .bool x ∧ z = (.lit (.bool x), []) := by
  unfold plainElem at h
  rw [Tryd.underlying4] at h
  cases v <;> simp at h
  exact ⟨_, rfl, h.symm⟩
theorem Seen.look {s : Bs} (h : Seen w b n done) (hs : s.length ≤ 9223372036854775807) :
    (Instr.lookup 105 (.map (some b)) (.string (str s)) false).run Tryd.prog w = .ok (.bool (done.contains s)) w := by
  obtain ⟨D, h, hD⟩ := h
  obtain ⟨v, ps, hrun, hv⟩ := h.lookup keyS Tryd.underlying105 (zeroB w) (plainElem_bool Tryd.underlying4 false) (keyOf_str hs)
  obtain ⟨x, rfl, hx⟩ := bool_inv hv
  rw [hD s] at hx
  have : done.contains s = x := by
    have h1 := congrArg Prod.fst hx
    simpa using h1
  rw [this]
  exact hrun
theorem contains_snoc (done : List Bs) (s t : Bs) : (done ++ [s]).contains t = (done.contains t || decide (t = s)) := by
  rw [Bool.eq_iff_iff]
  simp
theorem Seen.put {s : Bs} (h : Seen w b n done) (hs : s.length ≤ 9223372036854775807) (hn : n < 9223372036854775807) :
    ∃ w', (Instr.mapUpdate 105 (.map (some b)) (.string (str s)) (.bool true)).run Tryd.prog w = .ok () w' ∧ Seen w' b (n + 1) (done ++ [s]) ∧ w.grownBy w' (some b) := by
  obtain ⟨D, h, hD⟩ := h
  obtain ⟨w', hrun, h1, h2⟩ := h.update keyS Tryd.underlying105 (by unfold maxLen; omega) (keyOf_str hs) (plainElem_bool Tryd.underlying4 true)
  refine ⟨w', hrun, ⟨_, h1, fun t => ?_⟩, h2⟩
  rw [contains_snoc]
  by_cases e : t = s
  · subst e
    rw [atKey_put_same h.isMap (keyLit _)]
    simp
  · rw [atKey_put_other (by simpa using e), hD t]
    simp [e]
end

set_option maxRecDepth 100000 in
/-- the store into a set, for the walk -/
theorem wpList_seen (w : World) {ops : Array Oper} {rest : List Oper} {o : Oper} {a : Act} {Q : Exit → Act → World → Prop} (hg : o.guard = none) (m x v : Operand) (hop : o.op = Op.mapUpdate 105 m x v)
    (b n : Nat) (done : List Bs) (s : Bs) (hm : a.eval m = .map (some b)) (h : Seen w b n done) (hs : s.length ≤ 9223372036854775807) (hn : n < 9223372036854775807) (hx : a.eval x = .string (str s)) (hv : a.eval v = .bool true)
    (hK : ∀ w', Seen w' b (n + 1) (done ++ [s]) → w.grownBy w' (some b) → wpList Tryd.prog ops Q rest (a.put o.dst undef) w') : wpList Tryd.prog ops Q (o :: rest) a w := by
  refine wpList_plain hg fun K' hK' => ?_
  obtain ⟨w', hrun, r1, r2⟩ := h.put hs hn
  unfold Oper.wp
  simp [execOp, hop, hm, hx, hv, hrun, Result.andThen]
  exact hK' _ _ (hK w' r1 r2)

/-! ### numbered names -/

theorem place_nat : ∀ (L : List Bs) (k : Int) (s : Bs), 0 ≤ k → (place k L s < 0 ∧ place k L s = -1) ∨ k ≤ place k L s
  | [], k, s, hk => .inl ⟨by show (-1 : Int) < 0; decide, rfl⟩
  | a :: r, k, s, hk => by
    unfold place
    split
    · exact .inr (Int.le_refl _)
    · rcases place_nat r (k + 1) s (by omega) with h | h
      · exact .inl h
      · exact .inr (by omega)
theorem place_snoc : ∀ (L : List Bs) (k : Int) (s t : Bs), 0 ≤ k → place k (L ++ [s]) t = if place k L t < 0 then (if s = t then k + L.length else -1) else place k L t
  | [], k, s, t, hk => by simp [place]
  | a :: r, k, s, t, hk => by
    have ih := place_snoc r (k + 1) s t (by omega)
    have e1 : place k (a :: r ++ [s]) t = if a = t then k else place (k + 1) (r ++ [s]) t := rfl
    have e2 : place k (a :: r) t = if a = t then k else place (k + 1) r t := rfl
    have e3 : ((a :: r).length : Int) = r.length + 1 := by simp
    by_cases e : a = t
    · rw [if_pos e] at e1 e2
      have h : ¬ place k (a :: r) t < 0 := by omega
      rw [if_neg h, e1, e2]
    · rw [if_neg e] at e1 e2
      by_cases h : place (k + 1) r t < 0
      · have h' : place k (a :: r) t < 0 := by omega
        rw [if_pos h] at ih
        rw [if_pos h', e1, ih]
        by_cases h2 : s = t
        · rw [if_pos h2, if_pos h2]; omega
        · rw [if_neg h2, if_neg h2]
      · have h' : ¬ place k (a :: r) t < 0 := by omega
        rw [if_neg h] at ih
        rw [if_neg h', e1, ih, e2]
/-- block b holds, in at most n entries, the number of each name of the list L: the first place where it stands -/
def Nums (w : World) (b n : Nat) (L : List Bs) : Prop :=
  ∃ D : DataW Unit, w.ownsMap Tryd.prog 9 (plainElem Tryd.prog 3) b n D ∧ ∀ s, Maps.has D (.string s) = decide (0 ≤ place 0 L s) ∧ (0 ≤ place 0 L s → D.atKey (.string s) (.lit (.int .i64 0)) = .lit (.int .i64 (place 0 L s)))
/-- what a look-up answers -/
def numOf (L : List Bs) (s : Bs) : Int := if place 0 L s < 0 then 0 else place 0 L s
section
variable {w w' : World} {b n B : Nat} {L : List Bs}
theorem Nums.made (w : World) : Nums (w.alloc (.map #[] 0)) w.heap.size 0 [] := ⟨_, World.ownsMap_made _ _ _ _, fun s => ⟨rfl, fun h => absurd h (by show ¬ (0 : Int) ≤ -1; decide)⟩⟩
theorem Nums.lt (h : Nums w b n L) : b < w.heap.size := by obtain ⟨D, h, _⟩ := h; exact h.lt
theorem Nums.below (h : Nums w b n L) (hb : Below B w w') (hB : b < B) : Nums w' b n L := by
  obtain ⟨D, ⟨es, clock, h1, h2, h3, h4⟩, hD⟩ := h
  exact ⟨D, ⟨es, clock, (hb.block b hB).trans h1, h2, h3, h4⟩, hD⟩
theorem Nums.kept {row : Option Nat} (h : Nums w b n L) (hg : w.grownBy w' row) (hne : some b ≠ row) : Nums w' b n L := by
  obtain ⟨D, h, hD⟩ := h
  exact ⟨D, h.kept hg hne, hD⟩
theorem Nums.alloc (h : Nums w b n L) (o : Obj) : Nums (w.alloc o) b n L := h.kept (World.grownBy_alloc w o none) (by simp)
theorem Nums.drewN (h : Nums w b n L) (k : Nat) : Nums (w.drewN k) b n L := h
theorem Nums.mono {n' : Nat} (h : Nums w b n L) (hn : n ≤ n') : Nums w b n' L := by
  obtain ⟨D, h, hD⟩ := h
  exact ⟨D, h.mono hn, hD⟩
theorem Nums.look {s : Bs} (h : Nums w b n L) (hs : s.length ≤ 9223372036854775807) :
    (Instr.lookup 75 (.map (some b)) (.string (str s)) true).run Tryd.prog w = .ok (.tuple #[.int .i64 (numOf L s), .bool (decide (0 ≤ place 0 L s))]) w := by
  obtain ⟨D, h, hD⟩ := h
  obtain ⟨v, ps, hrun, hv⟩ := h.look_ok keyS Tryd.underlying75 (zeroI w) (plainElem_int Tryd.underlying3 (by decide)) (keyOf_str hs)
  obtain ⟨c, rfl, hc, _⟩ := plainElem_int_inv Tryd.underlying3 hv
  obtain ⟨d1, d2⟩ := hD s
  rw [d1] at hrun
  have hc1 : D.atKey (.string s) (.lit (.int .i64 0)) = .lit (.int .i64 c) := congrArg Prod.fst hc
  have : numOf L s = c := by
    unfold numOf
    split
    · next hneg =>
      have hf : Maps.has D (.string s) = false := by rw [d1]; exact decide_eq_false (by omega)
      rw [atKey_of_not_has hf] at hc1
      simpa using hc1
    · next hpos =>
      rw [d2 (by omega)] at hc1
      simpa using hc1
  rw [this]
  exact hrun
/-- a name that stands there already -/
theorem Nums.again {s : Bs} (h : Nums w b n L) (hs : 0 ≤ place 0 L s) : Nums w b n (L ++ [s]) := by
  obtain ⟨D, h, hD⟩ := h
  refine ⟨D, h, fun t => ?_⟩
  have e : place 0 (L ++ [s]) t = place 0 L t := by
    rw [place_snoc L 0 s t (by omega)]
    by_cases h1 : place 0 L t < 0
    · have hne : ¬ s = t := fun e => by subst e; omega
      rw [if_pos h1, if_neg hne]
      rcases place_nat L 0 t (by omega) with h2 | h2
      · exact h2.2.symm
      · omega
    · rw [if_neg h1]
  rw [e]
  exact hD t
set_option maxRecDepth 100000 in
theorem Nums.put {s : Bs} {m : Int} (h : Nums w b n L) (hs : s.length ≤ 9223372036854775807) (hn : n < 9223372036854775807) (hnew : place 0 L s < 0) (hm : m = L.length) (hL : L.length ≤ 9223372036854775807) :
    ∃ w', (Instr.mapUpdate 75 (.map (some b)) (.string (str s)) (.int .i64 m)).run Tryd.prog w = .ok () w' ∧ Nums w' b (n + 1) (L ++ [s]) ∧ w.grownBy w' (some b) := by
  subst hm
  obtain ⟨D, h, hD⟩ := h
  have hwf : (Lit.int .i64 (L.length : Int)).wf = true := WalkArith.wf_i64 (by omega)
  obtain ⟨w', hrun, h1, h2⟩ := h.update keyS Tryd.underlying75 (by unfold maxLen; omega) (keyOf_str hs) (plainElem_int Tryd.underlying3 hwf)
  refine ⟨w', hrun, ⟨_, h1, fun t => ?_⟩, h2⟩
  rw [place_snoc L 0 s t (by omega)]
  by_cases e : s = t
  · subst e
    rw [if_pos hnew, if_pos rfl, atKey_put_same h.isMap (keyLit _), has_put_same h.isMap (keyLit _)]
    refine ⟨(decide_eq_true (by omega)).symm, fun _ => ?_⟩
    rw [Int.zero_add]
  · have hne : (Lit.string t) ≠ .string s := fun h => e (by injection h with h; exact h.symm)
    rw [atKey_put_other hne, has_put_other hne]
    by_cases h3 : place 0 L t < 0
    · rw [if_pos h3, if_neg e, (hD t).1, decide_eq_false (by omega), decide_eq_false (by omega)]
      exact ⟨rfl, fun h => by omega⟩
    · rw [if_neg h3]
      exact hD t
end

set_option maxRecDepth 100000 in
/-- the store of a number, for the walk -/
theorem wpList_num (w : World) {ops : Array Oper} {rest : List Oper} {o : Oper} {a : Act} {Q : Exit → Act → World → Prop} (hg : o.guard = none) (m x v : Operand) (hop : o.op = Op.mapUpdate 75 m x v)
    (b n : Nat) (L : List Bs) (s : Bs) (z : Int) (hm : a.eval m = .map (some b)) (h : Nums w b n L) (hs : s.length ≤ 9223372036854775807) (hn : n < 9223372036854775807) (hnew : place 0 L s < 0) (hz : z = L.length) (hL : L.length ≤ 9223372036854775807)
    (hx : a.eval x = .string (str s)) (hv : a.eval v = .int .i64 z)
    (hK : ∀ w', Nums w' b (n + 1) (L ++ [s]) → w.grownBy w' (some b) → wpList Tryd.prog ops Q rest (a.put o.dst undef) w') : wpList Tryd.prog ops Q (o :: rest) a w := by
  refine wpList_plain hg fun K' hK' => ?_
  obtain ⟨w', hrun, r1, r2⟩ := h.put hs hn hnew hz hL
  unfold Oper.wp
  simp [execOp, hop, hm, hx, hv, hrun, Result.andThen]
  exact hK' _ _ (hK w' r1 r2)

set_option maxRecDepth 100000 in
/-- a map that is made, with a size that is only a hint -/
theorem make_seen (w : World) (n : Nat) : (Instr.makeMap 105 (some (.int .i64 n))).run Tryd.prog w = .ok (.map (some w.heap.size)) (w.alloc (.map #[] 0)) := by
  simp [Instr.makeMap, run_underlying Tryd.underlying105, asInt, asIntOf, Result.andThen]
end Go.Proofs.YtkfobijgjdgbgaaDoor.Keep
