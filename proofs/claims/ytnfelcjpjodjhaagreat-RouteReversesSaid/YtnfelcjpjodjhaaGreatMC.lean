/-
  Names kept in maps: a set of names, and names with their numbers, as a call makes them. No function of the program is named here.
  Contracts of the two functions that tell names.
  Contracts of the program's functions that check lists of names.
  Contracts of the program's functions that check a layout's sizes and its sections.
  Contracts of the program's functions that check the links of a layout.
  Contracts of the program's functions on the ends of links.
  The table of the ends of a layout, as the program's check of links keeps it: what it holds behind some links, and what it tells.
  Contract of the program's function that checks the links of a layout.
  Contract of the program's function that checks a layout.
  Contracts of the program's functions on steps, and of the number of resources.
-/
import Derived.Test.YtnfelcjpjodjhaaGreatMA
import Derived.Test.YtnfelcjpjodjhaaGreatMB
import Derived.Maps.OwnSet
import Derived.Maps.OwnOps
import Derived.StringKeys
import Derived.Deep.DeepCutAuto
import Derived.Deep.QuietTactic
import Derived.BigRegion
import Derived.Outline
namespace Go.Proofs.YtnfelcjpjodjhaaGreat.Keep
open Go.RowKit Go.Maps Go.ChangeMaps Go.WideMaps Wd Mem Lay LayT
set_option linter.unusedVariables false

theorem keyS : Keyed Tryz.prog 9 := string_keyed Tryz.underlying9
theorem str_toList (s : Bs) : (str s).data.toList = s := by simp [str]
theorem keyOf_str {s : Bs} (h : s.length ≤ 9223372036854775807) : keyOf Tryz.prog 9 (.string (str s)) = some (.string s) := by
  have := keyOf_string_mk (P := Tryz.prog) Tryz.underlying9 (s := str s) (by rw [size_str]; unfold maxLen; omega)
  rw [str_toList] at this
  exact this
theorem zeroB (w : World) : (zeroValue 4).run Tryz.prog w = .ok (.bool false) w := by kernel_rfl
theorem zeroI (w : World) : (zeroValue 3).run Tryz.prog w = .ok (.int .i64 0) w := by kernel_rfl
theorem keyLit (s : Bs) : WideAt.IsKeyLit (.string s) := trivial

/-! ### a set of names -/

/-- block b is a set, of at most n entries, of the names done -/
def Seen (w : World) (b n : Nat) (done : List Bs) : Prop :=
  ∃ D : DataW Unit, w.ownsMap Tryz.prog 9 (plainElem Tryz.prog 4) b n D ∧ ∀ s, D.atKey (.string s) (.lit (.bool false)) = .lit (.bool (done.contains s))
section
variable {w w' : World} {b n B : Nat} {done : List Bs}
theorem Seen.made (w : World) : Seen (w.alloc (.map #[] 0)) w.heap.size 0 [] := ⟨_, World.ownsMap_made _ _ _ _, fun s => rfl⟩
theorem Seen.lt (h : Seen w b n done) : b < w.heap.size := by obtain ⟨D, h, _⟩ := h; exact h.lt
theorem Seen.below (h : Seen w b n done) (hb : Below B w w') (hB : b < B) : Seen w' b n done := by
  obtain ⟨D, ⟨es, clock, h1, h2, h3, h4⟩, hD⟩ := h
  exact ⟨D, ⟨es, clock, (hb.block b hB).trans h1, h2, h3, h4⟩, hD⟩
theorem Seen.alloc (h : Seen w b n done) (o : Obj) : Seen (w.alloc o) b n done := by
  obtain ⟨D, h, hD⟩ := h
  exact ⟨D, h.alloc o, hD⟩
set_option maxRecDepth 100000 in
theorem bool_inv {v : Value} {z : DataW Unit × List MemPlace} (h : plainElem Tryz.prog 4 v = some z) : ∃ x, v = .bool x ∧ z = (.lit (.bool x), []) := by
  unfold plainElem at h
  rw [Tryz.underlying4] at h
  cases v <;> simp at h
  exact ⟨_, rfl, h.symm⟩
theorem Seen.look {s : Bs} (h : Seen w b n done) (hs : s.length ≤ 9223372036854775807) :
    (Instr.lookup 151 (.map (some b)) (.string (str s)) false).run Tryz.prog w = .ok (.bool (done.contains s)) w := by
  obtain ⟨D, h, hD⟩ := h
  obtain ⟨v, ps, hrun, hv⟩ := h.lookup keyS Tryz.underlying151 (zeroB w) (plainElem_bool Tryz.underlying4 false) (keyOf_str hs)
  obtain ⟨x, rfl, hx⟩ := bool_inv hv
  rw [hD s] at hx
  have : done.contains s = x := by
    have h1 := congrArg Prod.fst hx
    simpa using h1
  rw [this]
  exact hrun
theorem contains_snoc (done : List Bs) (s t : Bs) : (done ++ [s]).contains t = (done.contains t || decide (t = s)) := by
  rw [Bool.eq_iff_iff]
  simp
theorem Seen.put {s : Bs} (h : Seen w b n done) (hs : s.length ≤ 9223372036854775807) (hn : n < 9223372036854775807) :
    ∃ w', (Instr.mapUpdate 151 (.map (some b)) (.string (str s)) (.bool true)).run Tryz.prog w = .ok () w' ∧ Seen w' b (n + 1) (done ++ [s]) ∧ w.grownBy w' (some b) := by
  obtain ⟨D, h, hD⟩ := h
  obtain ⟨w', hrun, h1, h2⟩ := h.update keyS Tryz.underlying151 (by unfold maxLen; omega) (keyOf_str hs) (plainElem_bool Tryz.underlying4 true)
  refine ⟨w', hrun, ⟨_, h1, fun t => ?_⟩, h2⟩
  rw [contains_snoc]
  by_cases e : t = s
  · subst e
    rw [atKey_put_same h.isMap (keyLit _)]
    simp
  · rw [atKey_put_other (by simpa using e), hD t]
    simp [e]
end

set_option maxRecDepth 100000 in
/-- the store into a set, for the walk -/
theorem wpList_seen (w : World) {ops : Array Oper} {rest : List Oper} {o : Oper} {a : Act} {Q : Exit → Act → World → Prop} (hg : o.guard = none) (m x v : Operand) (hop : o.op = Op.mapUpdate 151 m x v)
    (b n : Nat) (done : List Bs) (s : Bs) (hm : a.eval m = .map (some b)) (h : Seen w b n done) (hs : s.length ≤ 9223372036854775807) (hn : n < 9223372036854775807) (hx : a.eval x = .string (str s)) (hv : a.eval v = .bool true)
    (hK : ∀ w', Seen w' b (n + 1) (done ++ [s]) → w.grownBy w' (some b) → wpList Tryz.prog ops Q rest (a.put o.dst undef) w') : wpList Tryz.prog ops Q (o :: rest) a w := by
  refine wpList_plain hg fun K' hK' => ?_
  obtain ⟨w', hrun, r1, r2⟩ := h.put hs hn
  unfold Oper.wp
  simp [execOp, hop, hm, hx, hv, hrun, Result.andThen]
  exact hK' _ _ (hK w' r1 r2)

/-! ### numbered names -/

theorem place_nat : ∀ (L : List Bs) (k : Int) (s : Bs), 0 ≤ k → (place k L s < 0 ∧ place k L s = -1) ∨ k ≤ place k L s
  | [], k, s, hk => .inl ⟨by show (-1 : Int) < 0; decide, rfl⟩
  | a :: r, k, s, hk => by
    unfold place
    split
    · exact .inr (Int.le_refl _)
    · rcases place_nat r (k + 1) s (by omega) with h | h
      · exact .inl h
      · exact .inr (by omega)
theorem place_snoc : ∀ (L : List Bs) (k : Int) (s t : Bs), 0 ≤ k → place k (L ++ [s]) t = if place k L t < 0 then (if s = t then k + L.length else -1) else place k L t
  | [], k, s, t, hk => by simp [place]
  | a :: r, k, s, t, hk => by
    have ih := place_snoc r (k + 1) s t (by omega)
    have e1 : place k (a :: r ++ [s]) t = if a = t then k else place (k + 1) (r ++ [s]) t := rfl
    have e2 : place k (a :: r) t = if a = t then k else place (k + 1) r t := rfl
    have e3 : ((a :: r).length : Int) = r.length + 1 := by simp
    by_cases e : a = t
    · rw [if_pos e] at e1 e2
      have h : ¬ place k (a :: r) t < 0 := by omega
      rw [if_neg h, e1, e2]
    · rw [if_neg e] at e1 e2
      by_cases h : place (k + 1) r t < 0
      · have h' : place k (a :: r) t < 0 := by omega
        rw [if_pos h] at ih
        rw [if_pos h', e1, ih]
        by_cases h2 : s = t
        · rw [if_pos h2, if_pos h2]; omega
        · rw [if_neg h2, if_neg h2]
      · have h' : ¬ place k (a :: r) t < 0 := by omega
        rw [if_neg h] at ih
        rw [if_neg h', e1, ih, e2]
/-- block b holds, in at most n entries, the number of each name of the list L: the first place where it stands -/
def Nums (w : World) (b n : Nat) (L : List Bs) : Prop :=
  ∃ D : DataW Unit, w.ownsMap Tryz.prog 9 (plainElem Tryz.prog 3) b n D ∧ ∀ s, Maps.has D (.string s) = decide (0 ≤ place 0 L s) ∧ (0 ≤ place 0 L s → D.atKey (.string s) (.lit (.int .i64 0)) = .lit (.int .i64 (place 0 L s)))
/-- what a look-up answers -/
def numOf (L : List Bs) (s : Bs) : Int := if place 0 L s < 0 then 0 else place 0 L s
section
variable {w w' : World} {b n B : Nat} {L : List Bs}
theorem Nums.made (w : World) : Nums (w.alloc (.map #[] 0)) w.heap.size 0 [] := ⟨_, World.ownsMap_made _ _ _ _, fun s => ⟨rfl, fun h => absurd h (by show ¬ (0 : Int) ≤ -1; decide)⟩⟩
theorem Nums.lt (h : Nums w b n L) : b < w.heap.size := by obtain ⟨D, h, _⟩ := h; exact h.lt
theorem Nums.below (h : Nums w b n L) (hb : Below B w w') (hB : b < B) : Nums w' b n L := by
  obtain ⟨D, ⟨es, clock, h1, h2, h3, h4⟩, hD⟩ := h
  exact ⟨D, ⟨es, clock, (hb.block b hB).trans h1, h2, h3, h4⟩, hD⟩
theorem Nums.kept {row : Option Nat} (h : Nums w b n L) (hg : w.grownBy w' row) (hne : some b ≠ row) : Nums w' b n L := by
  obtain ⟨D, h, hD⟩ := h
  exact ⟨D, h.kept hg hne, hD⟩
theorem Nums.alloc (h : Nums w b n L) (o : Obj) : Nums (w.alloc o) b n L := h.kept (World.grownBy_alloc w o none) (by simp)
theorem Nums.drewN (h : Nums w b n L) (k : Nat) : Nums (w.drewN k) b n L := h
theorem Nums.mono {n' : Nat} (h : Nums w b n L) (hn : n ≤ n') : Nums w b n' L := by
  obtain ⟨D, h, hD⟩ := h
  exact ⟨D, h.mono hn, hD⟩
/-- a name that stands there already -/
theorem Nums.again {s : Bs} (h : Nums w b n L) (hs : 0 ≤ place 0 L s) : Nums w b n (L ++ [s]) := by
  obtain ⟨D, h, hD⟩ := h
  refine ⟨D, h, fun t => ?_⟩
  have e : place 0 (L ++ [s]) t = place 0 L t := by
    rw [place_snoc L 0 s t (by omega)]
    by_cases h1 : place 0 L t < 0
    · have hne : ¬ s = t := fun e => by subst e; omega
      rw [if_pos h1, if_neg hne]
      rcases place_nat L 0 t (by omega) with h2 | h2
      · exact h2.2.symm
      · omega
    · rw [if_neg h1]
  rw [e]
  exact hD t
end

set_option maxRecDepth 100000 in
/-- a map that is made, with a size that is only a hint -/
theorem make_seen (w : World) (n : Nat) : (Instr.makeMap 151 (some (.int .i64 n))).run Tryz.prog w = .ok (.map (some w.heap.size)) (w.alloc (.map #[] 0)) := by
  simp [Instr.makeMap, run_underlying Tryz.underlying151, asInt, asIntOf, Result.andThen]
end Go.Proofs.YtnfelcjpjodjhaaGreat.Keep

namespace Go.Proofs.YtnfelcjpjodjhaaGreat.Names
open Go.ChangeShapes Go.WideShapes Go.ChangeAt Go.RowKit Wd Small
set_option linter.unusedVariables false

set_option maxHeartbeats 400000 in
theorem p_name (s : ByteArray) (w : World) (hs : s.size ≤ 9223372036854775807) : Calls Tryz.prog 117 #[.string s] w fun e w' => e = .returned (.bool (isName (bs s))) ∧ w = w' := by
  by_cases hsz : 1 ≤ s.size ∧ s.size ≤ 12
  · obtain ⟨h1, h2⟩ := hsz
    have e := isName_drop s h1 h2
    cases hl : letter s[0] with
    | false =>
      have E : Hid (isName (bs s) = false) := by rw [hl] at e; simpa [Hid] using e
      clear e
      go_enter Tryz.func117, Tryz.ntmps117
      go_wp2_with (go_at_call 122; refine (p_letter _ _).mono ?_; rintro e w' ⟨rfl, rfl⟩; rw [hl])
      go_ret
      exact ⟨retb E.out.symm, rfl⟩
    | true =>
      have E : Hid (isName (bs s) = ((bs s).drop 1).all later) := by rw [hl] at e; simpa [Hid] using e
      clear e
      go_enter Tryz.func117, Tryz.ntmps117
      go_wp2_with (go_at_call 122; refine (p_letter _ _).mono ?_; rintro e w' ⟨rfl, rfl⟩; rw [hl])
      clear hl
      go_loopw [3] (fun i wr => ∃ k : Nat, 1 ≤ k ∧ k ≤ s.size ∧ i = .int .i64 k ∧ Hid (isName (bs s) = ((bs s).drop k).all later) ∧ w = wr) (fun i _ => s.size - (intOf i).toNat)
      case atStart => exact ⟨1, Nat.le_refl _, h1, rfl, E, rfl⟩
      case round =>
        obtain ⟨k, hk1, hk, rfl, HE, rfl⟩ := hrel
        clear E
        by_cases hlt : k < s.size
        · have HP : Hid (isName (bs s) = (later s[k] && ((bs s).drop (k + 1)).all later)) := by
            have := HE.out
            rw [bs_drop s k hlt] at this
            simpa [Hid] using this
          clear HE
          cases hl : letter s[k] with
          | true =>
            have HQ : Hid (isName (bs s) = ((bs s).drop (k + 1)).all later) := by have := HP.out; rw [later, hl] at this; simpa [Hid] using this
            clear HP
            go_wp2_with (go_at_call 122; refine (p_letter _ _).mono ?_; rintro e w' ⟨rfl, rfl⟩; rw [hl])
            go_roundw
            case rel => exact ⟨k + 1, by omega, by omega, by go_num, HQ, by trivial⟩
            case measure => simp [intOf]; omega
          | false =>
            cases hd : digit s[k] with
            | true =>
              have HQ : Hid (isName (bs s) = ((bs s).drop (k + 1)).all later) := by have := HP.out; rw [later, hl, hd] at this; simpa [Hid] using this
              clear HP
              go_wp2_with first
                | (go_at_call 122; refine (p_letter _ _).mono ?_; rintro e w' ⟨rfl, rfl⟩; rw [hl])
                | (go_at_call 123; refine (p_digit _ _).mono ?_; rintro e w' ⟨rfl, rfl⟩; rw [hd])
              go_roundw
              case rel => exact ⟨k + 1, by omega, by omega, by go_num, HQ, by trivial⟩
              case measure => simp [intOf]; omega
            | false =>
              have HQ := Lib.hid (HP.out)
              rw [later_eq _ hl hd] at HQ
              clear HP
              go_wp2_with first
                | (go_at_call 122; refine (p_letter _ _).mono ?_; rintro e w' ⟨rfl, rfl⟩; rw [hl])
                | (go_at_call 123; refine (p_digit _ _).mono ?_; rintro e w' ⟨rfl, rfl⟩; rw [hd])
              · have hu : ((s[k].toNat : Int) != 95) = true := by assumption
                have hu2 : decide ((s[k].toNat : Int) = 95) = false := by simpa using hu
                have HR : Hid (isName (bs s) = false) := by have := HQ.out; rw [hu2, Bool.false_and] at this; exact this
                clear hu hu2 HQ
                go_ret
                exact ⟨retb HR.out.symm, rfl⟩
              · have hu : ((s[k].toNat : Int) != 95) = false := by assumption
                have hu2 : decide ((s[k].toNat : Int) = 95) = true := by simpa using hu
                have HR : Hid (isName (bs s) = ((bs s).drop (k + 1)).all later) := by have := HQ.out; rw [hu2, Bool.true_and] at this; exact this
                clear hu hu2 HQ
                go_roundw
                case rel => exact ⟨k + 1, by omega, by omega, by go_num, HR, by trivial⟩
                case measure => simp [intOf]; omega
        · have HQ : Hid (isName (bs s) = true) := by
            have := HE.out
            rw [bs_drop_nil s k (by omega)] at this
            simpa [Hid] using this
          clear HE
          go_wp2_with (fail)
          go_ret
          exact ⟨retb HQ.out.symm, rfl⟩
  · have E : Hid (isName (bs s) = false) := isName_no s hsz
    go_enter Tryz.func117, Tryz.ntmps117
    go_wp2_with (fail)
    all_goals first
      | (go_ret; exact ⟨retb E.out.symm, rfl⟩)
      | exact absurd ⟨by omega, by omega⟩ hsz

set_option maxHeartbeats 400000 in
theorem r_name (s : ByteArray) (w : World) (hs : s.size ≤ 9223372036854775807) : Calls Tryz.prog 90 #[.string s] w fun e w' => e = .returned (.bool (isName (bs s))) ∧ w = w' := by
  by_cases hsz : 1 ≤ s.size ∧ s.size ≤ 12
  · obtain ⟨h1, h2⟩ := hsz
    have e := isName_drop s h1 h2
    cases hl : letter s[0] with
    | false =>
      have E : Hid (isName (bs s) = false) := by rw [hl] at e; simpa [Hid] using e
      clear e
      go_enter Tryz.func90, Tryz.ntmps90
      go_wp2_with (go_at_call 115; refine (r_letter _ _).mono ?_; rintro e w' ⟨rfl, rfl⟩; rw [hl])
      go_ret
      exact ⟨retb E.out.symm, rfl⟩
    | true =>
      have E : Hid (isName (bs s) = ((bs s).drop 1).all later) := by rw [hl] at e; simpa [Hid] using e
      clear e
      go_enter Tryz.func90, Tryz.ntmps90
      go_wp2_with (go_at_call 115; refine (r_letter _ _).mono ?_; rintro e w' ⟨rfl, rfl⟩; rw [hl])
      clear hl
      go_loopw [3] (fun i wr => ∃ k : Nat, 1 ≤ k ∧ k ≤ s.size ∧ i = .int .i64 k ∧ Hid (isName (bs s) = ((bs s).drop k).all later) ∧ w = wr) (fun i _ => s.size - (intOf i).toNat)
      case atStart => exact ⟨1, Nat.le_refl _, h1, rfl, E, rfl⟩
      case round =>
        obtain ⟨k, hk1, hk, rfl, HE, rfl⟩ := hrel
        clear E
        by_cases hlt : k < s.size
        · have HP : Hid (isName (bs s) = (later s[k] && ((bs s).drop (k + 1)).all later)) := by
            have := HE.out
            rw [bs_drop s k hlt] at this
            simpa [Hid] using this
          clear HE
          cases hl : letter s[k] with
          | true =>
            have HQ : Hid (isName (bs s) = ((bs s).drop (k + 1)).all later) := by have := HP.out; rw [later, hl] at this; simpa [Hid] using this
            clear HP
            go_wp2_with (go_at_call 115; refine (r_letter _ _).mono ?_; rintro e w' ⟨rfl, rfl⟩; rw [hl])
            go_roundw
            case rel => exact ⟨k + 1, by omega, by omega, by go_num, HQ, by trivial⟩
            case measure => simp [intOf]; omega
          | false =>
            cases hd : digit s[k] with
            | true =>
              have HQ : Hid (isName (bs s) = ((bs s).drop (k + 1)).all later) := by have := HP.out; rw [later, hl, hd] at this; simpa [Hid] using this
              clear HP
              go_wp2_with first
                | (go_at_call 115; refine (r_letter _ _).mono ?_; rintro e w' ⟨rfl, rfl⟩; rw [hl])
                | (go_at_call 116; refine (r_digit _ _).mono ?_; rintro e w' ⟨rfl, rfl⟩; rw [hd])
              go_roundw
              case rel => exact ⟨k + 1, by omega, by omega, by go_num, HQ, by trivial⟩
              case measure => simp [intOf]; omega
            | false =>
              have HQ := Lib.hid (HP.out)
              rw [later_eq _ hl hd] at HQ
              clear HP
              go_wp2_with first
                | (go_at_call 115; refine (r_letter _ _).mono ?_; rintro e w' ⟨rfl, rfl⟩; rw [hl])
                | (go_at_call 116; refine (r_digit _ _).mono ?_; rintro e w' ⟨rfl, rfl⟩; rw [hd])
              · have hu : ((s[k].toNat : Int) != 95) = true := by assumption
                have hu2 : decide ((s[k].toNat : Int) = 95) = false := by simpa using hu
                have HR : Hid (isName (bs s) = false) := by have := HQ.out; rw [hu2, Bool.false_and] at this; exact this
                clear hu hu2 HQ
                go_ret
                exact ⟨retb HR.out.symm, rfl⟩
              · have hu : ((s[k].toNat : Int) != 95) = false := by assumption
                have hu2 : decide ((s[k].toNat : Int) = 95) = true := by simpa using hu
                have HR : Hid (isName (bs s) = ((bs s).drop (k + 1)).all later) := by have := HQ.out; rw [hu2, Bool.true_and] at this; exact this
                clear hu hu2 HQ
                go_roundw
                case rel => exact ⟨k + 1, by omega, by omega, by go_num, HR, by trivial⟩
                case measure => simp [intOf]; omega
        · have HQ : Hid (isName (bs s) = true) := by
            have := HE.out
            rw [bs_drop_nil s k (by omega)] at this
            simpa [Hid] using this
          clear HE
          go_wp2_with (fail)
          go_ret
          exact ⟨retb HQ.out.symm, rfl⟩
  · have E : Hid (isName (bs s) = false) := isName_no s hsz
    go_enter Tryz.func90, Tryz.ntmps90
    go_wp2_with (fail)
    all_goals first
      | (go_ret; exact ⟨retb E.out.symm, rfl⟩)
      | exact absurd ⟨by omega, by omega⟩ hsz

end Go.Proofs.YtnfelcjpjodjhaaGreat.Names

namespace Go.Proofs.YtnfelcjpjodjhaaGreat.PNames
open Go.ChangeShapes Go.WideShapes Go.ChangeAt Go.RowKit Wd Small Mem Lay Recs Keep Names
set_option linter.unusedVariables false

/-- the error of a name behind the names done -/
def nameErr (done : List Bs) (s : Bs) : Int := if isName s = false then 3 else if done.contains s then 5 else 0
theorem nameErr_bad {done : List Bs} {s : Bs} (h : isName s = false) : nameErr done s = 3 := by simp [nameErr, h]
theorem nameErr_dup {done : List Bs} {s : Bs} (h : isName s = true) (h2 : done.contains s = true) : nameErr done s = 5 := by unfold nameErr; rw [h, h2]; rfl
theorem nameErr_ok {done : List Bs} {s : Bs} (h : isName s = true) (h2 : done.contains s = false) : nameErr done s = 0 := by unfold nameErr; rw [h, h2]; rfl
theorem nameErr_len {done : List Bs} {s : Bs} (h : isName s = true) : s.length ≤ 12 := by
  cases s with
  | nil => simp
  | cons b r =>
    simp only [isName, Bool.and_eq_true, decide_eq_true_eq] at h
    simp only [List.length_cons]
    omega
theorem take_succ {α : Type} {L : List α} {k : Nat} {s : α} (h : L[k]? = some s) : L.take (k + 1) = L.take k ++ [s] := by
  rw [List.take_add_one, h]; rfl
theorem names_step {L : List Bs} {k : Nat} {s : Bs} (h : L[k]? = some s) :
    namesErr (L.take k) (L.drop k) = if nameErr (L.take k) s = 0 then namesErr (L.take (k + 1)) (L.drop (k + 1)) else nameErr (L.take k) s := by
  rw [Strs.drop_at h, take_succ h, show namesErr (L.take k) (s :: L.drop (k + 1)) = if isName s = false then 3 else if (L.take k).contains s then 5 else namesErr (L.take k ++ [s]) (L.drop (k + 1)) from rfl]
  unfold nameErr
  by_cases h1 : isName s = false
  · rw [if_pos h1, if_pos h1, if_neg (by decide)]
  · rw [if_neg h1, if_neg h1]
    by_cases h2 : (L.take k).contains s = true
    · rw [if_pos h2, if_pos h2, if_neg (by decide)]
    · rw [if_neg h2, if_neg h2, if_pos rfl]

/-- what a call leaves that adds a name to a set -/
def NamePost (b n : Nat) (done : List Bs) (s : Bs) (w : World) (e : Ending) (w' : World) : Prop :=
  e = .returned (.int .i64 (nameErr done s)) ∧ (nameErr done s = 0 → Seen w' b (n + 1) (done ++ [s])) ∧ w.grownBy w' (some b)

theorem add_name (b n : Nat) (done : List Bs) (s : Bs) (w : World) (h : Seen w b n done) (hs : s.length ≤ 9223372036854775807) (hn : n < 9223372036854775807) :
    Calls Tryz.prog 97 #[.map (some b), .string (str s)] w (NamePost b n done s w) := by
  have hl := h.look hs
  have H := Lib.hid h
  clear h
  cases hN : isName s with
  | false =>
    have E := Lib.hid (nameErr_bad (done := done) hN)
    clear hl
    go_enter Tryz.func97, Tryz.ntmps97
    go_wp2_with (go_at_call 117; refine (p_name _ _ (by rw [size_str]; omega)).mono ?_; rintro e w' ⟨rfl, rfl⟩; rw [bs_str, hN])
    go_ret
    exact ⟨ret1 E.out.symm, fun h => absurd h (by rw [E.out]; decide), World.grownBy.refl w _⟩
  | true =>
    cases hC : done.contains s with
    | true =>
      have E := Lib.hid (nameErr_dup hN hC)
      rw [hC] at hl
      clear hC
      go_enter Tryz.func97, Tryz.ntmps97
      go_wp2_with (go_at_call 117; refine (p_name _ _ (by rw [size_str]; omega)).mono ?_; rintro e w' ⟨rfl, rfl⟩; rw [bs_str, hN])
      go_ret
      exact ⟨ret1 E.out.symm, fun h => absurd h (by rw [E.out]; decide), World.grownBy.refl w _⟩
    | false =>
      have E := Lib.hid (nameErr_ok hN hC)
      rw [hC] at hl
      clear hC
      go_enter Tryz.func97, Tryz.ntmps97
      go_wp2_with (first | (go_at_call 117; refine (p_name _ _ (by rw [size_str]; omega)).mono ?_; rintro e w' ⟨rfl, rfl⟩; rw [bs_str, hN]) | (at_mapUpdate; refine wpList_seen _ rfl _ _ _ rfl b n done s rfl H.out hs hn rfl rfl ?_; intro w1 hS hg))
      go_ret
      exact ⟨ret1 E.out.symm, fun _ => hS, hg⟩

/-- what a call leaves that answers an error and has changed no old memory -/
def ErrPost (z : Int) (w : World) (e : Ending) (w' : World) : Prop := e = .returned (.int .i64 z) ∧ Below w.heap.size w w'

set_option maxHeartbeats 1000000 in
theorem check_names (A : Option Addr) (n c : Nat) (L : List Bs) (w : World) (hL : Rd sR w w.heap.size A n L) (hn : n ≤ 1000) (hsz : ∀ s ∈ L, s.length ≤ 9223372036854775807) :
    Calls Tryz.prog 70 #[.slice A n c] w (ErrPost (namesErr [] L) w) := by
  have hmm := make_seen w n
  have HS := Lib.hid (Seen.made w)
  have HB := Lib.hid ((Below.refl w.heap.size w).alloc (Nat.le_refl _) (.map #[] 0))
  have E : Hid (namesErr [] L = namesErr (L.take 0) (L.drop 0)) := rfl
  have HSZ := Lib.hid hsz
  clear hsz
  go_enter Tryz.func70, Tryz.ntmps70
  go_wp2_with fail
  clear hmm
  go_loopw [12] (fun i wr => ∃ (k : Nat), k ≤ n ∧ i = .int .i64 k ∧ Seen wr w.heap.size k (L.take k) ∧ Hid (namesErr [] L = namesErr (L.take k) (L.drop k)) ∧ Below w.heap.size w wr) (fun i _ => n - (intOf i).toNat)
  case atStart => exact ⟨0, Nat.zero_le _, rfl, HS.out, E, HB.out⟩
  case round =>
    obtain ⟨k, hk, rfl, hS, HE, hbw⟩ := hrel
    clear HS HB E
    by_cases hlt : k < n
    · obtain ⟨ad, s, rfl, hab, hs, c0⟩ := loadS (hL.below hbw) hlt
      have hsl := HSZ.out s (List.mem_of_getElem? hs)
      have HX := Lib.hid (HE.out.trans (names_step hs))
      have HT := Lib.hid (take_succ hs)
      have hgb := hS.lt
      have HSn := Lib.hid hS
      have hz := hbw.size
      clear hs HE hL hS
      cases hz0 : decide (nameErr (L.take k) s = 0) with
      | true =>
        have h0 := of_decide_eq_true hz0
        have HX2 : Hid (namesErr [] L = namesErr (L.take (k + 1)) (L.drop (k + 1))) := by rw [Hid, HX.out, if_pos h0]
        clear HX hz0
        go_wp2_with fail
        refine (add_name w.heap.size k (L.take k) s _ HSn.out hsl (by omega)).mono ?_
        rintro e w1 ⟨rfl, hS1, hg1⟩
        have hS2 := hS1 h0
        rw [← HT.out] at hS2
        have hb1 : Below w.heap.size w w1 := hbw.grown hg1 hz (fun j hj => by injection hj with hj; omega)
        rw [h0]
        clear hS1 hg1 h0 HT HSn
        go_wp2_with fail
        go_roundw
        case rel => exact ⟨k + 1, by omega, by go_num, hS2, HX2, hb1⟩
        case measure => simp [intOf]; omega
      | false =>
        have h0 := of_decide_eq_false hz0
        have HX2 : Hid (namesErr [] L = nameErr (L.take k) s) := by rw [Hid, HX.out, if_neg h0]
        clear HX hz0
        go_wp2_with fail
        refine (add_name w.heap.size k (L.take k) s _ HSn.out hsl (by omega)).mono ?_
        rintro e w1 ⟨rfl, hS1, hg1⟩
        have hb1 : Below w.heap.size w w1 := hbw.grown hg1 hz (fun j hj => by injection hj with hj; omega)
        clear hS1 hg1 HT HSn
        have hne : ((nameErr (L.take k) s : Int) != 0) = true := by rw [bne_iff_ne]; exact h0
        clear h0
        generalize nameErr (L.take k) s = z at *
        go_wp2_with fail
        go_ret
        exact ⟨ret1 HX2.out.symm, hb1⟩
    · have HX : Hid (namesErr [] L = 0) := by rw [Hid, HE.out, List.drop_eq_nil_of_le (by have := hL.1; omega)]; rfl
      clear HE hL hS
      go_wp2_with fail
      go_ret
      exact ⟨ret1 HX.out.symm, hbw⟩
end Go.Proofs.YtnfelcjpjodjhaaGreat.PNames

namespace Go.Proofs.YtnfelcjpjodjhaaGreat.PSecs
open Go.ChangeShapes Go.WideShapes Go.ChangeAt Go.RowKit Wd Small Mem Lay Recs Keep Names PNames
set_option linter.unusedVariables false

def btw (x lo hi : Int) : Bool := decide (lo ≤ x) && decide (x ≤ hi)
def nof (x n : Int) : Bool := decide (0 ≤ x) && decide (x < n)
theorem is_between (x lo hi : Int) (w : World) : Calls Tryz.prog 118 #[.int .i64 x, .int .i64 lo, .int .i64 hi] w (Says (btw x lo hi) w) := by
  have E : Hid (btw x lo hi = (decide (lo ≤ x) && decide (x ≤ hi))) := rfl
  go_enter Tryz.func118, Tryz.ntmps118
  go_wp2
  all_goals go_ret
  all_goals exact ⟨retb (by rw [E.out, Bool.eq_iff_iff]; simp; omega), rfl⟩
theorem is_number (x n : Int) (w : World) : Calls Tryz.prog 68 #[.int .i64 x, .int .i64 n] w (Says (nof x n) w) := by
  have E : Hid (nof x n = (decide (0 ≤ x) && decide (x < n))) := rfl
  go_enter Tryz.func68, Tryz.ntmps68
  go_wp2
  all_goals go_ret
  all_goals exact ⟨retb (by rw [E.out, Bool.eq_iff_iff]; simp; omega), rfl⟩

/-- are the numbers of a section in their ranges (q stations) -/
def inS (q : Nat) (s : Sec) : Bool := btw s.len 1 400 && (btw s.lim 1000 100000 && (btw s.grade (-40) 40 && ((s.st == -1) || nof s.st q)))
theorem secErr_eq (q : Nat) (s : Sec) : secErr q s = if inS q s = true then 0 else 4 := by
  unfold secErr
  congr 1
  simp only [inS, btw, nof, Bool.and_eq_true, Bool.or_eq_true, decide_eq_true_eq, beq_iff_eq, eq_iff_iff]
  omega

/-- what a call leaves that answers a bool and has changed no old memory -/
def BoolPost (b : Bool) (w : World) (e : Ending) (w' : World) : Prop := e = .returned (.bool b) ∧ Below w.heap.size w w'

set_option maxRecDepth 100000 in
theorem is_section (v : LV) (s : Sec) (w : World) : Calls Tryz.prog 98 #[v.val, .agg #[.string (str s.name), .int .i64 s.len, .int .i64 s.lim, .int .i64 s.grade, .int .i64 s.st]] w (BoolPost (inS v.n1 s) w) := by
  have E : Hid (inS v.n1 s = (btw s.len 1 400 && (btw s.lim 1000 100000 && (btw s.grade (-40) 40 && ((s.st == -1) || nof s.st v.n1))))) := rfl
  obtain ⟨A1, n1, c1, A2, n2, c2, A3, n3, c3, A4, n4, c4⟩ := v
  obtain ⟨nm, len, lim, gr, st⟩ := s
  simp only [LV.val] at E ⊢
  go_enter Tryz.func98, Tryz.ntmps98
  cases h1 : btw len 1 400 <;> cases h2 : btw lim 1000 100000 <;> cases h3 : btw gr (-40) 40 <;> cases h4 : (st == -1) <;> cases h5 : nof st n1
  all_goals
    rw [h1, h2, h3, h4, h5] at E
    go_wp2_with (first | (go_at_call 118; refine (is_between _ _ _ _).mono ?_; rintro e w' ⟨rfl, rfl⟩; (first | rw [h1] | rw [h2] | rw [h3])) | (go_at_call 68; refine (is_number _ _ _).mono ?_; rintro e w' ⟨rfl, rfl⟩; rw [h5]))
    go_ret
    exact ⟨retb E.out.symm, ((Below.refl _ _).alloc (Nat.le_refl _) _).alloc (by simp) _⟩

/-- the first error of the lists' lengths -/
def sizeErr (n1 n2 n3 n4 : Nat) : Int := if 24 < n1 ∨ 48 < n2 ∨ 96 < n3 ∨ 192 < n4 then 7 else if n3 = 0 then 1 else 0
theorem check_sizes (v : LV) (w : World) (h1 : v.n1 ≤ 9223372036854775807) (h2 : v.n2 ≤ 9223372036854775807) (h3 : v.n3 ≤ 9223372036854775807) (h4 : v.n4 ≤ 9223372036854775807) :
    Calls Tryz.prog 69 #[v.val] w (ErrPost (sizeErr v.n1 v.n2 v.n3 v.n4) w) := by
  obtain ⟨A1, n1, c1, A2, n2, c2, A3, n3, c3, A4, n4, c4⟩ := v
  simp only [LV.val] at *
  have E : Hid (sizeErr n1 n2 n3 n4 = if 24 < n1 ∨ 48 < n2 ∨ 96 < n3 ∨ 192 < n4 then 7 else if n3 = 0 then 1 else 0) := rfl
  go_enter Tryz.func69, Tryz.ntmps69
  go_wp2
  all_goals go_ret
  all_goals refine ⟨ret1 ?_, (Below.refl _ _).alloc (Nat.le_refl _) _⟩
  all_goals rw [E.out]
  all_goals simp at *
  all_goals repeat' split
  all_goals first | rfl | omega

theorem secs_step {q : Nat} {L : List Sec} {k : Nat} {s : Sec} (h : L[k]? = some s) :
    secsErr q ((L.map Sec.name).take k) (L.drop k) = if nameErr ((L.map Sec.name).take k) s.name = 0 then (if inS q s = true then secsErr q ((L.map Sec.name).take (k + 1)) (L.drop (k + 1)) else 4) else nameErr ((L.map Sec.name).take k) s.name := by
  have h' : (L.map Sec.name)[k]? = some s.name := by simp [h]
  rw [Strs.drop_at h, take_succ h', show secsErr q ((L.map Sec.name).take k) (s :: L.drop (k + 1)) = if isName s.name = false then 3 else if ((L.map Sec.name).take k).contains s.name then 5 else if secErr q s = 0 then secsErr q ((L.map Sec.name).take k ++ [s.name]) (L.drop (k + 1)) else secErr q s from rfl, secErr_eq]
  unfold nameErr
  by_cases h1 : isName s.name = false
  · rw [if_pos h1, if_pos h1, if_neg (by decide)]
  · rw [if_neg h1, if_neg h1]
    by_cases h2 : ((L.map Sec.name).take k).contains s.name = true
    · rw [if_pos h2, if_pos h2, if_neg (by decide)]
    · rw [if_neg h2, if_neg h2, if_pos rfl]
      by_cases h3 : inS q s = true
      · rw [if_pos h3, if_pos h3, if_pos rfl]
      · rw [if_neg h3, if_neg h3, if_neg (by decide)]

theorem grown_cell {w w' : World} {row : Option Nat} {p : Addr} (hg : w.grownBy w' row) (hp : p.block < w.heap.size) (hne : some p.block ≠ row) : w'.cell? p = w.cell? p := World.cell?_of_block (hg.block p.block hp hne)

/-- the box of a layout: the world behind it, and what of it a walk needs -/
theorem boxed (v : LV) (w : World) : ∃ W, w.alloc (.cells #[.slice v.A1 v.n1 v.c1, .slice v.A2 v.n2 v.c2, .slice v.A3 v.n3 v.c3, .slice v.A4 v.n4 v.c4] 26) = W ∧ Hid (W.heap.size = w.heap.size + 1) ∧ Below w.heap.size w W ∧
    W.cell? ⟨w.heap.size, 0, none⟩ = some (.slice v.A1 v.n1 v.c1) ∧ W.cell? ⟨w.heap.size, 1, none⟩ = some (.slice v.A2 v.n2 v.c2) ∧ W.cell? ⟨w.heap.size, 2, none⟩ = some (.slice v.A3 v.n3 v.c3) ∧ W.cell? ⟨w.heap.size, 3, none⟩ = some (.slice v.A4 v.n4 v.c4) :=
  ⟨_, rfl, by rw [Hid]; simp, (Below.refl _ _).alloc (Nat.le_refl _) _, by simp, by simp, by simp, by simp⟩
/-- the box of a layout still lies where it lay -/
theorem box_kept {W wr : World} {g : Nat} {v : LV} (hb : Below W.heap.size W wr) (hg : g < W.heap.size) (h : W.cell? ⟨g, 0, none⟩ = some (.slice v.A1 v.n1 v.c1) ∧ W.cell? ⟨g, 1, none⟩ = some (.slice v.A2 v.n2 v.c2) ∧ W.cell? ⟨g, 2, none⟩ = some (.slice v.A3 v.n3 v.c3) ∧ W.cell? ⟨g, 3, none⟩ = some (.slice v.A4 v.n4 v.c4)) :
    wr.cell? ⟨g, 0, none⟩ = some (.slice v.A1 v.n1 v.c1) ∧ wr.cell? ⟨g, 1, none⟩ = some (.slice v.A2 v.n2 v.c2) ∧ wr.cell? ⟨g, 2, none⟩ = some (.slice v.A3 v.n3 v.c3) ∧ wr.cell? ⟨g, 3, none⟩ = some (.slice v.A4 v.n4 v.c4) :=
  ⟨(hb.cell (p := ⟨g, 0, none⟩) hg).trans h.1, (hb.cell (p := ⟨g, 1, none⟩) hg).trans h.2.1, (hb.cell (p := ⟨g, 2, none⟩) hg).trans h.2.2.1, (hb.cell (p := ⟨g, 3, none⟩) hg).trans h.2.2.2⟩

set_option maxRecDepth 100000 in
set_option maxHeartbeats 1000000 in
theorem check_sections (v : LV) (l : Lay) (w : World) (hL : RdL w w.heap.size v l) (hn : v.n3 ≤ 96) : Calls Tryz.prog 71 #[v.val] w (ErrPost (secsErr v.n1 [] l.sections) w) := by
  have hR := hL.sec
  have HSZ := Lib.hid hL.sz3
  clear hL
  have HSP := Lib.hid (fun s => is_section v s)
  obtain ⟨W, hW, HZ, HB0, HC0⟩ := boxed v w
  have HC := Lib.hid HC0
  have hr := hR.grow HB0 (show w.heap.size ≤ W.heap.size by have := HB0.size; omega)
  have hgW : w.heap.size < W.heap.size := by rw [HZ.out]; omega
  have HB := Lib.hid HB0
  clear hR HB0 HC0
  have hkeep : ∀ wr, Below W.heap.size W wr → _ := fun wr hb => box_kept hb hgW HC.out
  have HK := Lib.hid hkeep
  obtain ⟨c0, c1', c2', c3'⟩ := HC.out
  obtain ⟨A1, n1, c1, A2, n2, c2, A3, n3, c3, A4, n4, c4⟩ := v
  simp only [LV.val] at *
  have E : Hid (secsErr n1 [] l.sections = secsErr n1 ((l.sections.map Sec.name).take 0) (l.sections.drop 0)) := rfl
  have hmm := make_seen W n3
  have HS := Lib.hid (Seen.made W)
  have HBM := Lib.hid ((Below.refl W.heap.size W).alloc (Nat.le_refl _) (.map #[] 0))
  clear hkeep
  go_enter Tryz.func71, Tryz.ntmps71
  go_upto_region 1 with fail
  clear hW
  go_wp2_with fail
  clear hmm c0 c1' c2' c3'
  go_loopw [14] (fun i wr => ∃ (k : Nat), k ≤ n3 ∧ i = .int .i64 k ∧ Seen wr W.heap.size k ((l.sections.map Sec.name).take k) ∧ Hid (secsErr n1 [] l.sections = secsErr n1 ((l.sections.map Sec.name).take k) (l.sections.drop k)) ∧ Below W.heap.size W wr) (fun i _ => n3 - (intOf i).toNat)
  case atStart => exact ⟨0, Nat.zero_le _, rfl, HS.out, E, HBM.out⟩
  case round =>
    obtain ⟨k, hk, rfl, hS, HE, hbw⟩ := hrel
    clear HS HBM E
    have hzW := hbw.size
    by_cases hlt : k < n3
    · obtain ⟨ad, s, rfl, hab, hs, d0, d1, d2, d3, d4⟩ := loadSec (hr.below hbw) hlt
      obtain ⟨c0, c1', c2', c3'⟩ := HK.out wr hbw
      have hsl := HSZ.out s (List.mem_of_getElem? hs)
      have HX := Lib.hid (HE.out.trans (secs_step hs))
      have HT := Lib.hid (take_succ (L := l.sections.map Sec.name) (k := k) (s := s.name) (by simp [hs]))
      have hgb := hS.lt
      obtain ⟨wa, hwa⟩ : ∃ wa, wr.alloc (.cells #[.string (str s.name), .int .i64 s.len, .int .i64 s.lim, .int .i64 s.grade, .int .i64 s.st] 81) = wa := ⟨_, rfl⟩
      have hba : Below wr.heap.size wr wa := by rw [← hwa]; exact (Below.refl _ _).alloc (Nat.le_refl _) _
      have HSn := Lib.hid (hS.below hba hgb)
      have hbw' := hbw.trans (hba.mono hzW)
      have hza : wr.heap.size < wa.heap.size := by rw [← hwa]; simp
      clear hs HE hr hS
      have e0 : wa.cell? ⟨wr.heap.size, 0, none⟩ = some (.string (str s.name)) := by rw [← hwa]; simp
      have HE5 := Lib.hid (show wa.cell? ⟨wr.heap.size, 1, none⟩ = some (.int .i64 s.len) ∧ wa.cell? ⟨wr.heap.size, 2, none⟩ = some (.int .i64 s.lim) ∧ wa.cell? ⟨wr.heap.size, 3, none⟩ = some (.int .i64 s.grade) ∧ wa.cell? ⟨wr.heap.size, 4, none⟩ = some (.int .i64 s.st) by rw [← hwa]; simp)
      clear c0 c1' c2' c3'
      go_upto_region 5 with fail
      clear hwa
      go_wp2_with fail
      refine (add_name W.heap.size k _ s.name _ HSn.out hsl (by omega)).mono ?_
      rintro e w1 ⟨rfl, hS1, hg1⟩
      have hb1 : Below W.heap.size W w1 := hbw'.grown hg1 (by omega) (fun j hj => by injection hj with hj; omega)
      have hz1 : wa.heap.size ≤ w1.heap.size := hg1.size
      have k0 := (grown_cell (p := ⟨wr.heap.size, 0, none⟩) hg1 hza (by simp; omega)).trans e0
      have k1 := (grown_cell (p := ⟨wr.heap.size, 1, none⟩) hg1 hza (by simp; omega)).trans HE5.out.1
      have k2 := (grown_cell (p := ⟨wr.heap.size, 2, none⟩) hg1 hza (by simp; omega)).trans HE5.out.2.1
      have k3 := (grown_cell (p := ⟨wr.heap.size, 3, none⟩) hg1 hza (by simp; omega)).trans HE5.out.2.2.1
      have k4 := (grown_cell (p := ⟨wr.heap.size, 4, none⟩) hg1 hza (by simp; omega)).trans HE5.out.2.2.2
      obtain ⟨c0, c1', c2', c3'⟩ := HK.out w1 hb1
      have HS1 := Lib.hid hS1
      clear d0 d1 d2 d3 d4 e0 HE5 hS1 hg1 HSn
      cases hz0 : decide (nameErr ((l.sections.map Sec.name).take k) s.name = 0) with
      | true =>
        have h0 := of_decide_eq_true hz0
        have HS2 := Lib.hid (HS1.out h0)
        rw [← HT.out] at HS2
        have HX2 := HX.out
        rw [if_pos h0] at HX2
        have HX3 := Lib.hid HX2
        rw [h0]
        clear hz0 HX HX2 HS1 h0 HT
        go_wp2_with fail
        refine (HSP.out s w1).mono ?_
        rintro e w2 ⟨rfl, hb2⟩
        have hb3 := hb1.trans (hb2.mono (by omega))
        have HS3 := Lib.hid (HS2.out.below hb2 (by have := HS2.out.lt; omega))
        cases hI : inS n1 s with
        | true =>
          have HX4 := HX3.out
          rw [if_pos hI] at HX4
          have HX5 := Lib.hid HX4
          clear hI HX3 HX4 hb2 HS2 k0 k1 k2 k3 k4 c0 c1' c2' c3'
          go_wp2_with fail
          go_roundw
          case rel => exact ⟨k + 1, by omega, by go_num, HS3.out, HX5, hb3⟩
          case measure => simp [intOf]; omega
        | false =>
          have HX4 := HX3.out
          rw [if_neg (by rw [hI]; decide)] at HX4
          have HX5 := Lib.hid HX4
          clear hI HX3 HX4 hb2 HS2 k0 k1 k2 k3 k4 c0 c1' c2' c3'
          go_wp2_with fail
          go_ret
          exact ⟨ret1 HX5.out.symm, HB.out.trans (hb3.mono (by omega))⟩
      | false =>
        have h0 := of_decide_eq_false hz0
        have HX2 := HX.out
        rw [if_neg h0] at HX2
        have HX3 := Lib.hid HX2
        have hne : ((nameErr ((l.sections.map Sec.name).take k) s.name : Int) != 0) = true := by rw [bne_iff_ne]; exact h0
        clear hz0 HX HX2 HS1 h0 HT
        generalize nameErr ((l.sections.map Sec.name).take k) s.name = z at *
        go_wp2_with fail
        go_ret
        exact ⟨ret1 HX3.out.symm, HB.out.trans (hb1.mono (by omega))⟩
    · have HX : Hid (secsErr n1 [] l.sections = 0) := by rw [Hid, HE.out, List.drop_eq_nil_of_le (by have := hr.1; omega)]; rfl
      clear HE hr hS
      go_wp2_with fail
      go_ret
      exact ⟨ret1 HX.out.symm, HB.out.trans (hbw.mono (by omega))⟩
end Go.Proofs.YtnfelcjpjodjhaaGreat.PSecs

namespace Go.Proofs.YtnfelcjpjodjhaaGreat.PLinks
open Go.ChangeShapes Go.WideShapes Go.ChangeAt Go.RowKit Wd Small Mem Lay Recs Keep Names PNames PSecs
set_option linter.unusedVariables false

def ie (x : Int) : Bool := (x == 0) || (x == 1)
theorem is_end (x : Int) (w : World) : Calls Tryz.prog 119 #[.int .i64 x] w (Says (ie x) w) := by
  have E : Hid (ie x = ((x == 0) || (x == 1))) := rfl
  go_enter Tryz.func119, Tryz.ntmps119
  cases h1 : (x == 0) <;> cases h2 : (x == 1)
  all_goals
    rw [h1, h2] at E
    go_wp2
    go_ret
    exact ⟨retb E.out.symm, rfl⟩

/-- are the point and the position of a link in their ranges (p points) -/
def sw (p : Nat) (k : Lnk) : Bool := if (k.pt == -1) = true then k.ps == 0 else nof k.pt p && ((k.ps == 0) || (k.ps == 1))
theorem sw_no {p : Nat} {k : Lnk} (h : (k.pt == -1) = true) : sw p k = (k.ps == 0) := by unfold sw; rw [if_pos h]
theorem sw_pt {p : Nat} {k : Lnk} (h : (k.pt == -1) = false) : sw p k = (nof k.pt p && ((k.ps == 0) || (k.ps == 1))) := by unfold sw; rw [if_neg (by rw [h]; decide)]
def lnkArg (k : Lnk) : Value := .agg #[.int .i64 k.a, .int .i64 k.ae, .int .i64 k.b, .int .i64 k.be, .int .i64 k.pt, .int .i64 k.ps]

set_option maxRecDepth 100000 in
theorem is_switch (v : LV) (k : Lnk) (w : World) : Calls Tryz.prog 120 #[v.val, lnkArg k] w (BoolPost (sw v.n2 k) w) := by
  cases hp : (k.pt == -1) with
  | true =>
    have E := Lib.hid (sw_no (p := v.n2) hp)
    obtain ⟨A1, n1, c1, A2, n2, c2, A3, n3, c3, A4, n4, c4⟩ := v
    obtain ⟨a, ae, b, be, pt, ps⟩ := k
    simp only [LV.val, lnkArg] at *
    go_enter Tryz.func120, Tryz.ntmps120
    go_wp2
    go_ret
    exact ⟨retb E.out.symm, ((Below.refl _ _).alloc (Nat.le_refl _) _).alloc (by simp) _⟩
  | false =>
    have E := Lib.hid (sw_pt (p := v.n2) hp)
    obtain ⟨A1, n1, c1, A2, n2, c2, A3, n3, c3, A4, n4, c4⟩ := v
    obtain ⟨a, ae, b, be, pt, ps⟩ := k
    simp only [LV.val, lnkArg] at *
    go_enter Tryz.func120, Tryz.ntmps120
    cases h1 : nof pt n2 <;> cases h2 : (ps == 0) <;> cases h3 : (ps == 1)
    all_goals
      rw [h1, h2, h3] at E
      go_wp2_with (go_at_call 68; refine (is_number _ _ _).mono ?_; rintro e w' ⟨rfl, rfl⟩; rw [h1])
      go_ret
      exact ⟨retb E.out.symm, ((Below.refl _ _).alloc (Nat.le_refl _) _).alloc (by simp) _⟩

/-- are the numbers of a link in their ranges, as the program asks it -/
def lin (n p : Nat) (k : Lnk) : Bool := nof k.a n && (nof k.b n && (ie k.ae && (ie k.be && sw p k)))
theorem lin_eq (n p : Nat) (k : Lnk) : lin n p k = inr n p k := by
  rw [Bool.eq_iff_iff]
  unfold lin inr sw ie nof
  by_cases h : (k.pt == -1) = true
  · rw [if_pos h]
    have h' : k.pt = -1 := by simpa using h
    simp only [Bool.and_eq_true, Bool.or_eq_true, decide_eq_true_eq, beq_iff_eq, Bool.not_eq_true', Bool.and_eq_false_iff, decide_eq_false_iff_not, Bool.not_eq_false']
    omega
  · rw [if_neg h]
    have h' : k.pt ≠ -1 := by simpa using h
    simp only [Bool.and_eq_true, Bool.or_eq_true, decide_eq_true_eq, beq_iff_eq, Bool.not_eq_true', Bool.and_eq_false_iff, decide_eq_false_iff_not, Bool.not_eq_false']
    omega

set_option maxRecDepth 100000 in
set_option maxHeartbeats 1000000 in
theorem is_link (v : LV) (k : Lnk) (w : World) : Calls Tryz.prog 99 #[v.val, lnkArg k] w (BoolPost (lin v.n3 v.n2 k) w) := by
  have E : Hid (lin v.n3 v.n2 k = (nof k.a v.n3 && (nof k.b v.n3 && (ie k.ae && (ie k.be && sw v.n2 k))))) := rfl
  have HSW := Lib.hid (fun w => is_switch v k w)
  obtain ⟨A1, n1, c1, A2, n2, c2, A3, n3, c3, A4, n4, c4⟩ := v
  obtain ⟨a, ae, b, be, pt, ps⟩ := k
  simp only [LV.val, lnkArg] at *
  cases h1 : nof a n3 with
  | false =>
    rw [h1, Bool.false_and] at E
    go_enter Tryz.func99, Tryz.ntmps99
    go_wp2_with (go_at_call 68; refine (is_number _ _ _).mono ?_; rintro e w' ⟨rfl, rfl⟩; rw [h1])
    go_ret
    exact ⟨retb E.out.symm, ((Below.refl _ _).alloc (Nat.le_refl _) _).alloc (by simp) _⟩
  | true =>
    cases h2 : nof b n3 with
    | false =>
      rw [h1, h2, Bool.true_and, Bool.false_and] at E
      go_enter Tryz.func99, Tryz.ntmps99
      go_wp2_with (go_at_call 68; refine (is_number _ _ _).mono ?_; rintro e w' ⟨rfl, rfl⟩; (first | rw [h1] | rw [h2]))
      go_ret
      exact ⟨retb E.out.symm, ((Below.refl _ _).alloc (Nat.le_refl _) _).alloc (by simp) _⟩
    | true =>
      cases h3 : ie ae with
      | false =>
        rw [h1, h2, h3, Bool.true_and, Bool.true_and, Bool.false_and] at E
        go_enter Tryz.func99, Tryz.ntmps99
        go_wp2_with (first | (go_at_call 68; refine (is_number _ _ _).mono ?_; rintro e w' ⟨rfl, rfl⟩; (first | rw [h1] | rw [h2])) | (go_at_call 119; refine (is_end _ _).mono ?_; rintro e w' ⟨rfl, rfl⟩; rw [h3]))
        go_ret
        exact ⟨retb E.out.symm, ((Below.refl _ _).alloc (Nat.le_refl _) _).alloc (by simp) _⟩
      | true =>
        cases h4 : ie be with
        | false =>
          rw [h1, h2, h3, h4, Bool.true_and, Bool.true_and, Bool.true_and, Bool.false_and] at E
          go_enter Tryz.func99, Tryz.ntmps99
          go_wp2_with (first | (go_at_call 68; refine (is_number _ _ _).mono ?_; rintro e w' ⟨rfl, rfl⟩; (first | rw [h1] | rw [h2])) | (go_at_call 119; refine (is_end _ _).mono ?_; rintro e w' ⟨rfl, rfl⟩; (first | rw [h3] | rw [h4])))
          go_ret
          exact ⟨retb E.out.symm, ((Below.refl _ _).alloc (Nat.le_refl _) _).alloc (by simp) _⟩
        | true =>
          rw [h1, h2, h3, h4, Bool.true_and, Bool.true_and, Bool.true_and, Bool.true_and] at E
          go_enter Tryz.func99, Tryz.ntmps99
          go_wp2_with (first | (go_at_call 68; refine (is_number _ _ _).mono ?_; rintro e w' ⟨rfl, rfl⟩; (first | rw [h1] | rw [h2])) | (go_at_call 119; refine (is_end _ _).mono ?_; rintro e w' ⟨rfl, rfl⟩; (first | rw [h3] | rw [h4])))
          refine (HSW.out _).mono ?_
          rintro e w2 ⟨rfl, hb2⟩
          go_wp2_with fail
          all_goals go_ret
          all_goals exact ⟨retb E.out.symm, (((Below.refl _ _).alloc (Nat.le_refl _) _).alloc (by simp) _).trans (hb2.mono (by simp; omega))⟩

end Go.Proofs.YtnfelcjpjodjhaaGreat.PLinks

namespace Go.Proofs.YtnfelcjpjodjhaaGreat.PEnds
open Go.ChangeShapes Go.WideShapes Go.ChangeAt Go.RowKit Wd Small Mem Lay Recs Keep Names PNames PSecs PLinks
set_option linter.unusedVariables false

theorem ends_of (k : Lnk) (w : World) : Calls Tryz.prog 100 #[lnkArg k] w fun e w' => e = .returned (.tuple #[.agg #[.int .i64 k.a, .int .i64 k.ae], .agg #[.int .i64 k.b, .int .i64 k.be]]) ∧ Below w.heap.size w w' := by
  obtain ⟨a, ae, b, be, pt, ps⟩ := k
  simp only [lnkArg] at *
  go_enter Tryz.func100, Tryz.ntmps100
  go_wp2
  go_region
  all_goals go_wp2
  all_goals refine bodyPost_ret (v := .tuple #[.agg #[.int .i64 a, .int .i64 ae], .agg #[.int .i64 b, .int .i64 be]]) ?_ rfl ⟨rfl, ?_⟩
  · simp [results, Tryz.results100, go_sem]
  · repeat (first | exact Below.refl _ _ | refine Below.drew ?_ | refine Below.alloc ?_ (by simp; try omega) _)

/-- the seven cells of an end's links -/
def Seven (w : World) (g o : Nat) (n : Nat) (a0 b0 a1 b1 p q : Int) : Prop :=
  w.cell? ⟨g, o, none⟩ = some (.int .i64 n) ∧ w.cell? ⟨g, o + 1, none⟩ = some (.int .i64 a0) ∧ w.cell? ⟨g, o + 2, none⟩ = some (.int .i64 b0) ∧ w.cell? ⟨g, o + 3, none⟩ = some (.int .i64 a1) ∧ w.cell? ⟨g, o + 4, none⟩ = some (.int .i64 b1) ∧
    w.cell? ⟨g, o + 5, none⟩ = some (.int .i64 p) ∧ w.cell? ⟨g, o + 6, none⟩ = some (.int .i64 q)
theorem Seven.lt {w : World} {g o n : Nat} {a0 b0 a1 b1 p q : Int} (h : Seven w g o n a0 b0 a1 b1 p q) : g < w.heap.size := World.block_lt_of_cell? w _ h.1
theorem Seven.below {w w' : World} {B g o n : Nat} {a0 b0 a1 b1 p q : Int} (h : Seven w g o n a0 b0 a1 b1 p q) (hb : Below B w w') (hg : g < B) : Seven w' g o n a0 b0 a1 b1 p q := by
  have e : ∀ j, w'.cell? ⟨g, j, none⟩ = w.cell? ⟨g, j, none⟩ := fun j => hb.cell (p := ⟨g, j, none⟩) hg
  unfold Seven
  simp only [e]
  exact h

theorem set_other {w : World} {g i j : Nat} {v : Value} (h : i ≠ j) : (w.setCell ⟨g, i, none⟩ v).cell? ⟨g, j, none⟩ = w.cell? ⟨g, j, none⟩ := World.cell?_setCell_other _ _ _ _ (fun e => h (by cases e; rfl))
theorem set_same {w : World} {g i : Nat} {u v : Value} (h : w.cell? ⟨g, i, none⟩ = some u) : (w.setCell ⟨g, i, none⟩ v).cell? ⟨g, i, none⟩ = some v := World.cell?_setCell_same _ _ _ h
section
variable {w : World} {g o n : Nat} {a0 b0 a1 b1 p q : Int} (h : Seven w g o n a0 b0 a1 b1 p q)
include h
theorem Seven.put0 (m : Nat) : Seven (w.setCell ⟨g, o, none⟩ (.int .i64 ((m : Nat) : Int))) g o m a0 b0 a1 b1 p q :=
  ⟨set_same h.1, (set_other (by omega)).trans h.2.1, (set_other (by omega)).trans h.2.2.1, (set_other (by omega)).trans h.2.2.2.1, (set_other (by omega)).trans h.2.2.2.2.1, (set_other (by omega)).trans h.2.2.2.2.2.1, (set_other (by omega)).trans h.2.2.2.2.2.2⟩
theorem Seven.put1 (m : Int) : Seven (w.setCell ⟨g, o + 1, none⟩ (.int .i64 m)) g o n m b0 a1 b1 p q :=
  ⟨(set_other (by omega)).trans h.1, set_same h.2.1, (set_other (by omega)).trans h.2.2.1, (set_other (by omega)).trans h.2.2.2.1, (set_other (by omega)).trans h.2.2.2.2.1, (set_other (by omega)).trans h.2.2.2.2.2.1, (set_other (by omega)).trans h.2.2.2.2.2.2⟩
theorem Seven.put2 (m : Int) : Seven (w.setCell ⟨g, o + 2, none⟩ (.int .i64 m)) g o n a0 m a1 b1 p q :=
  ⟨(set_other (by omega)).trans h.1, (set_other (by omega)).trans h.2.1, set_same h.2.2.1, (set_other (by omega)).trans h.2.2.2.1, (set_other (by omega)).trans h.2.2.2.2.1, (set_other (by omega)).trans h.2.2.2.2.2.1, (set_other (by omega)).trans h.2.2.2.2.2.2⟩
theorem Seven.put3 (m : Int) : Seven (w.setCell ⟨g, o + 3, none⟩ (.int .i64 m)) g o n a0 b0 m b1 p q :=
  ⟨(set_other (by omega)).trans h.1, (set_other (by omega)).trans h.2.1, (set_other (by omega)).trans h.2.2.1, set_same h.2.2.2.1, (set_other (by omega)).trans h.2.2.2.2.1, (set_other (by omega)).trans h.2.2.2.2.2.1, (set_other (by omega)).trans h.2.2.2.2.2.2⟩
theorem Seven.put4 (m : Int) : Seven (w.setCell ⟨g, o + 4, none⟩ (.int .i64 m)) g o n a0 b0 a1 m p q :=
  ⟨(set_other (by omega)).trans h.1, (set_other (by omega)).trans h.2.1, (set_other (by omega)).trans h.2.2.1, (set_other (by omega)).trans h.2.2.2.1, set_same h.2.2.2.2.1, (set_other (by omega)).trans h.2.2.2.2.2.1, (set_other (by omega)).trans h.2.2.2.2.2.2⟩
theorem Seven.put5 (m : Int) : Seven (w.setCell ⟨g, o + 5, none⟩ (.int .i64 m)) g o n a0 b0 a1 b1 m q :=
  ⟨(set_other (by omega)).trans h.1, (set_other (by omega)).trans h.2.1, (set_other (by omega)).trans h.2.2.1, (set_other (by omega)).trans h.2.2.2.1, (set_other (by omega)).trans h.2.2.2.2.1, set_same h.2.2.2.2.2.1, (set_other (by omega)).trans h.2.2.2.2.2.2⟩
theorem Seven.put6 (m : Int) : Seven (w.setCell ⟨g, o + 6, none⟩ (.int .i64 m)) g o n a0 b0 a1 b1 p m :=
  ⟨(set_other (by omega)).trans h.1, (set_other (by omega)).trans h.2.1, (set_other (by omega)).trans h.2.2.1, (set_other (by omega)).trans h.2.2.2.1, (set_other (by omega)).trans h.2.2.2.2.1, (set_other (by omega)).trans h.2.2.2.2.2.1, set_same h.2.2.2.2.2.2⟩
end
theorem grown_set {w w' : World} {g i : Nat} (h : w.grownBy w' (some g)) (v : Value) : w.grownBy (w'.setCell ⟨g, i, none⟩ v) (some g) :=
  ⟨h.os, h.tape, h.output, by have := h.size; simpa using this, fun k hk hne => (Below.heap_setCell w' ⟨g, i, none⟩ v k (fun e => hne (by rw [e]))).trans (h.block k hk hne)⟩
theorem grown_alloc {w w' : World} {row : Option Nat} (h : w.grownBy w' row) (o : Obj) : w.grownBy (w'.alloc o) row := h.trans (World.grownBy_alloc w' o row)
theorem grown_drew {w w' : World} {row : Option Nat} (h : w.grownBy w' row) : w.grownBy w'.drew row := ⟨h.os, h.tape, h.output, h.size, h.block⟩
theorem two_more {X : World} {B : Nat} (o1 o2 : Obj) (hB : B ≤ X.heap.size) : Below B X ((X.alloc o1).alloc o2) := ((Below.refl _ _).alloc hB _).alloc (by simp; omega) _

def adm (n : Nat) (p q pt ps : Int) : Bool := match n with
  | 0 => true
  | 1 => !(p == -1) && ((p == pt) && !(q == ps))
  | _ => false
theorem admit (g o n : Nat) (a0 b0 a1 b1 p q : Int) (k : Lnk) (w : World) (h : Seven w g o n a0 b0 a1 b1 p q) (hn : n ≤ 2) :
    Calls Tryz.prog 102 #[.pointer (some ⟨g, o, none⟩), lnkArg k] w (BoolPost (adm n p q k.pt k.ps) w) := by
  obtain ⟨a, ae, b, be, pt, ps⟩ := k
  simp only [lnkArg] at *
  have hg := h.lt
  obtain ⟨k0, k1, k2, k3, k4, k5, k6⟩ := h
  match n, hn with
  | 0, _ =>
    go_enter Tryz.func102, Tryz.ntmps102
    go_wp2
    go_ret
    exact ⟨rfl, (Below.refl _ _).alloc (Nat.le_refl _) _⟩
  | 2, _ =>
    go_enter Tryz.func102, Tryz.ntmps102
    go_wp2
    go_ret
    exact ⟨rfl, (Below.refl _ _).alloc (Nat.le_refl _) _⟩
  | 1, _ =>
    have E : Hid (adm 1 p q pt ps = (!(p == -1) && ((p == pt) && !(q == ps)))) := rfl
    go_enter Tryz.func102, Tryz.ntmps102
    cases h1 : (p == -1) <;> cases h2 : (p == pt) <;> cases h3 : (q == ps)
    all_goals
      rw [h1, h2, h3] at E
      have h1' : (p != -1) = !(p == -1) := rfl
      have h3' : (q != ps) = !(q == ps) := rfl
      rw [h1] at h1'
      rw [h3] at h3'
      go_wp2
      go_quiet (fail)
      go_wp2
      go_ret
      exact ⟨retb E.out.symm, Mem.below_draws ((Below.refl _ _).alloc (Nat.le_refl _) _) _⟩

def lead (n : Nat) (a0 b0 a1 b1 x y : Int) : Bool := match n with
  | 0 => false
  | 1 => (a0 == x) && (b0 == y)
  | _ => ((a0 == x) && (b0 == y)) || ((a1 == x) && (b1 == y))
theorem lead_to (g o n : Nat) (a0 b0 a1 b1 p q x y : Int) (w : World) (h : Seven w g o n a0 b0 a1 b1 p q) (hn : n ≤ 2) :
    Calls Tryz.prog 101 #[.pointer (some ⟨g, o, none⟩), .agg #[.int .i64 x, .int .i64 y]] w (BoolPost (lead n a0 b0 a1 b1 x y) w) := by
  have hg := h.lt
  obtain ⟨k0, k1, k2, k3, k4, k5, k6⟩ := h
  match n, hn with
  | 0, _ =>
    go_enter Tryz.func101, Tryz.ntmps101
    go_wp2
    refine wp_loop_rounds 1 ?_
    rw [rounds_succ]
    go_wp2
    go_ret
    exact ⟨rfl, (Below.refl _ _).alloc (Nat.le_refl _) _⟩
  | 1, _ =>
    have E : Hid (lead 1 a0 b0 a1 b1 x y = ((a0 == x) && (b0 == y))) := rfl
    go_enter Tryz.func101, Tryz.ntmps101
    go_wp2
    refine wp_loop_rounds 2 ?_
    rw [rounds_succ]
    go_wp2
    cases h1 : (a0 == x) <;> cases h2 : (b0 == y)
    all_goals rw [h1, h2] at E
    all_goals go_quiet (fail)
    all_goals go_wp2
    all_goals try (rw [rounds_succ]; go_wp2)
    all_goals go_ret
    all_goals refine ⟨retb E.out.symm, ?_⟩
    all_goals repeat (first | exact Below.refl _ _ | refine Mem.below_draws ?_ _ | refine Below.alloc ?_ (by simp; try omega) _)
  | 2, _ =>
    have E : Hid (lead 2 a0 b0 a1 b1 x y = (((a0 == x) && (b0 == y)) || ((a1 == x) && (b1 == y)))) := rfl
    go_enter Tryz.func101, Tryz.ntmps101
    go_wp2
    refine wp_loop_rounds 3 ?_
    rw [rounds_succ]
    go_wp2
    cases h1 : (a0 == x) <;> cases h2 : (b0 == y)
    · rw [h1, h2] at E
      go_quiet (fail)
      go_wp2
      rw [rounds_succ]
      go_wp2
      cases h3 : (a1 == x) <;> cases h4 : (b1 == y)
      all_goals rw [h3, h4] at E
      all_goals go_quiet (fail)
      all_goals go_wp2
      all_goals try (rw [rounds_succ]; go_wp2)
      all_goals go_ret
      all_goals refine ⟨retb E.out.symm, ?_⟩
      all_goals repeat (first | exact Below.refl _ _ | refine Mem.below_draws ?_ _ | refine Below.alloc ?_ (by simp; try omega) _)
    · rw [h1, h2] at E
      go_quiet (fail)
      go_wp2
      rw [rounds_succ]
      go_wp2
      cases h3 : (a1 == x) <;> cases h4 : (b1 == y)
      all_goals rw [h3, h4] at E
      all_goals go_quiet (fail)
      all_goals go_wp2
      all_goals try (rw [rounds_succ]; go_wp2)
      all_goals go_ret
      all_goals refine ⟨retb E.out.symm, ?_⟩
      all_goals repeat (first | exact Below.refl _ _ | refine Mem.below_draws ?_ _ | refine Below.alloc ?_ (by simp; try omega) _)
    · rw [h1, h2] at E
      go_quiet (fail)
      go_wp2
      rw [rounds_succ]
      go_wp2
      cases h3 : (a1 == x) <;> cases h4 : (b1 == y)
      all_goals rw [h3, h4] at E
      all_goals go_quiet (fail)
      all_goals go_wp2
      all_goals try (rw [rounds_succ]; go_wp2)
      all_goals go_ret
      all_goals refine ⟨retb E.out.symm, ?_⟩
      all_goals repeat (first | exact Below.refl _ _ | refine Mem.below_draws ?_ _ | refine Below.alloc ?_ (by simp; try omega) _)
    · rw [h1, h2] at E
      go_quiet (fail)
      go_wp2
      go_ret
      refine ⟨retb (by rw [E.out]; rfl), ?_⟩
      repeat (first | exact Below.refl _ _ | refine Mem.below_draws ?_ _ | refine Below.alloc ?_ (by simp; try omega) _)

/-- what a call leaves that has put a link to the seven cells of an end -/
def AddPost (g o n : Nat) (a0 b0 a1 b1 p q x y pt ps : Int) (w : World) (e : Ending) (w' : World) : Prop :=
  e = .returned (.tuple #[]) ∧ (if n = 0 then Seven w' g o 1 x y a1 b1 pt ps else Seven w' g o 2 a0 b0 x y p q) ∧ (∀ j, (j < o ∨ o + 7 ≤ j) → w'.cell? ⟨g, j, none⟩ = w.cell? ⟨g, j, none⟩) ∧ (∀ j, w'.frozen? ⟨g, j, none⟩ = w.frozen? ⟨g, j, none⟩) ∧ w.grownBy w' (some g)
set_option maxHeartbeats 1000000 in
theorem add_end (g o n : Nat) (a0 b0 a1 b1 p q x y : Int) (k : Lnk) (w : World) (h : Seven w g o n a0 b0 a1 b1 p q) (hf : ∀ j, w.frozen? ⟨g, j, none⟩ = false) (hn : n ≤ 1) :
    Calls Tryz.prog 103 #[.pointer (some ⟨g, o, none⟩), lnkArg k, .agg #[.int .i64 x, .int .i64 y]] w (AddPost g o n a0 b0 a1 b1 p q x y k.pt k.ps w) := by
  obtain ⟨a, ae, b, be, pt, ps⟩ := k
  simp only [lnkArg] at *
  have hg := h.lt
  obtain ⟨k0, k1, k2, k3, k4, k5, k6⟩ := h
  match n, hn with
  | 0, _ =>
    go_enter Tryz.func103, Tryz.ntmps103
    go_wp2
    go_region
    go_wp2
    go_region
    go_wp2
    go_end0
    have h5 := (((((show Seven w g o 0 a0 b0 a1 b1 p q from ⟨k0, k1, k2, k3, k4, k5, k6⟩).put5 pt).put6 ps).put1 x).put2 y).put0 1
    refine ⟨rfl, ?_, fun j hj => ?_, fun j => ?_, ?_⟩
    · rw [if_pos rfl]
      exact h5.below ((two_more _ _ (Nat.le_refl _)).drew.drew) (by simpa using hg)
    · refine ((two_more _ _ (Nat.le_refl _)).drew.drew.cell (p := ⟨g, j, none⟩) (by simpa using hg)).trans ?_
      rw [set_other (by omega), set_other (by omega), set_other (by omega), set_other (by omega), set_other (by omega)]
    · refine ((two_more _ _ (Nat.le_refl _)).drew.drew.frozen (p := ⟨g, j, none⟩) (by simpa using hg)).trans ?_
      simp
    · exact grown_drew (grown_drew (grown_alloc (grown_alloc (grown_set (grown_set (grown_set (grown_set (grown_set (World.grownBy.refl w _) _) _) _) _) _) _) _))
  | 1, _ =>
    go_enter Tryz.func103, Tryz.ntmps103
    go_wp2
    go_region
    go_wp2
    go_end0
    have h5 := (((show Seven w g o 1 a0 b0 a1 b1 p q from ⟨k0, k1, k2, k3, k4, k5, k6⟩).put3 x).put4 y).put0 2
    refine ⟨rfl, ?_, fun j hj => ?_, fun j => ?_, ?_⟩
    · rw [if_neg (by decide)]
      exact h5.below ((two_more _ _ (Nat.le_refl _)).drew) (by simpa using hg)
    · refine ((two_more _ _ (Nat.le_refl _)).drew.cell (p := ⟨g, j, none⟩) (by simpa using hg)).trans ?_
      rw [set_other (by omega), set_other (by omega), set_other (by omega)]
    · refine ((two_more _ _ (Nat.le_refl _)).drew.frozen (p := ⟨g, j, none⟩) (by simpa using hg)).trans ?_
      simp
    · exact grown_drew (grown_alloc (grown_alloc (grown_set (grown_set (grown_set (World.grownBy.refl w _) _) _) _) _) _)
end Go.Proofs.YtnfelcjpjodjhaaGreat.PEnds

namespace Go.Proofs.YtnfelcjpjodjhaaGreat.PTab
open Go.RowKit Wd Mem Lay Recs PEnds
set_option linter.unusedVariables false

/-- what the seven cells of end x hold where the links ks have it -/
def Fits (x : Lay.End) (ks : List Lnk) (a0 b0 a1 b1 p q : Int) : Prop := match ks with
  | [] => True
  | [k] => other k x = (a0, b0) ∧ p = k.pt ∧ q = k.ps
  | k :: k2 :: _ => other k x = (a0, b0) ∧ other k2 x = (a1, b1) ∧ p = k.pt ∧ q = k.ps
def en (s e : Nat) : Lay.End := ((s : Int), (e : Int))
/-- the table in block g behind the links done -/
structure Tab (w : World) (g : Nat) (done : List Lnk) : Prop where
  fr : ∀ j, w.frozen? ⟨g, j, none⟩ = false
  cell : ∀ s e : Nat, s < 96 → e < 2 → ∃ a0 b0 a1 b1 p q, Seven w g (s * 14 + e * 7) (done.filter (has · (en s e))).length a0 b0 a1 b1 p q ∧ Fits (en s e) (done.filter (has · (en s e))) a0 b0 a1 b1 p q
theorem Tab.below {w w' : World} {B g : Nat} {done : List Lnk} (h : Tab w g done) (hb : Below B w w') (hg : g < B) : Tab w' g done :=
  ⟨fun j => (hb.frozen (p := ⟨g, j, none⟩) hg).trans (h.fr j), fun s e hs he => by
    obtain ⟨a0, b0, a1, b1, p, q, h1, h2⟩ := h.cell s e hs he
    exact ⟨a0, b0, a1, b1, p, q, h1.below hb hg, h2⟩⟩
theorem has_other (k : Lnk) (x y : Lay.End) (hx : has k x = true) (hne : x ≠ y) : has k y = decide (other k x = y) := by
  rw [Bool.eq_iff_iff, has_iff, decide_eq_true_eq]
  unfold other
  rcases (has_iff k x).1 hx with h | h
  · rw [if_pos h]
    constructor
    · rintro (e | e)
      · exact absurd (h.symm.trans e) hne
      · exact e
    · exact fun e => .inr e
  · by_cases h2 : k.x = x
    · rw [if_pos h2]
      constructor
      · rintro (e | e)
        · exact absurd (h2.symm.trans e) hne
        · exact e
      · exact fun e => .inr e
    · rw [if_neg h2]
      constructor
      · rintro (e | e)
        · exact e
        · exact absurd (h.symm.trans e) hne
      · exact fun e => .inl e
theorem pair_eq {a b : Int} {y : Lay.End} : decide ((a, b) = y) = ((a == y.1) && (b == y.2)) := by
  obtain ⟨c, d⟩ := y
  rw [Bool.eq_iff_iff]
  simp
/-- what 'leadTo' tells -/
theorem lead_eq (done : List Lnk) (x y : Lay.End) (hne : x ≠ y) {a0 b0 a1 b1 p q : Int} (h2 : (done.filter (has · x)).length ≤ 2) (hf : Fits x (done.filter (has · x)) a0 b0 a1 b1 p q) :
    lead (done.filter (has · x)).length a0 b0 a1 b1 y.1 y.2 = done.any fun j => has j x && has j y := by
  have e : (done.any fun j => has j x && has j y) = (done.filter (has · x)).any (fun j => has j y) := by
    rw [List.any_filter]
  have hm : ∀ k ∈ done.filter (has · x), has k x = true := fun k hk => (List.mem_filter.1 hk).2
  rw [e]
  generalize done.filter (has · x) = ks at *
  match ks, h2, hf, hm with
  | [], _, _, _ => rfl
  | [k], _, hf, hm =>
    obtain ⟨f1, _, _⟩ := hf
    have := has_other k x y (hm k (by simp)) hne
    simp only [List.length_cons, List.length_nil, lead, List.any_cons, List.any_nil, Bool.or_false, this, f1, pair_eq]
  | [k, k2], _, hf, hm =>
    obtain ⟨f1, f2, _, _⟩ := hf
    have h1 := has_other k x y (hm k (by simp)) hne
    have h2 := has_other k2 x y (hm k2 (by simp)) hne
    simp only [List.length_cons, List.length_nil, lead, List.any_cons, List.any_nil, Bool.or_false, h1, h2, f1, f2, pair_eq]
/-- what 'admit' tells -/
theorem adm_eq (done : List Lnk) (x : Lay.End) (k : Lnk) (hk : -1 ≤ k.pt) {a0 b0 a1 b1 p q : Int} (h2 : (done.filter (has · x)).length ≤ 2) (hf : Fits x (done.filter (has · x)) a0 b0 a1 b1 p q) :
    adm (done.filter (has · x)).length p q k.pt k.ps = free done k x := by
  unfold free
  generalize done.filter (has · x) = ks at *
  match ks, h2, hf with
  | [], _, _ => rfl
  | [o], _, hf =>
    obtain ⟨_, rfl, rfl⟩ := hf
    simp only [List.length_cons, List.length_nil, adm]
    rw [Bool.eq_iff_iff]
    simp only [Bool.and_eq_true, Bool.not_eq_true', beq_eq_false_iff_ne, beq_iff_eq, decide_eq_true_eq, decide_eq_false_iff_not, ne_eq]
    constructor
    · rintro ⟨h1, h2, h3⟩; exact ⟨⟨by omega, h2⟩, h3⟩
    · rintro ⟨⟨h1, h2⟩, h3⟩; exact ⟨by omega, h2, h3⟩
  | [_, _], _, _ => rfl
theorem en_inj {s e s' e' : Nat} (h : en s e ≠ en s' e') : s ≠ s' ∨ e ≠ e' := by
  by_cases h1 : s = s'
  · by_cases h2 : e = e'
    · exact absurd (by rw [h1, h2]) h
    · exact .inr h2
  · exact .inl h1
/-- the table behind one more link -/
theorem Tab.add {w w1 w2 : World} {g s e s' e' : Nat} {done : List Lnk} {k : Lnk} {a0 b0 a1 b1 p q a0' b0' a1' b1' p' q' : Int} {n n' : Nat} {r1 r2 : Ending} (h : Tab w g done) (hs : s < 96) (he : e < 2) (hs' : s' < 96) (he' : e' < 2)
    (hx : k.x = en s e) (hy : k.y = en s' e') (hne : en s e ≠ en s' e') (hn : n = (done.filter (has · (en s e))).length) (hn' : n' = (done.filter (has · (en s' e'))).length) (h1 : n ≤ 1) (h1' : n' ≤ 1)
    (f : Fits (en s e) (done.filter (has · (en s e))) a0 b0 a1 b1 p q) (f' : Fits (en s' e') (done.filter (has · (en s' e'))) a0' b0' a1' b1' p' q')
    (ha : AddPost g (s * 14 + e * 7) n a0 b0 a1 b1 p q s' e' k.pt k.ps w r1 w1) (hb : AddPost g (s' * 14 + e' * 7) n' a0' b0' a1' b1' p' q' s e k.pt k.ps w1 r2 w2) : Tab w2 g (done ++ [k]) := by
  obtain ⟨_, A1, A2, A3, _⟩ := ha
  obtain ⟨_, B1, B2, B3, _⟩ := hb
  have hd := en_inj hne
  have hox : other k (en s e) = en s' e' := by unfold other; rw [if_pos hx, hy]
  have hoy : other k (en s' e') = en s e := by
    unfold other
    rw [if_neg (by rw [hx]; exact hne), hx]
  have hhx : has k (en s e) = true := by rw [has_iff]; exact .inl hx
  have hhy : has k (en s' e') = true := by rw [has_iff]; exact .inr hy
  refine ⟨fun j => (B3 j).trans ((A3 j).trans (h.fr j)), fun t d ht hd2 => ?_⟩
  rw [List.filter_append]
  by_cases c1 : t = s ∧ d = e
  · obtain ⟨rfl, rfl⟩ := c1
    have keep : ∀ {m : Nat} {c0 d0 c1 d1 p0 q0 : Int}, Seven w1 g (t * 14 + d * 7) m c0 d0 c1 d1 p0 q0 → Seven w2 g (t * 14 + d * 7) m c0 d0 c1 d1 p0 q0 := fun hS => by
      obtain ⟨k0, k1, k2, k3, k4, k5, k6⟩ := hS
      exact ⟨(B2 _ (by omega)).trans k0, (B2 _ (by omega)).trans k1, (B2 _ (by omega)).trans k2, (B2 _ (by omega)).trans k3, (B2 _ (by omega)).trans k4, (B2 _ (by omega)).trans k5, (B2 _ (by omega)).trans k6⟩
    rw [show [k].filter (has · (en t d)) = [k] by simp [hhx]]
    generalize done.filter (has · (en t d)) = ks at *
    match ks, hn, f with
    | [], hn, f =>
      simp only [List.length_nil] at hn
      rw [if_pos hn] at A1
      exact ⟨_, _, _, _, _, _, keep A1, hox, rfl, rfl⟩
    | [o], hn, f =>
      simp only [List.length_cons, List.length_nil] at hn
      rw [if_neg (by omega)] at A1
      obtain ⟨f1, f2, f3⟩ := f
      exact ⟨_, _, _, _, _, _, keep A1, f1, hox, f2, f3⟩
    | _ :: _ :: _, hn, f => simp only [List.length_cons] at hn; omega
  · by_cases c2 : t = s' ∧ d = e'
    · obtain ⟨rfl, rfl⟩ := c2
      rw [show [k].filter (has · (en t d)) = [k] by simp [hhy]]
      generalize done.filter (has · (en t d)) = ks at *
      match ks, hn', f' with
      | [], hn, f =>
        simp only [List.length_nil] at hn
        rw [if_pos hn] at B1
        exact ⟨_, _, _, _, _, _, B1, hoy, rfl, rfl⟩
      | [o], hn, f =>
        simp only [List.length_cons, List.length_nil] at hn
        rw [if_neg (by omega)] at B1
        obtain ⟨f1, f2, f3⟩ := f
        exact ⟨_, _, _, _, _, _, B1, f1, hoy, f2, f3⟩
      | _ :: _ :: _, hn, f => simp only [List.length_cons] at hn; omega
    · have hno : has k (en t d) = false := by
        rw [← Bool.not_eq_true, has_iff, hx, hy]
        rintro (e1 | e1)
        · simp only [en, Prod.mk.injEq] at e1; exact c1 (by omega)
        · simp only [en, Prod.mk.injEq] at e1; exact c2 (by omega)
      rw [show [k].filter (has · (en t d)) = [] by simp [hno], List.append_nil]
      obtain ⟨c0, d0, c1', d1, p0, q0, ⟨k0, k1, k2, k3, k4, k5, k6⟩, hf⟩ := h.cell t d ht hd2
      exact ⟨c0, d0, c1', d1, p0, q0, ⟨(B2 _ (by omega)).trans ((A2 _ (by omega)).trans k0), (B2 _ (by omega)).trans ((A2 _ (by omega)).trans k1), (B2 _ (by omega)).trans ((A2 _ (by omega)).trans k2), (B2 _ (by omega)).trans ((A2 _ (by omega)).trans k3),
        (B2 _ (by omega)).trans ((A2 _ (by omega)).trans k4), (B2 _ (by omega)).trans ((A2 _ (by omega)).trans k5), (B2 _ (by omega)).trans ((A2 _ (by omega)).trans k6)⟩, hf⟩

theorem zeros : Tryz.zeroCells160 = Array.replicate 1344 (.int .i64 0) := by kernel_rfl
/-- the table, new -/
theorem Tab.new (w : World) : Tab (w.alloc (.cells Tryz.zeroCells160 160)) w.heap.size [] := by
  have hc : ∀ j, j < 1344 → (w.alloc (.cells Tryz.zeroCells160 160)).cell? ⟨w.heap.size, j, none⟩ = some (.int .i64 0) := fun j hj => by
    rw [World.cell?_alloc_new, zeros]
    simp [hj]
  refine ⟨fun j => by simp, fun s e hs he => ⟨0, 0, 0, 0, 0, 0, ⟨hc _ (by omega), hc _ (by omega), hc _ (by omega), hc _ (by omega), hc _ (by omega), hc _ (by omega), hc _ (by omega)⟩, trivial⟩⟩

theorem links_step {n p : Nat} {L : List Lnk} {k : Nat} {x : Lnk} (h : L[k]? = some x) :
    linksErr n p (L.take k) (L.drop k) = if linkErr n p (L.take k) x = 0 then linksErr n p (L.take (k + 1)) (L.drop (k + 1)) else linkErr n p (L.take k) x := by
  rw [Strs.drop_at h, PNames.take_succ h]
  rfl
end Go.Proofs.YtnfelcjpjodjhaaGreat.PTab

namespace Go.Proofs.YtnfelcjpjodjhaaGreat.PLnk
open Go.ChangeShapes Go.WideShapes Go.ChangeAt Go.RowKit Wd Small Mem Lay LayT Recs Keep Names PNames PSecs PLinks PEnds PTab
set_option linter.unusedVariables false

theorem linkErr_range {n p : Nat} {done : List Lnk} {x : Lnk} (h : lin n p x = false) : linkErr n p done x = 4 := by
  rw [lin_eq] at h
  unfold linkErr; rw [if_pos h]
theorem linkErr_same {n p : Nat} {done : List Lnk} {x : Lnk} (h : lin n p x = true) (h2 : x.x = x.y) : linkErr n p done x = 1 := by
  rw [lin_eq] at h
  unfold linkErr; rw [if_neg (by rw [h]; decide), if_pos h2]
theorem linkErr_dup {n p : Nat} {done : List Lnk} {x : Lnk} (h : lin n p x = true) (h2 : x.x ≠ x.y) (h3 : (done.any fun j => has j x.x && has j x.y) = true) : linkErr n p done x = 5 := by
  rw [lin_eq] at h
  unfold linkErr; rw [if_neg (by rw [h]; decide), if_neg h2, if_pos h3]
theorem linkErr_free {n p : Nat} {done : List Lnk} {x : Lnk} (h : lin n p x = true) (h2 : x.x ≠ x.y) (h3 : (done.any fun j => has j x.x && has j x.y) = false) (h4 : (free done x x.x && free done x x.y) = false) : linkErr n p done x = 11 := by
  rw [lin_eq] at h
  unfold linkErr; rw [if_neg (by rw [h]; decide), if_neg h2, if_neg (by rw [h3]; decide), if_neg (by rw [h4]; decide)]
theorem linkErr_ok {n p : Nat} {done : List Lnk} {x : Lnk} (h : lin n p x = true) (h2 : x.x ≠ x.y) (h3 : (done.any fun j => has j x.x && has j x.y) = false) (h4 : (free done x x.x && free done x x.y) = true) : linkErr n p done x = 0 := by
  rw [lin_eq] at h
  unfold linkErr; rw [if_neg (by rw [h]; decide), if_neg h2, if_neg (by rw [h3]; decide), if_pos h4]
theorem free_one {done : List Lnk} {k : Lnk} {e : Lay.End} (h : free done k e = true) : (done.filter (has · e)).length ≤ 1 := (free_iff done k e h).1
/-- a row of cells in block g -/
def Row2 (w : World) (g : Nat) (a b : Int) : Prop := w.cell? ⟨g, 0, none⟩ = some (.int .i64 a) ∧ w.cell? ⟨g, 1, none⟩ = some (.int .i64 b)
def Row6 (w : World) (g : Nat) (k : Lnk) : Prop := w.cell? ⟨g, 0, none⟩ = some (.int .i64 k.a) ∧ w.cell? ⟨g, 1, none⟩ = some (.int .i64 k.ae) ∧ w.cell? ⟨g, 2, none⟩ = some (.int .i64 k.b) ∧ w.cell? ⟨g, 3, none⟩ = some (.int .i64 k.be) ∧
  w.cell? ⟨g, 4, none⟩ = some (.int .i64 k.pt) ∧ w.cell? ⟨g, 5, none⟩ = some (.int .i64 k.ps)
theorem Row2.below {w w' : World} {B g : Nat} {a b : Int} (h : Row2 w g a b) (hb : Below B w w') (hg : g < B) : Row2 w' g a b :=
  ⟨(hb.cell (p := ⟨g, 0, none⟩) hg).trans h.1, (hb.cell (p := ⟨g, 1, none⟩) hg).trans h.2⟩
theorem Row6.below {w w' : World} {B g : Nat} {k : Lnk} (h : Row6 w g k) (hb : Below B w w') (hg : g < B) : Row6 w' g k :=
  ⟨(hb.cell (p := ⟨g, 0, none⟩) hg).trans h.1, (hb.cell (p := ⟨g, 1, none⟩) hg).trans h.2.1, (hb.cell (p := ⟨g, 2, none⟩) hg).trans h.2.2.1, (hb.cell (p := ⟨g, 3, none⟩) hg).trans h.2.2.2.1, (hb.cell (p := ⟨g, 4, none⟩) hg).trans h.2.2.2.2.1, (hb.cell (p := ⟨g, 5, none⟩) hg).trans h.2.2.2.2.2⟩

theorem Row2.grown {w w' : World} {g h : Nat} {a b : Int} (hr : Row2 w h a b) (hg : w.grownBy w' (some g)) (hl : h < w.heap.size) (hne : h ≠ g) : Row2 w' h a b :=
  ⟨(grown_cell (p := ⟨h, 0, none⟩) hg hl (by simpa using hne)).trans hr.1, (grown_cell (p := ⟨h, 1, none⟩) hg hl (by simpa using hne)).trans hr.2⟩
theorem Row6.grown {w w' : World} {g h : Nat} {k : Lnk} (hr : Row6 w h k) (hg : w.grownBy w' (some g)) (hl : h < w.heap.size) (hne : h ≠ g) : Row6 w' h k := by
  have e : ∀ j, w'.cell? ⟨h, j, none⟩ = w.cell? ⟨h, j, none⟩ := fun j => grown_cell (p := ⟨h, j, none⟩) hg hl (by simpa using hne)
  unfold Row6
  simp only [e]
  exact hr
theorem add_other {w w' : World} {r : Ending} {g o o' n m : Nat} {a0 b0 a1 b1 p q x y pt ps c0 d0 c1 d1 p0 q0 : Int} (h : AddPost g o n a0 b0 a1 b1 p q x y pt ps w r w') (hS : Seven w g o' m c0 d0 c1 d1 p0 q0) (hd : o' + 7 ≤ o ∨ o + 7 ≤ o') : Seven w' g o' m c0 d0 c1 d1 p0 q0 := by
  obtain ⟨_, _, B2, _, _⟩ := h
  obtain ⟨k0, k1, k2, k3, k4, k5, k6⟩ := hS
  exact ⟨(B2 _ (by omega)).trans k0, (B2 _ (by omega)).trans k1, (B2 _ (by omega)).trans k2, (B2 _ (by omega)).trans k3, (B2 _ (by omega)).trans k4, (B2 _ (by omega)).trans k5, (B2 _ (by omega)).trans k6⟩

set_option maxRecDepth 100000 in
set_option maxHeartbeats 4000000 in
theorem check_links (v : LV) (l : Lay) (w : World) (hL : RdL w w.heap.size v l) (hn : v.n4 ≤ 1000) (hn3 : v.n3 ≤ 96) : Calls Tryz.prog 72 #[v.val] w (ErrPost (linksErr v.n3 v.n2 [] l.links) w) := by
  have hR := hL.lnk
  clear hL
  have HSP := Lib.hid (fun s => is_link v s)
  obtain ⟨W, hW, HZ, HB0, HC0⟩ := boxed v w
  have HC := Lib.hid HC0
  have hr := hR.grow HB0 (show w.heap.size ≤ W.heap.size by have := HB0.size; omega)
  have hgW : w.heap.size < W.heap.size := by rw [HZ.out]; omega
  have HB := Lib.hid HB0
  clear hR HB0 HC0
  have hkeep : ∀ wr, Below W.heap.size W wr → _ := fun wr hb => box_kept hb hgW HC.out
  have HK := Lib.hid hkeep
  obtain ⟨c0, c1', c2', c3'⟩ := HC.out
  obtain ⟨A1, n1, c1, A2, n2, c2, A3, n3, c3, A4, n4, c4⟩ := v
  simp only [LV.val] at *
  have E : Hid (linksErr n3 n2 [] l.links = linksErr n3 n2 (l.links.take 0) (l.links.drop 0)) := rfl
  have HT := Lib.hid (Tab.new W)
  have HBM := Lib.hid ((Below.refl W.heap.size W).alloc (Nat.le_refl _) (.cells Tryz.zeroCells160 160))
  have HG : Hid (Lay.Good n3 n2 (l.links.take 0)) := ⟨nofun, List.Pairwise.nil, by simp⟩
  clear hkeep
  go_enter Tryz.func72, Tryz.ntmps72
  go_upto_region 1 with fail
  clear hW
  have hsz1 : W.heap.size < (W.alloc (.cells Tryz.zeroCells160 160)).heap.size := by simp
  go_wp2_with fail
  clear c0 c1' c2' c3'
  go_loopw [13] (fun i wr => ∃ (k : Nat), k ≤ n4 ∧ i = .int .i64 k ∧ Tab wr W.heap.size (l.links.take k) ∧ Hid (Lay.Good n3 n2 (l.links.take k)) ∧ Hid (linksErr n3 n2 [] l.links = linksErr n3 n2 (l.links.take k) (l.links.drop k)) ∧ Below W.heap.size W wr ∧ W.heap.size < wr.heap.size) (fun i _ => n4 - (intOf i).toNat)
  case atStart => exact ⟨0, Nat.zero_le _, rfl, HT.out, HG, E, HBM.out, hsz1⟩
  case round =>
    obtain ⟨k, hk, rfl, hT, HGk, HE, hbw, hsz⟩ := hrel
    clear HT HBM E HG hsz1
    have hzW := hbw.size
    by_cases hlt : k < n4
    · obtain ⟨ad, x, rfl, hab, hx, d0, d1, d2, d3, d4, d5⟩ := loadLnk (hr.below hbw) hlt
      obtain ⟨c0, c1', c2', c3'⟩ := HK.out wr hbw
      have HX := Lib.hid (HE.out.trans (links_step hx))
      have HTk := Lib.hid (take_succ hx)
      have HTab := Lib.hid hT
      clear HE hr hT hx
      obtain ⟨wa, hwa⟩ : ∃ wa, wr.alloc (.cells #[.int .i64 x.a, .int .i64 x.ae, .int .i64 x.b, .int .i64 x.be, .int .i64 x.pt, .int .i64 x.ps] 106) = wa := ⟨_, rfl⟩
      have hba : Below wr.heap.size wr wa := by rw [← hwa]; exact (Below.refl _ _).alloc (Nat.le_refl _) _
      have hbwa := hbw.trans (hba.mono hzW)
      have hza : wr.heap.size < wa.heap.size := by rw [← hwa]; simp
      have HL6 : Hid (Row6 wa wr.heap.size x) := by rw [Hid, ← hwa]; unfold Row6; simp
      have HSPx := Lib.hid (HSP.out x)
      cases hI : lin n3 n2 x with
      | false =>
        have HX2 : Hid (linksErr n3 n2 [] l.links = 4) := by rw [Hid, HX.out, linkErr_range hI, if_neg (by decide)]
        rw [hI] at HSPx
        clear hI
        obtain ⟨xa, xae, xb, xbe, xpt, xps⟩ := x
        go_upto_region 5 with fail
        clear hwa c0 c1' c2' c3'
        obtain ⟨c0, c1', c2', c3'⟩ := HK.out wa hbwa
        obtain ⟨k0, k1, k2, k3, k4, k5⟩ := HL6.out
        go_wp2_with fail
        refine (HSPx.out _).mono ?_
        rintro e w1 ⟨rfl, hb1⟩
        go_wp2_with fail
        go_ret
        exact ⟨ret1 HX2.out.symm, HB.out.trans ((hbwa.trans (hb1.mono (by omega))).mono (by omega))⟩
      | true =>
        obtain ⟨g1, g2, g3, g4, g5, g6, g7, g8, g9, g10, g11, g12, g13⟩ := inr_range ((lin_eq n3 n2 x).symm.trans hI)
        obtain ⟨xa, xae, xb, xbe, xpt, xps⟩ := x
        simp only at g1 g2 g3 g4 g5 g6 g7 g8 g9 g10 g11 g12 g13
        obtain ⟨s, rfl⟩ : ∃ s : Nat, xa = s := ⟨xa.toNat, by omega⟩
        obtain ⟨e, rfl⟩ : ∃ e : Nat, xae = e := ⟨xae.toNat, by omega⟩
        obtain ⟨s', rfl⟩ : ∃ s' : Nat, xb = s' := ⟨xb.toNat, by omega⟩
        obtain ⟨e', rfl⟩ : ∃ e' : Nat, xbe = e' := ⟨xbe.toNat, by omega⟩
        have hs : s < 96 := by omega
        have he : e < 2 := by omega
        have hs' : s' < 96 := by omega
        have he' : e' < 2 := by omega
        have HI := Lib.hid hI
        rw [hI] at HSPx
        clear hI g1 g2 g3 g4 g5 g6 g7 g8 g10 g11 g12 g13
        go_upto_region 5 with fail
        clear hwa c0 c1' c2' c3' d0 d1 d2 d3 d4 d5
        obtain ⟨c0, c1', c2', c3'⟩ := HK.out wa hbwa
        obtain ⟨k0, k1, k2, k3, k4, k5⟩ := HL6.out
        go_wp2_with fail
        refine (HSPx.out _).mono ?_
        rintro e1 w1 ⟨rfl, hb1⟩
        have hb1w := hbwa.trans (hb1.mono (by omega))
        have hz1 := hb1.size
        have HT1 := Lib.hid ((HTab.out.below hba hsz).below hb1 (by omega))
        have HL1 := Lib.hid (HL6.out.below hb1 hza)
        clear c0 c1' c2' c3' k0 k1 k2 k3 k4 k5 HL6 hb1
        obtain ⟨k0, k1, k2, k3, k4, k5⟩ := HL1.out
        go_wp2_with fail
        refine (ends_of ⟨s, e, s', e', xpt, xps⟩ _).mono ?_
        rintro e1 w2 ⟨rfl, hb2⟩
        have hb2w := hb1w.trans (hb2.mono (by omega))
        have hz2 := hb2.size
        have HT2 := Lib.hid (HT1.out.below hb2 (by omega))
        have HL2 := Lib.hid (HL1.out.below hb2 (by omega))
        clear k0 k1 k2 k3 k4 k5 HL1 HT1 hb2
        obtain ⟨w4, hw4⟩ : ∃ w4, (w2.alloc (.cells #[.int .i64 s, .int .i64 e] 155)).alloc (.cells #[.int .i64 s', .int .i64 e'] 155) = w4 := ⟨_, rfl⟩
        have hb4 : Below w2.heap.size w2 w4 := by rw [← hw4]; exact ((Below.refl _ _).alloc (Nat.le_refl _) _).alloc (by simp) _
        have hz4 : w2.heap.size + 1 < w4.heap.size := by rw [← hw4]; simp
        have hb4w := hb2w.trans (hb4.mono (by omega))
        have HT4 := Lib.hid (HT2.out.below hb4 (by omega))
        have HL4 := Lib.hid (HL2.out.below hb4 (by omega))
        have HA4 : Hid (Row2 w4 w2.heap.size s e) := by rw [Hid, ← hw4]; unfold Row2; simp
        have HB4 : Hid (Row2 w4 (w2.heap.size + 1) s' e') := by rw [Hid, ← hw4]; unfold Row2; simp
        clear HL2 HT2 hb4
        go_upto_region 8 with fail
        clear hw4
        obtain ⟨q0, q1⟩ := HA4.out
        obtain ⟨r0, r1⟩ := HB4.out
        go_quiet (fail)
        rename_i nq
        have hb5w := Mem.below_draws hb4w nq
        have HT5 : Hid (Tab (w4.drewN nq) W.heap.size (l.links.take k)) := HT4.out.below (B := w4.heap.size) (Mem.below_draws (Below.refl _ _) _) (by omega)
        have HL5 : Hid (Row6 (w4.drewN nq) wr.heap.size ⟨s, e, s', e', xpt, xps⟩) := HL4.out
        have HA5 : Hid (Row2 (w4.drewN nq) w2.heap.size s e) := HA4.out
        have HB5 : Hid (Row2 (w4.drewN nq) (w2.heap.size + 1) s' e') := HB4.out
        have hz5 : w4.heap.size ≤ (w4.drewN nq).heap.size := Nat.le_refl _
        clear q0 q1 r0 r1 HT4 HL4 HA4 HB4 hb4w
        generalize w4.drewN nq = w5 at *
        by_cases hEq : s = s' ∧ e = e'
        · obtain ⟨rfl, rfl⟩ := hEq
          have HX2 : Hid (linksErr n3 n2 [] l.links = 1) := by
            rw [Hid, HX.out, linkErr_same HI.out rfl, if_neg (by decide)]
          obtain ⟨q0, q1⟩ := HA5.out
          obtain ⟨r0, r1⟩ := HB5.out
          go_wp2_with fail
          go_ret
          exact ⟨ret1 HX2.out.symm, HB.out.trans (hb5w.mono (by omega))⟩
        · have HNE : Hid (en s e ≠ en s' e') := by
            intro h
            simp only [en, Prod.mk.injEq] at h
            exact hEq ⟨by omega, by omega⟩
          have hoff : s * 14 + e * 7 + 7 ≤ s' * 14 + e' * 7 ∨ s' * 14 + e' * 7 + 7 ≤ s * 14 + e * 7 := by
            rcases en_inj HNE.out with h | h <;> omega
          have hoff' : s' * 14 + e' * 7 + 7 ≤ s * 14 + e * 7 ∨ s * 14 + e * 7 + 7 ≤ s' * 14 + e' * 7 := hoff.symm
          obtain ⟨a0, b0, a1, b1, p, q, hS, hF⟩ := HT5.out.cell s e hs he
          obtain ⟨a0', b0', a1', b1', p', q', hS', hF'⟩ := HT5.out.cell s' e' hs' he'
          have hm := HGk.out.two (en s e)
          have hm' := HGk.out.two (en s' e')
          obtain ⟨x, hx⟩ : ∃ x : Lnk, x = ⟨s, e, s', e', xpt, xps⟩ := ⟨_, rfl⟩
          have HXX : Hid (x.x = en s e ∧ x.y = en s' e' ∧ x.pt = xpt ∧ x.ps = xps) := by rw [hx]; exact ⟨rfl, rfl, rfl, rfl⟩
          rw [← hx] at HX HTk HI
          have HLD : Hid (Calls Tryz.prog 101 #[.pointer (some ⟨W.heap.size, s * 14 + e * 7, none⟩), .agg #[.int .i64 s', .int .i64 e']] w5 (BoolPost ((l.links.take k).any fun j => has j x.x && has j x.y) w5)) := by
            have h1 := lead_to W.heap.size _ _ _ _ _ _ _ _ s' e' w5 hS hm
            have h2 := lead_eq (l.links.take k) (en s e) (en s' e') HNE.out hm hF
            rw [HXX.out.1, HXX.out.2.1, ← h2]
            exact h1
          have HA : Hid (∀ wx, Seven wx W.heap.size (s * 14 + e * 7) ((l.links.take k).filter (has · (en s e))).length a0 b0 a1 b1 p q → Calls Tryz.prog 102 #[.pointer (some ⟨W.heap.size, s * 14 + e * 7, none⟩), lnkArg ⟨s, e, s', e', xpt, xps⟩] wx (BoolPost (free (l.links.take k) x x.x) wx)) := by
            intro wx h
            have h1 := admit W.heap.size _ _ a0 b0 a1 b1 p q ⟨s, e, s', e', xpt, xps⟩ wx h hm
            have h2 := adm_eq (l.links.take k) (en s e) x (by rw [HXX.out.2.2.1]; exact g9) hm hF
            rw [HXX.out.1, ← h2, HXX.out.2.2.1, HXX.out.2.2.2]
            exact h1
          have HA' : Hid (∀ wx, Seven wx W.heap.size (s' * 14 + e' * 7) ((l.links.take k).filter (has · (en s' e'))).length a0' b0' a1' b1' p' q' → Calls Tryz.prog 102 #[.pointer (some ⟨W.heap.size, s' * 14 + e' * 7, none⟩), lnkArg ⟨s, e, s', e', xpt, xps⟩] wx (BoolPost (free (l.links.take k) x x.y) wx)) := by
            intro wx h
            have h1 := admit W.heap.size _ _ a0' b0' a1' b1' p' q' ⟨s, e, s', e', xpt, xps⟩ wx h hm'
            have h2 := adm_eq (l.links.take k) (en s' e') x (by rw [HXX.out.2.2.1]; exact g9) hm' hF'
            rw [HXX.out.2.1, ← h2, HXX.out.2.2.1, HXX.out.2.2.2]
            exact h1
          have HXY : Hid (x.x ≠ x.y) := by rw [Hid, HXX.out.1, HXX.out.2.1]; exact HNE.out
          have HS := Lib.hid hS
          have HS' := Lib.hid hS'
          have HF := Lib.hid hF
          have HF' := Lib.hid hF'
          have hcase : s ≠ s' ∨ (s = s' ∧ e ≠ e') := by
            by_cases h : s = s'
            · exact .inr ⟨h, fun h2 => hEq ⟨h, h2⟩⟩
            · exact .inl h
          have HX0 := Lib.hid hx
          clear hS hS' hF hF' hEq hx
          obtain ⟨q0, q1⟩ := HA5.out
          obtain ⟨r0, r1⟩ := HB5.out
          have hgo : ∀ (Q : Exit → Act → World → Prop), True := fun _ => trivial
          clear hgo
          rcases hcase with hne | ⟨rfl, hne⟩
          · have hne' : ¬ (s : Int) = (s' : Int) := by omega
            go_upto_region 11 with fail
            clear hne' q0 q1
            cases hD : ((l.links.take k).any fun j => has j x.x && has j x.y) with
            | true =>
              have HX2 : Hid (linksErr n3 n2 [] l.links = 5) := by rw [Hid, HX.out, linkErr_dup HI.out HXY.out hD, if_neg (by decide)]
              rw [hD] at HLD
              clear hD
              go_wp2_with fail
              refine HLD.out.mono ?_
              rintro e1 w6 ⟨rfl, hb6⟩
              go_wp2_with fail
              go_ret
              exact ⟨ret1 HX2.out.symm, HB.out.trans ((hb5w.trans (hb6.mono (by omega))).mono (by omega))⟩
            | false =>
              rw [hD] at HLD
              have HD := Lib.hid hD
              clear hD
              go_wp2_with fail
              refine HLD.out.mono ?_
              rintro e1 w6 ⟨rfl, hb6⟩
              have hz6 := hb6.size
              have hb6w := hb5w.trans (hb6.mono (by omega))
              have HL6 := Lib.hid (HL5.out.below hb6 (by omega))
              have HA6 := Lib.hid (HA5.out.below hb6 (by omega))
              have HB6 := Lib.hid (HB5.out.below hb6 (by omega))
              have HT6 := Lib.hid (HT5.out.below hb6 (by omega))
              have HS6 := Lib.hid (HS.out.below hb6 (by omega))
              have HS6' := Lib.hid (HS'.out.below hb6 (by omega))
              clear r0 r1 hb6 HL5 HA5 HB5 HT5 HS HS' HLD
              obtain ⟨k0, k1, k2, k3, k4, k5⟩ := HL6.out
              cases hFx : free (l.links.take k) x x.x with
              | false =>
                have HX2 : Hid (linksErr n3 n2 [] l.links = 11) := by rw [Hid, HX.out, linkErr_free HI.out HXY.out HD.out (by rw [hFx]; rfl), if_neg (by decide)]
                have H := HA.out w6 HS6.out
                rw [hFx] at H
                have HH := Lib.hid H
                clear hFx H
                go_wp2_with fail
                refine HH.out.mono ?_
                rintro e1 w7 ⟨rfl, hb7⟩
                go_wp2_with fail
                go_ret
                exact ⟨ret1 HX2.out.symm, HB.out.trans ((hb6w.trans (hb7.mono (by omega))).mono (by omega))⟩
              | true =>
                have hn1 : ((l.links.take k).filter (has · (en s e))).length ≤ 1 := by
                  have := free_one hFx
                  rw [HXX.out.1] at this
                  exact this
                have H := HA.out w6 HS6.out
                rw [hFx] at H
                have HH := Lib.hid H
                have HFx := Lib.hid hFx
                clear hFx H
                go_wp2_with fail
                refine HH.out.mono ?_
                rintro e1 w7 ⟨rfl, hb7⟩
                have hz7 := hb7.size
                have hb7w := hb6w.trans (hb7.mono (by omega))
                have HL7 := Lib.hid (HL6.out.below hb7 (by omega))
                have HA7 := Lib.hid (HA6.out.below hb7 (by omega))
                have HB7 := Lib.hid (HB6.out.below hb7 (by omega))
                have HT7 := Lib.hid (HT6.out.below hb7 (by omega))
                have HS7 := Lib.hid (HS6.out.below hb7 (by omega))
                have HS7' := Lib.hid (HS6'.out.below hb7 (by omega))
                clear k0 k1 k2 k3 k4 k5 hb7 HL6 HA6 HB6 HT6 HS6 HS6' HH
                obtain ⟨k0, k1, k2, k3, k4, k5⟩ := HL7.out
                cases hFy : free (l.links.take k) x x.y with
                | false =>
                  have HX2 : Hid (linksErr n3 n2 [] l.links = 11) := by rw [Hid, HX.out, linkErr_free HI.out HXY.out HD.out (by rw [HFx.out, hFy]; rfl), if_neg (by decide)]
                  have H := HA'.out w7 HS7'.out
                  rw [hFy] at H
                  have HH := Lib.hid H
                  clear hFy H
                  go_wp2_with fail
                  refine HH.out.mono ?_
                  rintro e1 w8 ⟨rfl, hb8⟩
                  go_wp2_with fail
                  go_ret
                  exact ⟨ret1 HX2.out.symm, HB.out.trans ((hb7w.trans (hb8.mono (by omega))).mono (by omega))⟩
                | true =>
                  have hn1' : ((l.links.take k).filter (has · (en s' e'))).length ≤ 1 := by
                    have := free_one hFy
                    rw [HXX.out.2.1] at this
                    exact this
                  have h0 := linkErr_ok HI.out HXY.out HD.out (show (free (l.links.take k) x x.x && free (l.links.take k) x x.y) = true by rw [HFx.out, hFy]; rfl)
                  have HX2 : Hid (linksErr n3 n2 [] l.links = linksErr n3 n2 (l.links.take (k + 1)) (l.links.drop (k + 1))) := by rw [Hid, HX.out, if_pos h0]
                  have HG2 : Hid (Lay.Good n3 n2 (l.links.take (k + 1))) := by rw [Hid, HTk.out]; exact HGk.out.snoc h0
                  have H := HA'.out w7 HS7'.out
                  rw [hFy] at H
                  have HH := Lib.hid H
                  clear hFy H h0
                  go_wp2_with fail
                  refine HH.out.mono ?_
                  rintro e1 w8 ⟨rfl, hb8⟩
                  have hz8 := hb8.size
                  have hb8w := hb7w.trans (hb8.mono (by omega))
                  have HL8 := Lib.hid (HL7.out.below hb8 (by omega))
                  have HA8 := Lib.hid (HA7.out.below hb8 (by omega))
                  have HB8 := Lib.hid (HB7.out.below hb8 (by omega))
                  have HT8 := Lib.hid (HT7.out.below hb8 (by omega))
                  have HS8 := Lib.hid (HS7.out.below hb8 (by omega))
                  have HS8' := Lib.hid (HS7'.out.below hb8 (by omega))
                  clear k0 k1 k2 k3 k4 k5 hb8 HL7 HA7 HB7 HT7 HS7 HS7' HH
                  obtain ⟨k0, k1, k2, k3, k4, k5⟩ := HL8.out
                  obtain ⟨r0, r1⟩ := HB8.out
                  go_wp2_with fail
                  refine (add_end W.heap.size _ _ a0 b0 a1 b1 p q _ _ ⟨s, e, s', e', xpt, xps⟩ w8 HS8.out HT8.out.fr hn1).mono ?_
                  rintro e1 w9 hadd
                  have HAD := Lib.hid hadd
                  obtain ⟨rfl, -, -, -, hg9⟩ := hadd
                  have hz9 := hg9.size
                  have hb9w := hb8w.grown hg9 (by omega) (fun j hj => by injection hj with hj; omega)
                  have HL9 := Lib.hid (HL8.out.grown hg9 (by omega) (by omega))
                  have HA9 := Lib.hid (HA8.out.grown hg9 (by omega) (by omega))
                  have HS9' := Lib.hid (add_other HAD.out HS8'.out hoff')
                  have HF9 := Lib.hid (fun j => (HAD.out.2.2.2.1 j).trans (HT8.out.fr j))
                  clear k0 k1 k2 k3 k4 k5 r0 r1 hg9 HL8 HA8 HB8 HS8 HS8'
                  obtain ⟨k0, k1, k2, k3, k4, k5⟩ := HL9.out
                  obtain ⟨q0, q1⟩ := HA9.out
                  go_wp2_with fail
                  refine (add_end W.heap.size _ _ a0' b0' a1' b1' p' q' _ _ ⟨s, e, s', e', xpt, xps⟩ w9 HS9'.out HF9.out hn1').mono ?_
                  rintro e1 w10 hadd
                  have HAD2 := Lib.hid hadd
                  obtain ⟨rfl, -, -, -, hg10⟩ := hadd
                  have hz10 := hg10.size
                  have hb10w := hb9w.grown hg10 (by omega) (fun j hj => by injection hj with hj; omega)
                  have HT10 : Hid (Tab w10 W.heap.size (l.links.take (k + 1))) := by
                    rw [Hid, HTk.out, HX0.out]
                    exact Tab.add HT8.out hs he hs' he' rfl rfl HNE.out rfl rfl hn1 hn1' HF.out HF'.out HAD.out HAD2.out
                  have hszz : W.heap.size < w10.heap.size := by omega
                  clear k0 k1 k2 k3 k4 k5 q0 q1 hg10 HL9 HA9 HS9' HF9 HAD HAD2 HT8
                  go_wp2_with fail
                  go_roundw
                  case rel => exact ⟨k + 1, by omega, by go_num, HT10.out, HG2, HX2, hb10w, hszz⟩
                  case measure => simp [intOf]; omega
          · have hne' : ¬ (e : Int) = (e' : Int) := by omega
            go_upto_region 11 with fail
            clear hne' q0 q1
            cases hD : ((l.links.take k).any fun j => has j x.x && has j x.y) with
            | true =>
              have HX2 : Hid (linksErr n3 n2 [] l.links = 5) := by rw [Hid, HX.out, linkErr_dup HI.out HXY.out hD, if_neg (by decide)]
              rw [hD] at HLD
              clear hD
              go_wp2_with fail
              refine HLD.out.mono ?_
              rintro e1 w6 ⟨rfl, hb6⟩
              go_wp2_with fail
              go_ret
              exact ⟨ret1 HX2.out.symm, HB.out.trans ((hb5w.trans (hb6.mono (by omega))).mono (by omega))⟩
            | false =>
              rw [hD] at HLD
              have HD := Lib.hid hD
              clear hD
              go_wp2_with fail
              refine HLD.out.mono ?_
              rintro e1 w6 ⟨rfl, hb6⟩
              have hz6 := hb6.size
              have hb6w := hb5w.trans (hb6.mono (by omega))
              have HL6 := Lib.hid (HL5.out.below hb6 (by omega))
              have HA6 := Lib.hid (HA5.out.below hb6 (by omega))
              have HB6 := Lib.hid (HB5.out.below hb6 (by omega))
              have HT6 := Lib.hid (HT5.out.below hb6 (by omega))
              have HS6 := Lib.hid (HS.out.below hb6 (by omega))
              have HS6' := Lib.hid (HS'.out.below hb6 (by omega))
              clear r0 r1 hb6 HL5 HA5 HB5 HT5 HS HS' HLD
              obtain ⟨k0, k1, k2, k3, k4, k5⟩ := HL6.out
              cases hFx : free (l.links.take k) x x.x with
              | false =>
                have HX2 : Hid (linksErr n3 n2 [] l.links = 11) := by rw [Hid, HX.out, linkErr_free HI.out HXY.out HD.out (by rw [hFx]; rfl), if_neg (by decide)]
                have H := HA.out w6 HS6.out
                rw [hFx] at H
                have HH := Lib.hid H
                clear hFx H
                go_wp2_with fail
                refine HH.out.mono ?_
                rintro e1 w7 ⟨rfl, hb7⟩
                go_wp2_with fail
                go_ret
                exact ⟨ret1 HX2.out.symm, HB.out.trans ((hb6w.trans (hb7.mono (by omega))).mono (by omega))⟩
              | true =>
                have hn1 : ((l.links.take k).filter (has · (en s e))).length ≤ 1 := by
                  have := free_one hFx
                  rw [HXX.out.1] at this
                  exact this
                have H := HA.out w6 HS6.out
                rw [hFx] at H
                have HH := Lib.hid H
                have HFx := Lib.hid hFx
                clear hFx H
                go_wp2_with fail
                refine HH.out.mono ?_
                rintro e1 w7 ⟨rfl, hb7⟩
                have hz7 := hb7.size
                have hb7w := hb6w.trans (hb7.mono (by omega))
                have HL7 := Lib.hid (HL6.out.below hb7 (by omega))
                have HA7 := Lib.hid (HA6.out.below hb7 (by omega))
                have HB7 := Lib.hid (HB6.out.below hb7 (by omega))
                have HT7 := Lib.hid (HT6.out.below hb7 (by omega))
                have HS7 := Lib.hid (HS6.out.below hb7 (by omega))
                have HS7' := Lib.hid (HS6'.out.below hb7 (by omega))
                clear k0 k1 k2 k3 k4 k5 hb7 HL6 HA6 HB6 HT6 HS6 HS6' HH
                obtain ⟨k0, k1, k2, k3, k4, k5⟩ := HL7.out
                cases hFy : free (l.links.take k) x x.y with
                | false =>
                  have HX2 : Hid (linksErr n3 n2 [] l.links = 11) := by rw [Hid, HX.out, linkErr_free HI.out HXY.out HD.out (by rw [HFx.out, hFy]; rfl), if_neg (by decide)]
                  have H := HA'.out w7 HS7'.out
                  rw [hFy] at H
                  have HH := Lib.hid H
                  clear hFy H
                  go_wp2_with fail
                  refine HH.out.mono ?_
                  rintro e1 w8 ⟨rfl, hb8⟩
                  go_wp2_with fail
                  go_ret
                  exact ⟨ret1 HX2.out.symm, HB.out.trans ((hb7w.trans (hb8.mono (by omega))).mono (by omega))⟩
                | true =>
                  have hn1' : ((l.links.take k).filter (has · (en s e'))).length ≤ 1 := by
                    have := free_one hFy
                    rw [HXX.out.2.1] at this
                    exact this
                  have h0 := linkErr_ok HI.out HXY.out HD.out (show (free (l.links.take k) x x.x && free (l.links.take k) x x.y) = true by rw [HFx.out, hFy]; rfl)
                  have HX2 : Hid (linksErr n3 n2 [] l.links = linksErr n3 n2 (l.links.take (k + 1)) (l.links.drop (k + 1))) := by rw [Hid, HX.out, if_pos h0]
                  have HG2 : Hid (Lay.Good n3 n2 (l.links.take (k + 1))) := by rw [Hid, HTk.out]; exact HGk.out.snoc h0
                  have H := HA'.out w7 HS7'.out
                  rw [hFy] at H
                  have HH := Lib.hid H
                  clear hFy H h0
                  go_wp2_with fail
                  refine HH.out.mono ?_
                  rintro e1 w8 ⟨rfl, hb8⟩
                  have hz8 := hb8.size
                  have hb8w := hb7w.trans (hb8.mono (by omega))
                  have HL8 := Lib.hid (HL7.out.below hb8 (by omega))
                  have HA8 := Lib.hid (HA7.out.below hb8 (by omega))
                  have HB8 := Lib.hid (HB7.out.below hb8 (by omega))
                  have HT8 := Lib.hid (HT7.out.below hb8 (by omega))
                  have HS8 := Lib.hid (HS7.out.below hb8 (by omega))
                  have HS8' := Lib.hid (HS7'.out.below hb8 (by omega))
                  clear k0 k1 k2 k3 k4 k5 hb8 HL7 HA7 HB7 HT7 HS7 HS7' HH
                  obtain ⟨k0, k1, k2, k3, k4, k5⟩ := HL8.out
                  obtain ⟨r0, r1⟩ := HB8.out
                  go_wp2_with fail
                  refine (add_end W.heap.size _ _ a0 b0 a1 b1 p q _ _ ⟨s, e, s, e', xpt, xps⟩ w8 HS8.out HT8.out.fr hn1).mono ?_
                  rintro e1 w9 hadd
                  have HAD := Lib.hid hadd
                  obtain ⟨rfl, -, -, -, hg9⟩ := hadd
                  have hz9 := hg9.size
                  have hb9w := hb8w.grown hg9 (by omega) (fun j hj => by injection hj with hj; omega)
                  have HL9 := Lib.hid (HL8.out.grown hg9 (by omega) (by omega))
                  have HA9 := Lib.hid (HA8.out.grown hg9 (by omega) (by omega))
                  have HS9' := Lib.hid (add_other HAD.out HS8'.out hoff')
                  have HF9 := Lib.hid (fun j => (HAD.out.2.2.2.1 j).trans (HT8.out.fr j))
                  clear k0 k1 k2 k3 k4 k5 r0 r1 hg9 HL8 HA8 HB8 HS8 HS8'
                  obtain ⟨k0, k1, k2, k3, k4, k5⟩ := HL9.out
                  obtain ⟨q0, q1⟩ := HA9.out
                  go_wp2_with fail
                  refine (add_end W.heap.size _ _ a0' b0' a1' b1' p' q' _ _ ⟨s, e, s, e', xpt, xps⟩ w9 HS9'.out HF9.out hn1').mono ?_
                  rintro e1 w10 hadd
                  have HAD2 := Lib.hid hadd
                  obtain ⟨rfl, -, -, -, hg10⟩ := hadd
                  have hz10 := hg10.size
                  have hb10w := hb9w.grown hg10 (by omega) (fun j hj => by injection hj with hj; omega)
                  have HT10 : Hid (Tab w10 W.heap.size (l.links.take (k + 1))) := by
                    rw [Hid, HTk.out, HX0.out]
                    exact Tab.add HT8.out hs he hs' he' rfl rfl HNE.out rfl rfl hn1 hn1' HF.out HF'.out HAD.out HAD2.out
                  have hszz : W.heap.size < w10.heap.size := by omega
                  clear k0 k1 k2 k3 k4 k5 q0 q1 hg10 HL9 HA9 HS9' HF9 HAD HAD2 HT8
                  go_wp2_with fail
                  go_roundw
                  case rel => exact ⟨k + 1, by omega, by go_num, HT10.out, HG2, HX2, hb10w, hszz⟩
                  case measure => simp [intOf]; omega
    · have HX : Hid (linksErr n3 n2 [] l.links = 0) := by rw [Hid, HE.out, List.drop_eq_nil_of_le (by have := hr.1; omega)]; rfl
      clear HE hr hT
      go_wp2_with fail
      go_ret
      exact ⟨ret1 HX.out.symm, HB.out.trans (hbw.mono (by omega))⟩
end Go.Proofs.YtnfelcjpjodjhaaGreat.PLnk

namespace Go.Proofs.YtnfelcjpjodjhaaGreat.PCheck
open Go.ChangeShapes Go.WideShapes Go.ChangeAt Go.RowKit Wd Small Mem Lay LayT Recs Keep Names PNames PSecs PLinks PEnds PTab PLnk
set_option linter.unusedVariables false

/-- the check in its order, as a chain -/
def chain (z1 z2 z3 z4 z5 : Int) : Int := if z1 ≠ 0 then z1 else if z2 ≠ 0 then z2 else if z3 ≠ 0 then z3 else if z4 ≠ 0 then z4 else z5
theorem check_chain (l : Lay) : check l = chain (sizeErr l.stations.length l.points.length l.sections.length l.links.length) (namesErr [] l.stations) (namesErr [] l.points) (secsErr l.stations.length [] l.sections) (linksErr l.sections.length l.points.length [] l.links) := by
  unfold check chain sizeErr
  by_cases h1 : 24 < l.stations.length ∨ 48 < l.points.length ∨ 96 < l.sections.length ∨ 192 < l.links.length
  · rw [if_pos h1, if_pos h1, if_pos (by decide)]
  · rw [if_neg h1, if_neg h1]
    by_cases h2 : l.sections.length = 0
    · rw [if_pos h2, if_pos h2, if_pos (by decide)]
    · rw [if_neg h2, if_neg h2]; simp
theorem size_ok {n1 n2 n3 n4 : Nat} (h : sizeErr n1 n2 n3 n4 = 0) : n1 ≤ 24 ∧ n2 ≤ 48 ∧ n3 ≤ 96 ∧ n4 ≤ 192 ∧ 1 ≤ n3 := by
  unfold sizeErr at h
  split at h
  · cases h
  · split at h
    · cases h
    · omega
theorem ne_test {z : Int} (h : z ≠ 0) : (z != 0) = true := by rw [bne_iff_ne]; exact h

set_option maxRecDepth 100000 in
set_option maxHeartbeats 2000000 in
theorem p_check (v : LV) (l : Lay) (w : World) (hL : RdL w w.heap.size v l) : Calls Tryz.prog 51 #[v.val] w (ErrPost (check l) w) := by
  have e1 := hL.st.1
  have e2 := hL.pt.1
  have e3 := hL.sec.1
  have e4 := hL.lnk.1
  have hc := check_chain l
  rw [e1, e2, e3, e4] at hc
  have HC0 := Lib.hid hc
  clear hc e1 e2 e3 e4
  obtain ⟨W, hW, HZ, HB0, HBX⟩ := boxed v w
  have HC := Lib.hid HBX
  have hgW : w.heap.size < W.heap.size := by rw [HZ.out]; omega
  have HB := Lib.hid HB0
  have HLW := Lib.hid (hL.grow HB0 (show w.heap.size ≤ W.heap.size by omega))
  have hkeep : ∀ wr, Below W.heap.size W wr → _ := fun wr hb => box_kept hb hgW HC.out
  have HK := Lib.hid hkeep
  have HSZ := Lib.hid (check_sizes v W hL.m1 hL.m2 hL.m3 hL.m4)
  have HN : Hid (∀ wx, Below W.heap.size W wx → v.n1 ≤ 1000 → v.n2 ≤ 1000 → v.n3 ≤ 96 → v.n4 ≤ 1000 → Calls Tryz.prog 70 #[.slice v.A1 v.n1 v.c1] wx (ErrPost (namesErr [] l.stations) wx) ∧ Calls Tryz.prog 70 #[.slice v.A2 v.n2 v.c2] wx (ErrPost (namesErr [] l.points) wx) ∧
      Calls Tryz.prog 71 #[v.val] wx (ErrPost (secsErr v.n1 [] l.sections) wx) ∧ Calls Tryz.prog 72 #[v.val] wx (ErrPost (linksErr v.n3 v.n2 [] l.links) wx)) := fun wx hx h1 h2 h3 h4 => by
    have hl := HLW.out.grow hx hx.size
    exact ⟨check_names _ _ _ _ wx hl.st h1 hl.sz1, check_names _ _ _ _ wx hl.pt h2 hl.sz2, check_sections v l wx hl h3, check_links v l wx hl h4 h3⟩
  clear hL hkeep HB0 HBX
  obtain ⟨c0, c1', c2', c3'⟩ := HC.out
  obtain ⟨A1, n1, c1, A2, n2, c2, A3, n3, c3, A4, n4, c4⟩ := v
  simp only [LV.val] at *
  cases d1 : decide (sizeErr n1 n2 n3 n4 = 0) with
  | false =>
    have h1 := of_decide_eq_false d1
    have HX : Hid (check l = sizeErr n1 n2 n3 n4) := by rw [Hid, HC0.out]; unfold chain; rw [if_pos h1]
    have hne := ne_test h1
    clear d1 h1 HC0
    generalize sizeErr n1 n2 n3 n4 = z at *
    go_enter Tryz.func51, Tryz.ntmps51
    go_wp2_with fail
    refine HSZ.out.mono ?_
    rintro e w1 ⟨rfl, hb1⟩
    clear hW
    go_wp2_with fail
    go_ret
    exact ⟨ret1 HX.out.symm, HB.out.trans (hb1.mono (by omega))⟩
  | true =>
    have h1 := of_decide_eq_true d1
    obtain ⟨s1, s2, s3, s4, s5⟩ := size_ok h1
    rw [h1] at HSZ
    have H1 := Lib.hid h1
    clear d1 h1
    go_enter Tryz.func51, Tryz.ntmps51
    go_wp2_with fail
    refine HSZ.out.mono ?_
    rintro e w1 ⟨rfl, hb1⟩
    have hz1 := hb1.size
    obtain ⟨M1, -, -, -⟩ := HN.out w1 hb1 (by omega) (by omega) (by omega) (by omega)
    have HM1 := Lib.hid M1
    clear hW M1 c0 c1' c2' c3' HSZ
    obtain ⟨c0, c1', c2', c3'⟩ := HK.out w1 hb1
    cases d2 : decide (namesErr [] l.stations = 0) with
    | false =>
      have h2 := of_decide_eq_false d2
      have HX : Hid (check l = namesErr [] l.stations) := by rw [Hid, HC0.out, H1.out]; unfold chain; rw [if_neg (by decide), if_pos h2]
      have hne := ne_test h2
      clear d2 h2 HC0 HN
      generalize namesErr [] l.stations = z at *
      go_wp2_with fail
      refine HM1.out.mono ?_
      rintro e w2 ⟨rfl, hb2⟩
      clear c0 c1' c2' c3'
      go_wp2_with fail
      go_ret
      exact ⟨ret1 HX.out.symm, HB.out.trans ((hb1.trans (hb2.mono hz1)).mono (by omega))⟩
    | true =>
      have h2 := of_decide_eq_true d2
      rw [h2] at HM1
      have H2 := Lib.hid h2
      clear d2 h2
      go_wp2_with fail
      refine HM1.out.mono ?_
      rintro e w2 ⟨rfl, hb2⟩
      have hb2w := hb1.trans (hb2.mono hz1)
      have hz2 := hb2w.size
      obtain ⟨-, M2, -, -⟩ := HN.out w2 hb2w (by omega) (by omega) (by omega) (by omega)
      have HM2 := Lib.hid M2
      clear M2 c0 c1' c2' c3' HM1 hb1 hb2 hz1
      obtain ⟨c0, c1', c2', c3'⟩ := HK.out w2 hb2w
      cases d3 : decide (namesErr [] l.points = 0) with
      | false =>
        have h3 := of_decide_eq_false d3
        have HX : Hid (check l = namesErr [] l.points) := by rw [Hid, HC0.out, H1.out, H2.out]; unfold chain; rw [if_neg (by decide), if_neg (by decide), if_pos h3]
        have hne := ne_test h3
        clear d3 h3 HC0 HN
        generalize namesErr [] l.points = z at *
        go_wp2_with fail
        refine HM2.out.mono ?_
        rintro e w3 ⟨rfl, hb3⟩
        clear c0 c1' c2' c3'
        go_wp2_with fail
        go_ret
        exact ⟨ret1 HX.out.symm, HB.out.trans ((hb2w.trans (hb3.mono hz2)).mono (by omega))⟩
      | true =>
        have h3 := of_decide_eq_true d3
        rw [h3] at HM2
        have H3 := Lib.hid h3
        clear d3 h3
        go_wp2_with fail
        refine HM2.out.mono ?_
        rintro e w3 ⟨rfl, hb3⟩
        have hb3w := hb2w.trans (hb3.mono hz2)
        have hz3 := hb3w.size
        obtain ⟨-, -, M3, -⟩ := HN.out w3 hb3w (by omega) (by omega) (by omega) (by omega)
        have HM3 := Lib.hid M3
        clear M3 c0 c1' c2' c3' HM2 hb2w hb3 hz2
        obtain ⟨c0, c1', c2', c3'⟩ := HK.out w3 hb3w
        cases d4 : decide (secsErr n1 [] l.sections = 0) with
        | false =>
          have h4 := of_decide_eq_false d4
          have HX : Hid (check l = secsErr n1 [] l.sections) := by rw [Hid, HC0.out, H1.out, H2.out, H3.out]; unfold chain; rw [if_neg (by decide), if_neg (by decide), if_neg (by decide), if_pos h4]
          have hne := ne_test h4
          clear d4 h4 HC0 HN
          generalize secsErr n1 [] l.sections = z at *
          go_wp2_with fail
          refine HM3.out.mono ?_
          rintro e w4 ⟨rfl, hb4⟩
          clear c0 c1' c2' c3'
          go_wp2_with fail
          go_ret
          exact ⟨ret1 HX.out.symm, HB.out.trans ((hb3w.trans (hb4.mono hz3)).mono (by omega))⟩
        | true =>
          have h4 := of_decide_eq_true d4
          rw [h4] at HM3
          have HX : Hid (check l = linksErr n3 n2 [] l.links) := by rw [Hid, HC0.out, H1.out, H2.out, H3.out, h4]; unfold chain; rw [if_neg (by decide), if_neg (by decide), if_neg (by decide), if_neg (by decide)]
          clear d4 h4 HC0
          go_wp2_with fail
          refine HM3.out.mono ?_
          rintro e w4 ⟨rfl, hb4⟩
          have hb4w := hb3w.trans (hb4.mono hz3)
          have hz4 := hb4w.size
          obtain ⟨-, -, -, M4⟩ := HN.out w4 hb4w (by omega) (by omega) (by omega) (by omega)
          have HM4 := Lib.hid M4
          clear M4 c0 c1' c2' c3' HM3 hb3w hb4 hz3 HN
          obtain ⟨c0, c1', c2', c3'⟩ := HK.out w4 hb4w
          generalize linksErr n3 n2 [] l.links = z at *
          go_wp2_with fail
          refine HM4.out.mono ?_
          rintro e w5 ⟨rfl, hb5⟩
          clear c0 c1' c2' c3'
          go_wp2_with fail
          go_ret
          exact ⟨ret1 HX.out.symm, HB.out.trans ((hb4w.trans (hb5.mono hz4)).mono (by omega))⟩
end Go.Proofs.YtnfelcjpjodjhaaGreat.PCheck

namespace Go.Proofs.YtnfelcjpjodjhaaGreat.PStep
open Go.ChangeShapes Go.WideShapes Go.ChangeAt Go.RowKit Wd Small Mem Lay LayT Recs Keep Names PNames PSecs PLinks PEnds PTab PLnk PCheck
set_option linter.unusedVariables false

/-- what a call leaves that answers a pair of numbers and has changed no old memory -/
def PairPost (p : Int × Int) (w : World) (e : Ending) (w' : World) : Prop := e = .returned (.agg #[.int .i64 p.1, .int .i64 p.2]) ∧ Below w.heap.size w w'
/-- the step into the section of an end, as the program answers it -/
def pinto (x y : Int) : Int × Int := if (y == 0) = true then (x, 0) else (x, 1)
def pout (x y : Int) : Int × Int := if (y == 0) = true then (x, 1) else (x, 0)

theorem step_from (x y : Int) (w : World) : Calls Tryz.prog 106 #[.agg #[.int .i64 x, .int .i64 y]] w (PairPost (pinto x y) w) := by
  cases h : (y == 0) with
  | true =>
    have E : Hid (pinto x y = (x, 0)) := by unfold pinto; rw [Hid, if_pos h]
    go_enter Tryz.func106, Tryz.ntmps106
    go_wp2
    refine bodyPost_ret (v := .agg #[.int .i64 x, .int .i64 0]) ?_ rfl ⟨by rw [E.out], ?_⟩
    · simp [results, Tryz.results106, go_sem]
    · repeat (first | exact Below.refl _ _ | refine Below.drew ?_ | refine Below.alloc ?_ (by simp; try omega) _)
  | false =>
    have E : Hid (pinto x y = (x, 1)) := by unfold pinto; rw [Hid, if_neg (by rw [h]; decide)]
    go_enter Tryz.func106, Tryz.ntmps106
    go_wp2
    refine bodyPost_ret (v := .agg #[.int .i64 x, .int .i64 1]) ?_ rfl ⟨by rw [E.out], ?_⟩
    · simp [results, Tryz.results106, go_sem]
    · repeat (first | exact Below.refl _ _ | refine Below.drew ?_ | refine Below.alloc ?_ (by simp; try omega) _)
theorem exit_of (x y : Int) (w : World) : Calls Tryz.prog 105 #[.agg #[.int .i64 x, .int .i64 y]] w (PairPost (pout x y) w) := by
  cases h : (y == 0) with
  | true =>
    have E : Hid (pout x y = (x, 1)) := by unfold pout; rw [Hid, if_pos h]
    go_enter Tryz.func105, Tryz.ntmps105
    go_wp2
    refine bodyPost_ret (v := .agg #[.int .i64 x, .int .i64 1]) ?_ rfl ⟨by rw [E.out], ?_⟩
    · simp [results, Tryz.results105, go_sem]
    · repeat (first | exact Below.refl _ _ | refine Below.drew ?_ | refine Below.alloc ?_ (by simp; try omega) _)
  | false =>
    have E : Hid (pout x y = (x, 0)) := by unfold pout; rw [Hid, if_neg (by rw [h]; decide)]
    go_enter Tryz.func105, Tryz.ntmps105
    go_wp2
    refine bodyPost_ret (v := .agg #[.int .i64 x, .int .i64 0]) ?_ rfl ⟨by rw [E.out], ?_⟩
    · simp [results, Tryz.results105, go_sem]
    · repeat (first | exact Below.refl _ _ | refine Below.drew ?_ | refine Below.alloc ?_ (by simp; try omega) _)
/-- is it a step of a layout of n sections -/
def stepOK (n : Nat) (s : Lay.Step) : Bool := nof s.1 n && ((s.2 == 0) || (s.2 == 1))
def hasB (l : Lay) (s : Lay.Step) : Bool := stepOK l.sections.length s && (check l == 0)

set_option maxRecDepth 100000 in
theorem p_has (v : LV) (l : Lay) (s : Lay.Step) (w : World) (hL : RdL w w.heap.size v l) : Calls Tryz.prog 50 #[v.val, .agg #[.int .i64 s.1, .int .i64 s.2]] w (BoolPost (hasB l s) w) := by
  have E : Hid (hasB l s = (nof s.1 v.n3 && ((s.2 == 0) || (s.2 == 1)) && (check l == 0))) := by rw [Hid, hasB, stepOK, hL.sec.1]
  obtain ⟨W, hW⟩ : ∃ W, (w.alloc (.cells #[.slice v.A1 v.n1 v.c1, .slice v.A2 v.n2 v.c2, .slice v.A3 v.n3 v.c3, .slice v.A4 v.n4 v.c4] 26)).alloc (.cells #[.int .i64 s.1, .int .i64 s.2] 39) = W := ⟨_, rfl⟩
  have HB : Hid (Below w.heap.size w W ∧ w.heap.size ≤ W.heap.size) := by rw [Hid, ← hW]; exact ⟨((Below.refl _ _).alloc (Nat.le_refl _) _).alloc (by simp) _, by simp; omega⟩
  have HCH := Lib.hid (p_check v l W (hL.grow HB.out.1 HB.out.2))
  clear hL
  rw [hW.symm] at HCH
  clear hW HB W
  obtain ⟨A1, n1, c1, A2, n2, c2, A3, n3, c3, A4, n4, c4⟩ := v
  obtain ⟨x, y⟩ := s
  simp only [LV.val] at *
  cases h1 : nof x n3 <;> cases h2 : (y == 0) <;> cases h3 : (y == 1)
  all_goals
    rw [h1, h2, h3] at E
    go_enter Tryz.func50, Tryz.ntmps50
    go_wp2_with (go_at_call 68; refine (is_number _ _ _).mono ?_; rintro e w' ⟨rfl, rfl⟩; rw [h1])
    first
      | (go_ret; exact ⟨retb E.out.symm, ((Below.refl _ _).alloc (Nat.le_refl _) _).alloc (by simp) _⟩)
      | (refine HCH.out.mono ?_
         rintro e w2 ⟨rfl, hb2⟩
         cases h4 : (check l == 0)
         all_goals
           rw [h4] at E
           go_wp2_with fail
           go_ret
           exact ⟨retb E.out.symm, (((Below.refl _ _).alloc (Nat.le_refl _) _).alloc (by simp) _).trans (hb2.mono (by simp; omega))⟩)

/-- how many resources a layout has -/
def resources (l : Lay) : Int := if (check l != 0) = true then 0 else (l.sections.length : Int) + l.points.length
end Go.Proofs.YtnfelcjpjodjhaaGreat.PStep
