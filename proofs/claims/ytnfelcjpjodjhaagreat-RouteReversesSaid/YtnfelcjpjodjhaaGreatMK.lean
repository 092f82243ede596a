/-
  The library's copy within a row of the call's own, at elements of several cells: as a law for the walk. No function of the program is named here.
  Contracts of the library at the numbers of this program. Each is one application of what is proved once in the library of this guide.
  Contracts of the library's searches by a predicate, at steps and at hops; and of the program's functions that ask whether a section is passed.
  Contracts: does a route pass a section twice; is a step not a step of the layout; is a hop the one to the next step.
  Contracts: is a hop the one to the next step; the hops along a route.
  Contract: the hops along a route.
  Contracts: the first error of a route with its hops; Check.
  Contract of the library's repetition of a list of one cell.
  Contracts: the cells of a section, and of a route.
  Contract: the cells of a route.
-/
import Derived.Test.YtnfelcjpjodjhaaGreatME
import Derived.Laws.CopyOwn
import Derived.Shelf.Small.Bits
import Derived.Shelf.Small.Wraps
import Derived.Shelf.Strconv.Itoa0
import Derived.Shelf.Sort.Plain
import Derived.Shelf.Bits.Mul64
import Derived.Shelf.Slices.Turned
import Derived.Ground.Names2Prog
import Derived.Shelf.Slices.CompactI
import Derived.Shelf.Slices.SearchI
import Derived.Shelf.Slices.Cells
import Derived.Shelf.Slices.In.SortNone
import Derived.Test.YtnfelcjpjodjhaaGreatProg
import Derived.StillTailTactics
import Derived.Deep.AppendLies
import Derived.Deep.RegionHeld3
namespace Go.Proofs.YtnfelcjpjodjhaaGreat.Cpk
open Go.RowKit Wd Mem Lay Recs
set_option linter.unusedVariables false

theorem run_copy_k {P : Program} (w : World) (dT sT ty elem : TypeId) (g o dLen dCap : Nat) (a : Addr) (sLen sCap k : Nat) (cur : Array Value) (t : TypeId) (cs : List Value)
    (hu : P.underlying dT = some (.slice elem)) (hs : (P.info? elem).map (·.size) = some k)
    (hg : w.heap[g]? = some (.cells cur t (0, 0))) (hn : cs.length = Nat.min sLen dLen * k)
    (hsrc : ∀ j v, cs[j]? = some v → w.cell? (a.add j) = some v) (hfit : o + cs.length ≤ cur.size) (h1 : ∀ v ∈ cs, v.oneCell' = true) :
    (Builtin.copy_ #[dT, sT] ty #[.slice (some ⟨g, o, none⟩) dLen dCap, .slice (some a) sLen sCap]).run P w =
      .ok (goInt (Nat.min sLen dLen)) (w.setRow g (cur.toList.take o ++ cs ++ cur.toList.drop (o + cs.length)).toArray) := by
  have hl := run_loadCells_list (P := P) w a cs hsrc
  have hst := run_storeCells_at P g o t cs 0 cur w hg (by simpa using hfit) h1
  cases hq : P.info? elem with
  | none => simp [hq] at hs
  | some i =>
    have hi : i.size = k := by simpa [hq] using hs
    simp [Builtin.copy_, run_underlying hu, Builtin.lenOf, Builtin.firstCells, sizeOf, typeInfo, hq, hi, ← hn, hl, hst]

/-- as a law for the walk -/
theorem wpList_copy_k {P : Program} {w : World} {ops : Array Oper} {rest : List Oper} {o : Oper} {a : Act} {Q : Exit → Act → World → Prop} (hgd : o.guard = none) (d s : Operand) (dT sT : TypeId)
    (ho : o.op = .call { callee := .builtin .copy, args := #[d, s], argTypes := #[dT, sT] }) (elem : TypeId) (k : Nat) (hu : P.underlying dT = some (.slice elem)) (hsz : (P.info? elem).map (·.size) = some k)
    (g off dLen dCap : Nat) (ad : Addr) (sLen sCap : Nat) (hd : a.eval d = .slice (some ⟨g, off, none⟩) dLen dCap) (hs : a.eval s = .slice (some ad) sLen sCap)
    (cur : List Value) (t : TypeId) (hg : w.heap[g]? = some (.cells cur.toArray t (0, 0))) (cs : List Value) (hn : cs.length = Nat.min sLen dLen * k)
    (hsrc : ∀ j v, cs[j]? = some v → w.cell? (ad.add j) = some v) (hfit : off + cs.length ≤ cur.length) (h1 : ∀ v ∈ cs, v.oneCell' = true)
    (h : wpList P ops Q rest (a.put o.dst (goInt (Nat.min sLen dLen))) (w.setRow g (splice cur off cs).toArray)) : wpList P ops Q (o :: rest) a w := by
  refine wpList_plain hgd fun K hK => ?_
  have hrun := run_copy_k (P := P) w dT sT o.type elem g off dLen dCap ad sLen sCap k cur.toArray t cs hu hsz hg hn hsrc (by simpa using hfit) h1
  unfold Oper.wp
  simp [execOp, ho, resolve, invoke, builtin, hd, hs, hrun, Result.andThen]
  have e : (splice cur off cs).toArray = (cur.take off ++ (cs ++ cur.drop (off + cs.length))).toArray := rfl
  rw [e] at h
  exact hK _ _ (by simpa using h)
end Go.Proofs.YtnfelcjpjodjhaaGreat.Cpk

namespace Go.Proofs
open Go.Shelf
def Tryz.lays212_ren : Go.Shelf.Ren := ⟨fun | 212 => 89 | 263 => 113 | 264 => 114 | n => n, fun | 46 => 71 | 51 => 139 | 146 => 176 | 53 => 141 | 148 => 178 | n => n, fun | n => n⟩
theorem Tryz.lays212 : Go.Proofs.Lays.n212 Tryz.prog Tryz.lays212_ren := {
  mixed := by kernel_rfl
  f212 := Tryz.func89.trans (congrArg some (by kernel_rfl))
  f263 := Tryz.func113.trans (congrArg some (by kernel_rfl))
  f264 := Tryz.func114.trans (congrArg some (by kernel_rfl))
  t46 := Tryz.underlying71
  a46 := Tryz.isAgg71
  z46 := Tryz.sizeOf71
  v46 := Tryz.zeroValue71
  t51 := Tryz.underlying139
  a51 := Tryz.isAgg139
  z51 := Tryz.sizeOf139
  v51 := Tryz.zeroValue139
  t53 := Tryz.underlying141
  a53 := Tryz.isAgg141
  z53 := Tryz.sizeOf141
  v53 := Tryz.zeroValue141
  t146 := Tryz.underlying176
  a146 := Tryz.isAgg176
  z146 := Tryz.sizeOf176
  v146 := Tryz.zeroValue176
  t148 := Tryz.underlying178
  a148 := Tryz.isAgg178
  z148 := Tryz.sizeOf178
  v148 := Tryz.zeroValue178 }
open Go.RowKit Go.Lib in
theorem Tryz.bits_Mul (x y : Nat) (hx : x < 18446744073709551616) (hy : y < 18446744073709551616) (w : World) :
    Calls Tryz.prog 89 #[.int .u64 x, .int .u64 y] w fun e w' => e = .returned (.tuple #[.int .u64 ((x * y / 18446744073709551616 : Nat) : Int), .int .u64 ((x * y % 18446744073709551616 : Nat) : Int)]) ∧ w' = w := Any.bits_Mul Tryz.lays212 x y hx hy w
end Go.Proofs

namespace Go.Proofs.YtnfelcjpjodjhaaGreat.PIdx
open Go.ChangeShapes Go.WideShapes Go.ChangeAt Go.RowKit Wd Small Mem Lay LayT Recs Keep Names PNames PSecs PLinks PEnds PTab PLnk PCheck PStep PHops Rt RtR
set_option linter.unusedVariables false

/-- what is asked of a predicate: it answers p, and changes nothing that lies there -/
def Asks {α : Type} (g : FuncId) (lb : Array Value) (enc : α → Value) (p : α → Bool) (w : World) : Prop :=
  ∀ (W : World) (x : α), Below w.heap.size w W → Calls Tryz.prog g (#[enc x] ++ lb) W fun e w' => e = .returned (.bool (p x)) ∧ Below w.heap.size w w'
def stpV (s : Step) : Value := .agg #[.int .i64 s.1, .int .i64 s.2]
def hopV (h : Hop) : Value := .agg #[.int .i64 h.to.1, .int .i64 h.to.2, .int .i64 h.pt, .int .i64 h.ps]

set_option maxRecDepth 100000 in
set_option maxHeartbeats 2000000 in
theorem index_stp (p : Step → Bool) (g : FuncId) (lb : Array Value) (eg : ∀ args w, (callFunc g args).run Tryz.prog w = .ok (.enter g args) w) (A : Option Addr) (n c : Nat) (L : List Step) (w : World) (hR : Rd stpR w w.heap.size A n L) (hn : n ≤ 9223372036854775807)
    (hp : Asks g lb stpV p w) : Calls Tryz.prog 73 #[.slice A n c, .func (.func g) #[] lb] w fun e w' => e = .returned (.int .i64 (idx p L)) ∧ Below w.heap.size w w' := by
  have HL := Lib.hid hR.1
  go_enter Tryz.func73, Tryz.ntmps73
  go_wp2
  go_loopw [5, 8] (fun _ i wr => ∃ k : Nat, k ≤ n ∧ i = .int .i64 k ∧ Below w.heap.size w wr ∧ Hid (∀ j, j < k → ∀ a, L[j]? = some a → p a = false)) (fun _ i _ => n - (intOf i).toNat)
  case atStart => exact ⟨0, Nat.zero_le _, rfl, Below.refl _ _, fun j hj => absurd hj (Nat.not_lt_zero _)⟩
  case round =>
    obtain ⟨k, hk, rfl, hbw, HF⟩ := hrel
    by_cases hlt : k < n
    · obtain ⟨ad, x, y, rfl, hab, hs, d0, d1⟩ := loadStp (hR.below hbw) hlt
      have hcall := hp wr (x, y) hbw
      have HS := Lib.hid hs
      have hkn : (k : Int) < (n : Int) := by omega
      simp only [stpV] at hcall
      clear hR hs hp
      cases hq : p (x, y) with
      | true =>
        rw [hq] at hcall
        have HQ := Lib.hid hq
        clear hq
        go_wp2_with (go_at_fn g; refine hcall.mono ?_; rintro e w' ⟨rfl, hb'⟩)
        go_ret
        exact ⟨ret1 (idx_hit p L k _ HS.out HQ.out HF.out).symm, hb'⟩
      | false =>
        rw [hq] at hcall
        have HQ := Lib.hid hq
        clear hq
        go_wp2_with (go_at_fn g; refine hcall.mono ?_; rintro e w' ⟨rfl, hb'⟩)
        go_roundw
        case rel =>
          refine ⟨k + 1, by omega, by go_num, hb', fun j hj a ha => ?_⟩
          by_cases e : j = k
          · subst e
            rw [HS.out] at ha
            cases ha
            exact HQ.out
          · exact HF.out j (by omega) a ha
        case measure => simp [intOf]; omega
    · clear hR hp
      go_wp2_with fail
      go_ret
      refine ⟨ret1 (idx_miss p L fun a ha => ?_).symm, hbw⟩
      obtain ⟨j, hj, e⟩ := List.mem_iff_getElem.1 ha
      exact HF.out j (by have := HL.out; omega) a (by rw [← e]; exact List.getElem?_eq_getElem hj)

set_option maxRecDepth 100000 in
theorem contains_stp (p : Step → Bool) (g : FuncId) (lb : Array Value) (eg : ∀ args w, (callFunc g args).run Tryz.prog w = .ok (.enter g args) w) (A : Option Addr) (n c : Nat) (L : List Step) (w : World) (hR : Rd stpR w w.heap.size A n L) (hn : n ≤ 9223372036854775807)
    (hp : Asks g lb stpV p w) : Calls Tryz.prog 52 #[.slice A n c, .func (.func g) #[] lb] w (BoolPost (L.any p) w) := by
  have HC := Lib.hid (index_stp p g lb eg A n c L w hR hn hp)
  have HX := Lib.hid (idx_any p L)
  have hi := idx_le p L
  clear hR hp
  generalize idx p L = q at *
  go_enter Tryz.func52, Tryz.ntmps52
  go_wp2_with fail
  refine HC.out.mono ?_
  rintro e w' ⟨rfl, hb⟩
  go_wp2_with fail
  go_ret
  exact ⟨retb HX.out.symm, hb⟩

set_option maxRecDepth 100000 in
set_option maxHeartbeats 2000000 in
theorem index_hop (p : Hop → Bool) (g : FuncId) (lb : Array Value) (eg : ∀ args w, (callFunc g args).run Tryz.prog w = .ok (.enter g args) w) (A : Option Addr) (n c : Nat) (L : List Hop) (w : World) (hR : Rd hopR w w.heap.size A n L) (hn : n ≤ 9223372036854775807)
    (hp : Asks g lb hopV p w) : Calls Tryz.prog 76 #[.slice A n c, .func (.func g) #[] lb] w fun e w' => e = .returned (.int .i64 (idx p L)) ∧ Below w.heap.size w w' := by
  have HL := Lib.hid hR.1
  go_enter Tryz.func76, Tryz.ntmps76
  go_wp2
  go_loopw [5, 8] (fun _ i wr => ∃ k : Nat, k ≤ n ∧ i = .int .i64 k ∧ Below w.heap.size w wr ∧ Hid (∀ j, j < k → ∀ a, L[j]? = some a → p a = false)) (fun _ i _ => n - (intOf i).toNat)
  case atStart => exact ⟨0, Nat.zero_le _, rfl, Below.refl _ _, fun j hj => absurd hj (Nat.not_lt_zero _)⟩
  case round =>
    obtain ⟨k, hk, rfl, hbw, HF⟩ := hrel
    by_cases hlt : k < n
    · obtain ⟨ad, ⟨⟨x, y⟩, pt, ps⟩, rfl, hab, hs, d0, d1, d2, d3⟩ := loadHop (hR.below hbw) hlt
      have hcall := hp wr ⟨(x, y), pt, ps⟩ hbw
      have HS := Lib.hid hs
      have hkn : (k : Int) < (n : Int) := by omega
      simp only [hopV] at hcall d0 d1 d2 d3
      clear hR hs hp
      cases hq : p ⟨(x, y), pt, ps⟩ with
      | true =>
        rw [hq] at hcall
        have HQ := Lib.hid hq
        clear hq
        go_wp2_with (go_at_fn g; refine hcall.mono ?_; rintro e w' ⟨rfl, hb'⟩)
        go_ret
        exact ⟨ret1 (idx_hit p L k _ HS.out HQ.out HF.out).symm, hb'⟩
      | false =>
        rw [hq] at hcall
        have HQ := Lib.hid hq
        clear hq
        go_wp2_with (go_at_fn g; refine hcall.mono ?_; rintro e w' ⟨rfl, hb'⟩)
        go_roundw
        case rel =>
          refine ⟨k + 1, by omega, by go_num, hb', fun j hj a ha => ?_⟩
          by_cases e : j = k
          · subst e
            rw [HS.out] at ha
            cases ha
            exact HQ.out
          · exact HF.out j (by omega) a ha
        case measure => simp [intOf]; omega
    · clear hR hp
      go_wp2_with fail
      go_ret
      refine ⟨ret1 (idx_miss p L fun a ha => ?_).symm, hbw⟩
      obtain ⟨j, hj, e⟩ := List.mem_iff_getElem.1 ha
      exact HF.out j (by have := HL.out; omega) a (by rw [← e]; exact List.getElem?_eq_getElem hj)

/-! ### is a section passed -/

theorem passes_one (B : Nat) (x : Int) (w : World) (hB : B < w.heap.size) (hc : w.cell? ⟨B, 0, none⟩ = some (.int .i64 x)) : Asks 104 #[.pointer (some ⟨B, 0, none⟩)] stpV (fun t => decide (t.1 = x)) w := by
  intro W s hb
  obtain ⟨a, b⟩ := s
  have hc' := (hb.cell (p := ⟨B, 0, none⟩) hB).trans hc
  have hz := hb.size
  have hBW : B < W.heap.size := by omega
  simp only [stpV]
  clear hc
  cases h : (a == x) with
  | true =>
    have E : Hid (decide (a = x) = true) := by simpa [Hid] using h
    go_enter Tryz.func104, Tryz.ntmps104
    go_wp2_with fail
    go_ret
    exact ⟨retb E.out.symm, hb.alloc hz _⟩
  | false =>
    have E : Hid (decide (a = x) = false) := by simpa [Hid] using h
    go_enter Tryz.func104, Tryz.ntmps104
    go_wp2_with fail
    go_ret
    exact ⟨retb E.out.symm, hb.alloc hz _⟩

set_option maxRecDepth 100000 in
theorem passes_any (A : Option Addr) (n c : Nat) (x : Int) (L : List Step) (w : World) (hR : Rd stpR w w.heap.size A n L) (hn : n ≤ 9223372036854775807) : Calls Tryz.prog 74 #[.slice A n c, .int .i64 x] w (BoolPost (pass L x) w) := by
  obtain ⟨W, hW⟩ : ∃ W, w.alloc (.cells #[.int .i64 x] 3) = W := ⟨_, rfl⟩
  have hbW : Below w.heap.size w W := by rw [← hW]; exact (Below.refl _ _).alloc (Nat.le_refl _) _
  have hzW : W.heap.size = w.heap.size + 1 := by rw [← hW]; simp
  have hcW : W.cell? ⟨w.heap.size, 0, none⟩ = some (.int .i64 x) := by rw [← hW]; simp
  have HC := Lib.hid (contains_stp (fun t => decide (t.1 = x)) 104 #[.pointer (some ⟨w.heap.size, 0, none⟩)] (enters_of Tryz.func104 (by kernel_rfl) rfl) A n c L W (hR.grow hbW hbW.size) hn (passes_one _ x W (by omega) hcW))
  have HB := Lib.hid hbW
  clear hR hbW hzW hcW
  go_enter Tryz.func74, Tryz.ntmps74
  go_wp2_with fail
  try rw [hW]
  refine HC.out.mono ?_
  rintro e w' ⟨rfl, hb⟩
  go_wp2_with fail
  go_ret
  exact ⟨rfl, HB.out.trans (hb.mono HB.out.size)⟩
end Go.Proofs.YtnfelcjpjodjhaaGreat.PIdx

namespace Go.Proofs.YtnfelcjpjodjhaaGreat.PTwi
open Go.ChangeShapes Go.WideShapes Go.ChangeAt Go.RowKit Wd Small Mem Lay LayT Recs Keep Names PNames PSecs PLinks PEnds PTab PLnk PCheck PStep PHops Rt RtR PIdx
set_option linter.unusedVariables false

theorem twice_take (L : List Step) (k : Nat) (s : Step) (h : L[k]? = some s) : twice (L.take k) (L.drop k) = (pass (L.take k) s.1 || twice (L.take (k + 1)) (L.drop (k + 1))) := by
  have hlt := (List.getElem?_eq_some_iff.1 h).1
  have e : L.drop k = s :: L.drop (k + 1) := by rw [← (List.getElem?_eq_some_iff.1 h).2]; exact List.drop_eq_getElem_cons hlt
  have e2 : L.take (k + 1) = L.take k ++ [s] := by rw [List.take_add_one, h]; rfl
  rw [e, e2]
  rfl

set_option maxRecDepth 100000 in
set_option maxHeartbeats 2000000 in
theorem p_twice (A : Option Addr) (n c : Nat) (L : List Step) (w : World) (hR : Rd stpR w w.heap.size A n L) (hnc : n ≤ c) (hn : n ≤ 9223372036854775807) (hc : c ≤ 9223372036854775807) : Calls Tryz.prog 53 #[.slice A n c] w (BoolPost (twice [] L) w) := by
  have HR := Lib.hid hR
  clear hR
  go_enter Tryz.func53, Tryz.ntmps53
  go_wp2_with fail
  go_loopw [3, 7] (fun _ i wr => ∃ k : Nat, k ≤ n ∧ i = .int .i64 k ∧ Below w.heap.size w wr ∧ Hid (twice [] L = twice (L.take k) (L.drop k))) (fun _ i _ => n - (intOf i).toNat)
  case atStart => exact ⟨0, Nat.zero_le _, rfl, Below.refl _ _, by rw [Hid]; simp⟩
  case round =>
    obtain ⟨k, hk, rfl, hbw, HT⟩ := hrel
    have hzr := hbw.size
    by_cases hlt : k < n
    · obtain ⟨ad, x, y, rfl, hab, hs, d0, d1⟩ := loadStp (HR.out.below hbw) hlt
      have HST := Lib.hid (twice_take L k _ hs)
      have hkn : (k : Int) < (n : Int) := by omega
      have hkc : (k : Int) ≤ (c : Int) := by omega
      have hk0 : (0 : Int) ≤ (k : Int) := by omega
      obtain ⟨W, hW⟩ : ∃ W, wr.alloc (.cells #[.int .i64 x, .int .i64 y] 39) = W := ⟨_, rfl⟩
      have hbW : Below wr.heap.size wr W := by rw [← hW]; exact (Below.refl _ _).alloc (Nat.le_refl _) _
      have hcW : Hid (W.cell? ⟨wr.heap.size, 0, none⟩ = some (.int .i64 x)) := by rw [Hid, ← hW]; simp
      have hbwW := hbw.trans (hbW.mono hzr)
      have HP := Lib.hid (passes_any (some ad) k c x (L.take k) W.drew ((rd_take (HR.out.grow hbwW hbwW.size) (by omega)).below (Below.refl _ _).drew) (by omega))
      clear hs
      go_upto_region 4 with fail
      try rw [hW]
      clear hW d0 d1
      have q0 := hcW.out
      go_still_tail 5, (by kernel_rfl)
      change wpList _ _ _ _ _ W.drew
      go_wp2_with fail
      refine HP.out.mono ?_
      rintro e w2 ⟨rfl, hb2⟩
      have hbn := hbwW.trans (Below.trans (Below.refl _ _).drew (hb2.mono hbwW.size))
      cases hp : pass (L.take k) x with
      | true =>
        have E : Hid (true = twice [] L) := by rw [Hid, HT.out, HST.out, hp]; rfl
        clear HT HST q0 hcW
        go_wp2_with fail
        go_ret
        exact ⟨retb E.out, hbn⟩
      | false =>
        have E : Hid (twice [] L = twice (L.take (k + 1)) (L.drop (k + 1))) := by rw [Hid, HT.out, HST.out, hp]; rfl
        clear HT HST q0 hcW
        go_wp2_with fail
        go_roundw
        case rel => exact ⟨k + 1, by omega, by go_num, hbn, E.out⟩
        case measure => simp [intOf]; omega
    · have E : Hid (false = twice [] L) := by
        have h2 := HR.out.1
        rw [Hid, HT.out, List.drop_of_length_le (by omega)]
        rfl
      clear HR HT
      go_wp2_with fail
      go_ret
      exact ⟨retb E.out, hbw⟩

/-! ### predicates of the search for the first error -/

set_option maxRecDepth 100000 in
theorem foreign_one (B : Nat) (v : LV) (l : Lay) (w : World) (hB : B < w.heap.size) (hL : RdL w w.heap.size v l) (h0 : w.cell? ⟨B, 0, none⟩ = some (.slice v.A1 v.n1 v.c1)) (h1 : w.cell? ⟨B, 1, none⟩ = some (.slice v.A2 v.n2 v.c2)) (h2 : w.cell? ⟨B, 2, none⟩ = some (.slice v.A3 v.n3 v.c3)) (h3 : w.cell? ⟨B, 3, none⟩ = some (.slice v.A4 v.n4 v.c4)) :
    Asks 49 #[.pointer (some ⟨B, 0, none⟩)] stpV (fun s => !hasB l s) w := by
  intro W s hb
  obtain ⟨a, b⟩ := s
  have hz := hb.size
  have hBW : B < W.heap.size := by omega
  obtain ⟨W2, hW2⟩ : ∃ W2, W.alloc (.cells #[.int .i64 a, .int .i64 b] 39) = W2 := ⟨_, rfl⟩
  have hb2 : Below W.heap.size W W2 := by rw [← hW2]; exact (Below.refl _ _).alloc (Nat.le_refl _) _
  have hS : W2.cell? ⟨W.heap.size, 0, none⟩ = some (.int .i64 a) ∧ W2.cell? ⟨W.heap.size, 1, none⟩ = some (.int .i64 b) := by rw [← hW2]; simp
  have hbw := hb.trans (hb2.mono hz)
  have hc : ∀ j u, w.cell? ⟨B, j, none⟩ = some u → W2.cell? ⟨B, j, none⟩ = some u := fun j u hu => (hbw.cell (p := ⟨B, j, none⟩) hB).trans hu
  have HP := Lib.hid (p_has v l (a, b) W2 (hL.grow hbw hbw.size))
  have HB := Lib.hid hbw
  have c0 := hc 0 _ h0
  have c1' := hc 1 _ h1
  have c2' := hc 2 _ h2
  have c3' := hc 3 _ h3
  obtain ⟨s0, s1⟩ := hS
  simp only [stpV]
  clear hL h0 h1 h2 h3 hb hb2 hbw hc
  obtain ⟨A1, n1, k1, A2, n2, k2, A3, n3, k3, A4, n4, k4⟩ := v
  simp only [LV.val] at *
  go_enter Tryz.func49, Tryz.ntmps49
  go_wp2_with fail
  try rw [hW2]
  refine HP.out.mono ?_
  rintro e w3 ⟨rfl, hb3⟩
  clear hW2 c0 c1' c2' c3' s0 s1
  cases hh : hasB l (a, b)
  all_goals
    go_wp2_with fail
    go_ret
    exact ⟨retb (by simp [hh]), HB.out.trans (hb3.mono HB.out.size)⟩
end Go.Proofs.YtnfelcjpjodjhaaGreat.PTwi

namespace Go.Proofs.YtnfelcjpjodjhaaGreat.PAlo
open Go.ChangeShapes Go.WideShapes Go.ChangeAt Go.RowKit Wd Small Mem Lay LayT Recs Keep Names PNames PSecs PLinks PEnds PTab PLnk PCheck PStep PHops Rt RtR PIdx PTwi
set_option linter.unusedVariables false

theorem run_eq_stp (a b c d : Int) (w : World) : (binOp .eql 39 (.agg #[.int .i64 a, .int .i64 b]) (.agg #[.int .i64 c, .int .i64 d])).run Tryz.prog w = .ok (.bool (a == c && b == d)) w := by
  cases h1 : (a == c) <;> cases h2 : (b == d)
  all_goals simp at h1 h2
  all_goals simp [go_sem, run_equalIn_struct, Program.fieldsOf, Tryz.underlying39, h1, h2]

/-- the comparison of two steps, for the walk: one test, whose answer is known -/
theorem wpList_eq_stp (w : World) {ops : Array Oper} {rest : List Oper} {o : Oper} {act : Act} {Q : Exit → Act → World → Prop} (hg : o.guard = none) (m x : Operand) (hop : o.op = Op.binOp BinOp.eql 39 m x 39) (a b c d : Int) (r : Bool) (hr : (a == c && b == d) = r)
    (hm : act.eval m = .agg #[.int .i64 a, .int .i64 b]) (hx : act.eval x = .agg #[.int .i64 c, .int .i64 d]) (hK : wpList Tryz.prog ops Q rest (act.put o.dst (.bool r)) w) : wpList Tryz.prog ops Q (o :: rest) act w := by
  refine wpList_plain hg fun K' hK' => ?_
  have hrun := run_eq_stp a b c d w
  rw [hr] at hrun
  unfold Oper.wp execOp
  rw [hop]
  dsimp only
  rw [hm, hx]
  have hgd : (eqGuard BinOp.eql 39 m x (.agg #[.int .i64 a, .int .i64 b]) (.agg #[.int .i64 c, .int .i64 d])).run Tryz.prog w = .ok () w := by
    simp [go_sem, eqGuard]
  simp only [Sem.run_bind, hgd, Result.andThen_ok, hrun, Sem.run_pure]
  exact hK' _ _ hK

set_option maxRecDepth 100000 in
set_option maxHeartbeats 2000000 in
/-- the closure that tells the hop to step k of the list: it captures the variables of the list and of the place -/
theorem to_one (P B : Nat) (A : Option Addr) (n c k : Nat) (L : List Step) (t : Step) (w : World) (hP : P < w.heap.size) (hB : B < w.heap.size) (hR : Rd stpR w w.heap.size A n L) (h0 : w.cell? ⟨P, 0, none⟩ = some (.slice A n c)) (h1 : w.cell? ⟨B, 0, none⟩ = some (.int .i64 k))
    (hk : L[k]? = some t) (hn : n ≤ 9223372036854775807) : Asks 77 #[.pointer (some ⟨P, 0, none⟩), .pointer (some ⟨B, 0, none⟩)] hopV (fun h => decide (h.to = t)) w := by
  intro W h hb
  have hkn : k < n := by have := (List.getElem?_eq_some_iff.1 hk).1; have := hR.1; omega
  obtain ⟨ad, x, y, rfl, hab, hs, d0', d1'⟩ := loadStp hR hkn
  rw [hk] at hs
  obtain rfl : t = (x, y) := Option.some.inj hs
  obtain ⟨⟨a, b⟩, pt, ps⟩ := h
  have hz := hb.size
  obtain ⟨W2, hW2⟩ : ∃ W2, W.alloc (.cells #[.int .i64 a, .int .i64 b, .int .i64 pt, .int .i64 ps] 70) = W2 := ⟨_, rfl⟩
  have hb2 : Below W.heap.size W W2 := by rw [← hW2]; exact (Below.refl _ _).alloc (Nat.le_refl _) _
  have hS : W2.cell? ⟨W.heap.size, 0, none⟩ = some (.int .i64 a) ∧ W2.cell? ⟨W.heap.size, 1, none⟩ = some (.int .i64 b) := by rw [← hW2]; simp
  have hbw := hb.trans (hb2.mono hz)
  have HB := Lib.hid hbw
  have c0 := (hbw.cell (p := ⟨P, 0, none⟩) hP).trans h0
  have c1 := (hbw.cell (p := ⟨B, 0, none⟩) hB).trans h1
  have d0 := (hbw.cell (p := ad.add (k * 2)) (by rw [Mem.block_add]; exact hab)).trans d0'
  have d1 := (hbw.cell (p := ⟨(ad.add (k * 2)).block, (ad.add (k * 2)).off + 1, none⟩) (by show (ad.add (k * 2)).block < _; rw [Mem.block_add]; exact hab)).trans d1'
  obtain ⟨s0, s1⟩ := hS
  have hkn' : (k : Int) < (n : Int) := by omega
  have hk0 : (0 : Int) ≤ (k : Int) := by omega
  simp only [hopV]
  clear h0 h1 d0' d1' hs hk hb hb2 hbw hR
  go_enter Tryz.func77, Tryz.ntmps77
  go_wp2_with fail
  try rw [hW2]
  clear hW2
  go_still_tail 6, (by kernel_rfl)
  change wpList _ _ _ _ _ W2.drew
  refine wpList_eq_stp _ rfl _ _ rfl a b x y (a == x && b == y) rfl rfl rfl ?_
  go_wp2_with fail
  go_ret
  exact ⟨retb (by rw [Bool.eq_iff_iff]; simp), HB.out.drew⟩
end Go.Proofs.YtnfelcjpjodjhaaGreat.PAlo

namespace Go.Proofs.YtnfelcjpjodjhaaGreat.PHal
open Go.ChangeShapes Go.WideShapes Go.ChangeAt Go.RowKit Wd Small Mem Lay LayT Recs Keep Names PNames PSecs PLinks PEnds PTab PLnk PCheck PStep PHops Rt RtR PIdx PTwi PAlo
set_option linter.unusedVariables false

/-- block b is a variable that holds the number z -/
def Vr (w : World) (b : Nat) (z : Int) : Prop := w.heap[b]? = some (.cells #[.int .i64 z] 3 (0, 0))
theorem Vr.cell {w : World} {b : Nat} {z : Int} (h : Vr w b z) : w.cell? ⟨b, 0, none⟩ = some (.int .i64 z) := by simp [World.cell?, show w.heap[b]? = _ from h]
theorem Vr.free {w : World} {b : Nat} {z : Int} (h : Vr w b z) : w.frozen? ⟨b, 0, none⟩ = false := by simp [World.frozen?, show w.heap[b]? = _ from h]
theorem Vr.lt {w : World} {b : Nat} {z : Int} (h : Vr w b z) : b < w.heap.size := lt_of_block h
theorem Vr.below {w w' : World} {b B : Nat} {z : Int} (h : Vr w b z) (hb : Below B w w') (hB : b < B) : Vr w' b z := (hb.block b hB).trans h
theorem Vr.new (w : World) (z : Int) : Vr (w.alloc (.cells #[.int .i64 z] 3)) w.heap.size z := heap_alloc_new _ _
theorem Vr.put {w : World} {b : Nat} {z y : Int} (h : Vr w b z) : Vr (w.setCell ⟨b, 0, none⟩ (.int .i64 y)) b y := by
  unfold Vr at h ⊢
  have := Go.setCell_eq_setRow w b 0 _ _ _ (.int .i64 y) h
  rw [this]
  exact setRow_heap w b _ _ _ _ h
/-- the number in the variable that a pointer leads to -/
def held (w : World) (v : Value) : Nat := match v with
  | .pointer (some a) => match w.cell? a with
    | some x => (intOf x).toNat
    | none => 0
  | _ => 0
theorem Vr.held {w : World} {b : Nat} {z : Int} (h : Vr w b z) : held w (.pointer (some ⟨b, 0, none⟩)) = z.toNat := by
  simp [PHal.held, h.cell, intOf]

theorem hopsOn_snoc {ks : List Lnk} : ∀ (t : List Step) (a b : Step), hopsOn ks a (t ++ [b]) = match hopsOn ks a t with
    | none => none
    | some H => match hopTo ks ((a :: t).getLastD (0, 0)) b with
      | none => none
      | some h => some (H ++ [h])
  | [], a, b => by
    simp only [List.nil_append, hopsOn, List.getLastD_cons, List.getLastD_nil]
    cases hopTo ks a b <;> rfl
  | c :: t, a, b => by
    have ih := hopsOn_snoc (ks := ks) t c b
    simp only [List.cons_append, hopsOn]
    cases hopTo ks a c with
    | none => rfl
    | some h =>
      simp only
      rw [ih]
      have e : (a :: c :: t).getLastD (0, 0) = (c :: t).getLastD (0, 0) := by simp
      rw [e]
      cases hopsOn ks c t with
      | none => rfl
      | some H =>
        simp only
        cases hopTo ks ((c :: t).getLastD (0, 0)) b <;> rfl
theorem take_last {L : List Step} {q : Nat} {a : Step} (h : L[q]? = some a) : (L.take (q + 1)).getLastD (0, 0) = a := by
  rw [List.take_add_one, h]; simp
theorem along_step {ks : List Lnk} {L : List Step} {q : Nat} {a b : Step} {H : List Hop} (h0 : L[q]? = some a) (h1 : L[q + 1]? = some b) (hH : along ks (L.take (q + 1)) = some H) :
    along ks (L.take (q + 2)) = match hopTo ks a b with
      | none => none
      | some h => some (H ++ [h]) := by
  have hl := take_last h0
  have e : L.take (q + 2) = L.take (q + 1) ++ [b] := by rw [show q + 2 = (q + 1) + 1 from rfl, List.take_add_one, h1]; rfl
  cases hL : L.take (q + 1) with
  | nil =>
    have : L = [] := by
      cases L with
      | nil => rfl
      | cons x r => simp at hL
    subst this
    simp at h0
  | cons x r =>
    rw [hL] at hH hl e
    rw [e]
    show hopsOn ks x (r ++ [b]) = _
    rw [hopsOn_snoc, show hopsOn ks x r = some H from hH, hl]
theorem hopsOn_none {ks : List Lnk} : ∀ (t u : List Step) (a : Step), hopsOn ks a t = none → hopsOn ks a (t ++ u) = none
  | [], u, a, h => by cases h
  | c :: t, u, a, h => by
    have ih := hopsOn_none (ks := ks) t u c
    simp only [List.cons_append, hopsOn] at h ⊢
    cases e : hopTo ks a c with
    | none => rfl
    | some x =>
      rw [e] at h
      simp only at h ⊢
      cases e2 : hopsOn ks c t with
      | none => rw [ih e2]
      | some H => rw [e2] at h; cases h
theorem along_none {ks : List Lnk} {L : List Step} {k : Nat} (h : along ks (L.take k) = none) : along ks L = none := by
  have e : L = L.take k ++ L.drop k := (List.take_append_drop k L).symm
  cases hL : L.take k with
  | nil => rw [hL] at h; cases h
  | cons x r =>
    rw [hL] at h e
    rw [e]
    exact hopsOn_none r _ x h
theorem along_none_at {ks : List Lnk} {L : List Step} {q : Nat} {a b : Step} {H : List Hop} (h0 : L[q]? = some a) (h1 : L[q + 1]? = some b) (hH : along ks (L.take (q + 1)) = some H) (hn : hopTo ks a b = none) : along ks L = none := by
  refine along_none (k := q + 2) ?_
  rw [along_step h0 h1 hH, hn]
theorem along_one (ks : List Lnk) (L : List Step) : along ks (L.take 1) = some [] := by
  cases L with
  | nil => rfl
  | cons x r => rfl

set_option maxRecDepth 100000 in
set_option maxHeartbeats 8000000 in
theorem p_along (v : LV) (l : Lay) (A : Option Addr) (n c : Nat) (L : List Step) (w : World) (hL : RdL w w.heap.size v l) (hR : Rd stpR w w.heap.size A n L) (hin : ∀ s ∈ L, hasB l s = true) (hn : n ≤ 100) :
    Calls Tryz.prog 54 #[v.val, .slice A n c] w fun e w' => ∃ A' n' c', e = .returned (.tuple #[.slice A' n' c', .bool (along l.links L).isSome]) ∧ Own hopR w' w.heap.size (.slice A' n' c') n' ((along l.links L).getD []) ∧ Below w.heap.size w w' := by
  obtain ⟨ih, hih, hz0, hz1, hz2⟩ := info_parts infoHop
  obtain ⟨W, hW⟩ : ∃ W, (w.alloc (.cells #[.slice v.A1 v.n1 v.c1, .slice v.A2 v.n2 v.c2, .slice v.A3 v.n3 v.c3, .slice v.A4 v.n4 v.c4] 26)).alloc (.cells #[.slice A n c] 27) = W := ⟨_, rfl⟩
  have hbW : Below w.heap.size w W := by rw [← hW]; exact ((Below.refl _ _).alloc (Nat.le_refl _) _).alloc (by simp) _
  have hzW : W.heap.size = w.heap.size + 2 := by rw [← hW]; simp
  have hbox : W.cell? ⟨w.heap.size, 0, none⟩ = some (.slice v.A1 v.n1 v.c1) ∧ W.cell? ⟨w.heap.size, 1, none⟩ = some (.slice v.A2 v.n2 v.c2) ∧ W.cell? ⟨w.heap.size, 2, none⟩ = some (.slice v.A3 v.n3 v.c3) ∧ W.cell? ⟨w.heap.size, 3, none⟩ = some (.slice v.A4 v.n4 v.c4) := by rw [← hW]; simp
  have hsb : W.cell? ⟨w.heap.size + 1, 0, none⟩ = some (.slice A n c) := by rw [← hW]; simp
  have HK : Hid (∀ wr, Below W.heap.size W wr → _) := fun wr hb => box_kept hb (show w.heap.size < W.heap.size by omega) hbox
  have HSB : Hid (∀ wr, Below W.heap.size W wr → wr.cell? ⟨w.heap.size + 1, 0, none⟩ = some (.slice A n c)) := fun wr hb => (hb.cell (p := ⟨w.heap.size + 1, 0, none⟩) (by show w.heap.size + 1 < W.heap.size; omega)).trans hsb
  have HLW := Lib.hid (hL.grow hbW hbW.size)
  have HRW := Lib.hid (hR.grow hbW hbW.size)
  have HBW := Lib.hid hbW
  have HZ := Lib.hid hzW
  have HIN := Lib.hid hin
  have HLL := Lib.hid hR.1
  clear hL hR hbW hzW hbox hsb hin
  obtain ⟨W0, hW0⟩ : ∃ W0, W.alloc (.cells #[.int .i64 1] 3) = W0 := ⟨_, rfl⟩
  have hb0 : Below W.heap.size W W0 := by rw [← hW0]; exact (Below.refl _ _).alloc (Nat.le_refl _) _
  have hv0 : Vr W0 W.heap.size 1 := by rw [← hW0]; exact Vr.new W 1
  have HB0 := Lib.hid hb0
  have HV0 := Lib.hid hv0
  clear hb0 hv0
  obtain ⟨A1, n1, c1, A2, n2, c2, A3, n3, c3, A4, n4, c4⟩ := v
  simp only [LV.val] at *
  go_enter Tryz.func54, Tryz.ntmps54
  go_upto_region 2 with fail
  try rw [hW]
  go_wp2_with fail
  try rw [hW0]
  clear hW hW0
  have HE0 : Hid (∃ H, along l.links (L.take (0 + 1)) = some H ∧ H = []) := ⟨[], along_one _ _, rfl⟩
  go_loopw [6, 7, 8, 9] (fun h ip _ _ wr => ∃ (q B nn cc : Nat) (AA : Option Addr) (H : List Hop), (q < n ∨ q = 0) ∧ nn ≤ q ∧ h = .slice AA nn cc ∧ ip = .pointer (some ⟨B, 0, none⟩) ∧ Vr wr B ((q : Int) + 1) ∧ Own hopR wr W.heap.size (.slice AA nn cc) nn H ∧ Hid (∀ g, (Value.slice AA nn cc).ownBlock = some g → g < B) ∧
    W.heap.size ≤ B ∧ Hid (along l.links (L.take (q + 1)) = some H) ∧ Below W.heap.size W wr) (fun _ ip _ _ wr => n + 1 - held wr ip)
  case atStart => exact ⟨0, W.heap.size, 0, 0, none, [], .inr rfl, Nat.le_refl _, rfl, rfl, HV0.out, Own.nil _ _, fun g hg => by simp [Value.ownBlock] at hg, Nat.le_refl _, along_one _ _, HB0.out⟩
  case round =>
    obtain ⟨q, B, nn, cc, AA, H, hq, hnn, rfl, rfl, hv, hO, HG, hBW, HA, hbr⟩ := hrel
    clear HE0 HV0 HB0
    have hzr := hbr.size
    have hvlt := hv.lt
    have HM := Lib.hid hv.held
    have v0 := hv.cell
    have s0 := HSB.out wr hbr
    obtain ⟨b0, b1, b2, b3⟩ := HK.out wr hbr
    by_cases hlt : q + 1 < n
    · have hkn : (q : Int) + 1 < (n : Int) := by omega
      have hqn : (q : Int) < (n : Int) := by omega
      have hq0 : (0 : Int) ≤ (q : Int) := by omega
      have hRr := HRW.out.below hbr
      obtain ⟨ad, x, y, rfl, hab, hs, d0, d1⟩ := loadStp hRr (show q < n by omega)
      have HX := Lib.hid hs
      obtain ⟨x2, y2, hs2⟩ : ∃ x2 y2, L[q + 1]? = some (x2, y2) := by
        have := HLL.out
        exact ⟨_, _, List.getElem?_eq_getElem (show q + 1 < L.length by omega)⟩
      have HX2 := Lib.hid hs2
      have hhas : hasB l (x, y) = true := HIN.out _ (List.mem_of_getElem? hs)
      have HP := Lib.hid (p_hops ⟨A1, n1, c1, A2, n2, c2, A3, n3, c3, A4, n4, c4⟩ l (x, y) wr.drew ((HLW.out.grow hbr hzr).below (Below.refl _ _).drew))
      rw [show hopsOf l (x, y) = hops l.links (x, y) by unfold hopsOf; rw [if_pos hhas]] at HP
      have HV := Lib.hid hv
      have HO1 := Lib.hid hO
      have HBR := Lib.hid hbr
      simp only [LV.val] at HP
      clear hs hs2 hhas hRr hv hO hbr hab
      have hw1 : IntKind.i64.wrap (q : Int) = q := by rw [IntKind.wrap_i64]; omega
      go_wp2_with fail
      go_still_tail 6, (by kernel_rfl)
      change wpList _ _ _ _ _ wr.drew
      go_wp2_with fail
      refine HP.out.mono ?_
      rintro e w2 ⟨Aw, nw, cw, rfl, hOw, hb2'⟩
      have hb2 : Below wr.heap.size wr w2 := (Below.refl _ _).drew.trans hb2'
      have hzw2 := hb2.size
      have HB2 := Lib.hid (HBR.out.trans (hb2.mono hzr))
      have HV2 := Lib.hid (HV.out.below hb2 hvlt)
      have HO2 := Lib.hid (HO1.out.below hb2 (Nat.le_refl _))
      have HRw := Lib.hid hOw.rd
      have hnw := hOw.1
      have HC := Lib.hid (index_hop (fun h => decide (h.to = (x2, y2))) 77 #[.pointer (some ⟨w.heap.size + 1, 0, none⟩), .pointer (some ⟨B, 0, none⟩)] (enters_of Tryz.func77 (by kernel_rfl) rfl) Aw nw cw (hops l.links (x, y)) w2 HRw.out (by have := (show Recs.Own hopR w2 wr.drew.heap.size (.slice Aw nw cw) nw _ from hOw).form; obtain ⟨_, _, e, h1, h2⟩ := this; injection e; subst_vars; unfold maxLen at h2; omega)
        (to_one (w.heap.size + 1) B (some ad) n c (q + 1) L (x2, y2) w2 (by have := HZ.out; have := HB2.out.size; omega) (by omega) (HRW.out.grow HB2.out HB2.out.size) (HSB.out w2 HB2.out) HV2.out.cell HX2.out (by omega)))
      have HFD := Lib.hid (idx_find (fun h : Hop => decide (h.to = (x2, y2))) (hops l.links (x, y)))
      have HLE := Lib.hid (idx_le (fun h : Hop => decide (h.to = (x2, y2))) (hops l.links (x, y)))
      generalize idx (fun h : Hop => decide (h.to = (x2, y2))) (hops l.links (x, y)) = z at HC HFD HLE
      clear hb2 hb2' hOw d0 d1 s0 b0 b1 b2 b3 v0
      go_wp2_with fail
      refine HC.out.mono ?_
      rintro e w3 ⟨rfl, hb3⟩
      have hzw3 := hb3.size
      have HB3 := Lib.hid (HB2.out.trans (hb3.mono HB2.out.size))
      have HV3 := Lib.hid (HV2.out.below hb3 (by omega))
      have HO3 := Lib.hid (HO2.out.below hb3 (Nat.le_refl _))
      have HR3 := Lib.hid (HRw.out.grow hb3 hzw3)
      clear hb3
      by_cases hzz : z < 0
      · have E : Hid (along l.links L = none) := by
          have h1 := HFD.out
          rw [if_neg (by omega)] at h1
          exact along_none_at HX.out HX2.out HA.out h1
        clear HFD HLE
        go_wp2_with fail
        go_ret2
        exact ⟨none, 0, 0, by rw [E.out]; rfl, by rw [E.out]; exact Own.nil _ _, HBW.out.trans (HB3.out.mono HBW.out.size)⟩
      · obtain ⟨j, rfl⟩ : ∃ j : Nat, z = (j : Int) := ⟨z.toNat, by omega⟩
        have hjn : j < nw := by have := HLE.out.2; omega
        have hj0 : (0 : Int) ≤ (j : Int) := by omega
        have hjn' : (j : Int) < (nw : Int) := by omega
        obtain ⟨ae, ⟨⟨ha, hb⟩, pt, ps⟩, rfl, hae, hj, e0, e1, e2, e3⟩ := loadHop HR3.out hjn
        have E : Hid (along l.links (L.take (q + 1 + 1)) = some (H ++ [⟨(ha, hb), pt, ps⟩])) := by
          have h1 := HFD.out
          rw [if_pos (by omega)] at h1
          obtain ⟨u, h2, h3⟩ := h1
          rw [Int.toNat_natCast, hj] at h2
          obtain rfl := Option.some.inj h2
          rw [Hid, show q + 1 + 1 = q + 2 from rfl, along_step HX.out HX2.out HA.out, show hopTo l.links (x, y) (x2, y2) = _ from h3]
        simp only at e0 e1 e2 e3
        have hn63 : nn + 1 ≤ maxLen := by unfold maxLen; omega
        have hby : (nn + 1) * 32 ≤ 140737488355328 := by omega
        have hWz := HB3.out.size
        clear hj hae HFD HLE HC HP hzz hnw
        go_wp2_with (at_builtin; refine wpList_append_own _ rfl _ _ 67 rfl W.heap.size 70 ih _ 4 32 Tryz.underlying67 hih hz0 hz1 hz2 rfl (by omega) (.slice AA nn cc) nn (hopR.cs H) rfl (HO3.out.2.alloc _) ⟨w3.heap.size, 0, none⟩ 1 1 [.int .i64 ha, .int .i64 hb, .int .i64 pt, .int .i64 ps] rfl rfl (World.news_of_block (cs := #[.int .i64 ha, .int .i64 hb, .int .i64 pt, .int .i64 ps]) (t := 70) (fr := (0, 0)) (heap_alloc_new _ _)) (by simp [Value.oneCell']) hn63 hby (by simp; omega) ?_)
        intro v7 w7 hown7 hgrow7 _
        have hO7 := Own.push (R := hopR) (a := ⟨(ha, hb), pt, ps⟩) HO3.out.1 hown7
        have hb7 := (HB3.out.alloc hWz (.cells #[.int .i64 ha, .int .i64 hb, .int .i64 pt, .int .i64 ps] 70)).grown hgrow7 (by simp; omega) (fun k hk => (HO3.out.2.lt k hk).1)
        obtain ⟨A', c7, rfl, _⟩ := hO7.form
        have hv7 : Vr w7 B ((q : Int) + 1) := by
          have h1 := hgrow7.block B (by have := HV3.out.lt; simp; omega) (fun e => by have := HG.out B e.symm; omega)
          rw [Vr, h1, show (w3.alloc _).heap[B]? = w3.heap[B]? from Below.heap_alloc _ _ _ HV3.out.lt]
          exact HV3.out
        have hg7 : ∀ g, (Value.slice A' (nn + 1) c7).ownBlock = some g → g < w7.heap.size := fun g hg => (hO7.2.lt g hg).2
        have HG7 := Lib.hid hg7
        have HO7 := Lib.hid hO7
        have HB7 := Lib.hid hb7
        have HW7 := Lib.hid (Vr.new w7 ((q : Int) + 1))
        have hz7 := hb7.size
        have v7 := hv7.cell
        clear hown7 hgrow7 hO7 hb7 hv7 hg7
        go_upto_region 11 with fail
        obtain ⟨w8, hw8⟩ : ∃ w8, w7.alloc (.cells #[.int .i64 ((q : Int) + 1)] 3) = w8 := ⟨_, rfl⟩
        have hb8 : Below w7.heap.size w7 w8 := by rw [← hw8]; exact (Below.refl _ _).alloc (Nat.le_refl _) _
        have hv8 : Vr w8 w7.heap.size ((q : Int) + 1) := by rw [← hw8]; exact Vr.new _ _
        go_upto_region 4 with fail
        try rw [hw8]
        clear hw8 v7
        have f8 := hv8.free
        have c8 := hv8.cell
        have HO8 := Lib.hid (HO7.out.below hb8 (Nat.le_refl _))
        have HB8 := Lib.hid (HB7.out.trans (hb8.mono hz7))
        have HV8 := Lib.hid hv8
        have hw2' : IntKind.i64.wrap ((q : Int) + 1 + 1) = (q : Int) + 1 + 1 := by rw [IntKind.wrap_i64]; omega
        clear hv8 hb8
        go_wp2_with fail
        go_roundw
        case rel => 
          refine ⟨q + 1, w7.heap.size, nn + 1, c7, A', H ++ [⟨(ha, hb), pt, ps⟩], .inl hlt, by omega, rfl, rfl, ?_, ?_, HG7.out, by omega, E, ?_⟩
          · have := HV8.out.put (y := (q : Int) + 1 + 1)
            rw [show (((q + 1 : Nat) : Int) + 1) = (q : Int) + 1 + 1 by omega]
            exact this
          · exact own_past HO8.out (fun e => by have := HG7.out _ e; omega)
          · exact HB8.out.setCell (by show W.heap.size ≤ w7.heap.size; omega) _
        case measure =>
          have h1 := HM.out
          have h2 := (HV8.out.put (y := (q : Int) + 1 + 1)).held
          rw [h1, h2]
          omega
    · have E : Hid (along l.links L = some H) := by
        have h1 := HA.out
        rw [List.take_of_length_le (by have := HLL.out; omega)] at h1
        exact h1
      have hkn : ¬ (q : Int) + 1 < (n : Int) := by omega
      have HO1 := Lib.hid hO
      have HBR := Lib.hid hbr
      clear hO hbr HM
      go_wp2_with fail
      go_ret2
      exact ⟨AA, nn, cc, by rw [E.out]; rfl, by rw [E.out]; exact HO1.out.base_ (by have := HBW.out.size; omega), HBW.out.trans (HBR.out.mono HBW.out.size)⟩
end Go.Proofs.YtnfelcjpjodjhaaGreat.PHal

namespace Go.Proofs.YtnfelcjpjodjhaaGreat.PTra
open Go.ChangeShapes Go.WideShapes Go.ChangeAt Go.RowKit Wd Small Mem Lay LayT Recs Keep Names PNames PSecs PLinks PEnds PTab PLnk PCheck PStep PHops Rt RtR PIdx PTwi PAlo PHal
set_option linter.unusedVariables false

theorem has_in {l : Lay} (h : check l = 0) (s : Lay.Step) : hasB l s = stepIn l.sections.length s := by
  obtain ⟨x, y⟩ := s
  unfold hasB stepOK stepIn nof
  rw [Bool.eq_iff_iff]
  simp [h]
section
variable {l : Lay} {L : List Lay.Step} {ov : Int}
theorem err_a (h : check l ≠ 0) : rerr l ⟨L, ov⟩ = 1 := by unfold rerr; rw [if_pos h]
theorem err_b (h : check l = 0) (h2 : 24 < L.length ∨ 2 < ov) : rerr l ⟨L, ov⟩ = 7 := by unfold rerr; rw [if_neg (by omega), if_pos h2]
theorem err_c (h : check l = 0) (h2 : ¬ (24 < L.length ∨ 2 < ov)) (h3 : ov < 0 ∨ (L.length : Int) - ov < 2 ∨ (L.any fun s => !stepIn l.sections.length s) = true) : rerr l ⟨L, ov⟩ = 4 := by
  unfold rerr; rw [if_neg (by omega), if_neg h2, if_pos h3]
theorem err_d (h : check l = 0) (h2 : ¬ (24 < L.length ∨ 2 < ov)) (h3 : ¬ (ov < 0 ∨ (L.length : Int) - ov < 2 ∨ (L.any fun s => !stepIn l.sections.length s) = true)) (h4 : twice [] L = true) : rerr l ⟨L, ov⟩ = 5 := by
  unfold rerr; rw [if_neg (by omega), if_neg h2, if_neg h3, if_pos h4]
theorem err_e (h : check l = 0) (h2 : ¬ (24 < L.length ∨ 2 < ov)) (h3 : ¬ (ov < 0 ∨ (L.length : Int) - ov < 2 ∨ (L.any fun s => !stepIn l.sections.length s) = true)) (h4 : ¬ twice [] L = true) : rerr l ⟨L, ov⟩ = if along l.links L = none then 11 else 0 := by
  unfold rerr; rw [if_neg (by omega), if_neg h2, if_neg h3, if_neg h4]
end
/-- a route as an argument -/
def rteV (A : Option Addr) (n c : Nat) (ov : Int) : Value := .agg #[.slice A n c, .int .i64 ov]
/-- what a call leaves that answers the hops of a route's transitions and the first error -/
def TranPost (l : Lay) (r : Rte) (w : World) (e : Ending) (w' : World) : Prop := ∃ A' n' c', e = .returned (.tuple #[.slice A' n' c', .int .i64 (rerr l r)]) ∧ Own hopR w' w.heap.size (.slice A' n' c') n' (transit l r) ∧ Below w.heap.size w w'
theorem tran_bad {l : Lay} {r : Rte} {w w' : World} {z : Int} (hz : rerr l r = z) (h0 : z ≠ 0) (hb : Below w.heap.size w w') : TranPost l r w (.returned (.tuple #[.slice none 0 0, .int .i64 z])) w' :=
  ⟨none, 0, 0, by rw [hz], by rw [transit_bad (by rw [hz]; exact h0)]; exact Own.nil _ _, hb⟩

set_option maxRecDepth 100000 in
set_option maxHeartbeats 4000000 in
theorem p_tran (v : LV) (l : Lay) (A : Option Addr) (n c : Nat) (L : List Lay.Step) (ov : Int) (w : World) (hL : RdL w w.heap.size v l) (hR : Rd stpR w w.heap.size A n L) (hnc : n ≤ c) (hc : c ≤ 9223372036854775807) (ho1 : -9223372036854775808 ≤ ov) (ho2 : ov ≤ 9223372036854775807) :
    Calls Tryz.prog 31 #[v.val, rteV A n c ov] w (TranPost l ⟨L, ov⟩ w) := by
  obtain ⟨W, hW⟩ : ∃ W, (w.alloc (.cells #[.slice v.A1 v.n1 v.c1, .slice v.A2 v.n2 v.c2, .slice v.A3 v.n3 v.c3, .slice v.A4 v.n4 v.c4] 26)).alloc (.cells #[.slice A n c, .int .i64 ov] 29) = W := ⟨_, rfl⟩
  have hbW : Below w.heap.size w W := by rw [← hW]; exact ((Below.refl _ _).alloc (Nat.le_refl _) _).alloc (by simp) _
  have hzW : W.heap.size = w.heap.size + 2 := by rw [← hW]; simp
  have hbox : W.cell? ⟨w.heap.size, 0, none⟩ = some (.slice v.A1 v.n1 v.c1) ∧ W.cell? ⟨w.heap.size, 1, none⟩ = some (.slice v.A2 v.n2 v.c2) ∧ W.cell? ⟨w.heap.size, 2, none⟩ = some (.slice v.A3 v.n3 v.c3) ∧ W.cell? ⟨w.heap.size, 3, none⟩ = some (.slice v.A4 v.n4 v.c4) := by rw [← hW]; simp
  have hsb : W.cell? ⟨w.heap.size + 1, 0, none⟩ = some (.slice A n c) ∧ W.cell? ⟨w.heap.size + 1, 1, none⟩ = some (.int .i64 ov) := by rw [← hW]; simp
  have HK : Hid (∀ wr, Below W.heap.size W wr → _) := fun wr hb => box_kept hb (show w.heap.size < W.heap.size by omega) hbox
  have HSB : Hid (∀ wr, Below W.heap.size W wr → wr.cell? ⟨w.heap.size + 1, 0, none⟩ = some (.slice A n c) ∧ wr.cell? ⟨w.heap.size + 1, 1, none⟩ = some (.int .i64 ov)) := fun wr hb => ⟨(hb.cell (p := ⟨w.heap.size + 1, 0, none⟩) (by show w.heap.size + 1 < W.heap.size; omega)).trans hsb.1, (hb.cell (p := ⟨w.heap.size + 1, 1, none⟩) (by show w.heap.size + 1 < W.heap.size; omega)).trans hsb.2⟩
  have HLW := Lib.hid (hL.grow hbW hbW.size)
  have HRW := Lib.hid (hR.grow hbW hbW.size)
  have HBW := Lib.hid hbW
  have HZ := Lib.hid hzW
  have HLL := Lib.hid hR.1
  have HP := Lib.hid (p_check v l W (hL.grow hbW hbW.size))
  clear hL hR hbW hzW hbox hsb
  simp only [rteV]
  have HPt : Hid (∀ wr, Below W.heap.size W wr → _) := fun wr hb => p_twice A n c L wr (HRW.out.grow hb hb.size) hnc (by omega) hc
  have HPf : Hid (∀ wr, Below W.heap.size W wr → _) := fun wr hb => contains_stp (fun s => !hasB l s) 49 #[.pointer (some ⟨w.heap.size, 0, none⟩)] (enters_of Tryz.func49 (by kernel_rfl) rfl) A n c L wr (HRW.out.grow hb hb.size) (by omega)
    (foreign_one w.heap.size v l wr (by have := HZ.out; have := hb.size; omega) (HLW.out.grow hb hb.size) (HK.out wr hb).1 (HK.out wr hb).2.1 (HK.out wr hb).2.2.1 (HK.out wr hb).2.2.2)
  have HPa : Hid (∀ wr, Below W.heap.size W wr → n ≤ 100 → (∀ s ∈ L, hasB l s = true) → _) := fun wr hb h1 h2 => p_along v l A n c L wr (HLW.out.grow hb hb.size) (HRW.out.grow hb hb.size) h2 h1
  obtain ⟨b0, b1, b2, b3⟩ := HK.out W (Below.refl _ _)
  obtain ⟨A1, n1, c1, A2, n2, c2, A3, n3, c3, A4, n4, c4⟩ := v
  simp only [LV.val] at *
  go_enter Tryz.func31, Tryz.ntmps31
  go_wp2_with fail
  try rw [hW]
  clear hW
  refine HP.out.mono ?_
  rintro e w1 ⟨rfl, hb1⟩
  have HB1 := Lib.hid hb1
  clear b0 b1 b2 b3 HP hb1
  obtain ⟨b0, b1, b2, b3⟩ := HK.out w1 HB1.out
  obtain ⟨s0, s1⟩ := HSB.out w1 HB1.out
  have HBX1 := Lib.hid (HBW.out.trans (HB1.out.mono HBW.out.size))
  by_cases hck : check l = 0
  · have HCK := Lib.hid hck
    rw [hck]
    clear hck
    have hnl := HLL.out
    by_cases h24 : 24 < n
    · have h24' : (24 : Int) < (n : Int) := by omega
      have E := Lib.hid (err_b (L := L) (ov := ov) HCK.out (.inl (by omega)))
      go_wp2_with fail
      go_ret2
      exact tran_bad E.out (by decide) HBX1.out
    · have h24' : ¬ (24 : Int) < (n : Int) := by omega
      by_cases ho : 2 < ov
      · have E := Lib.hid (err_b (L := L) (ov := ov) HCK.out (.inr ho))
        go_wp2_with fail
        go_ret2
        exact tran_bad E.out (by decide) HBX1.out
      · have HN2 : Hid (¬ (24 < L.length ∨ 2 < ov)) := by rw [Hid]; omega
        by_cases hneg : ov < 0
        · have E := Lib.hid (err_c (L := L) (ov := ov) HCK.out HN2.out (.inl hneg))
          go_wp2_with fail
          go_ret2
          exact tran_bad E.out (by decide) HBX1.out
        · by_cases hfew : (n : Int) - ov < 2
          · have E := Lib.hid (err_c (L := L) (ov := ov) HCK.out HN2.out (.inr (.inl (by omega))))
            go_wp2_with fail
            go_ret2
            exact tran_bad E.out (by decide) HBX1.out
          · go_wp2_with fail
            refine (HPf.out w1 HB1.out).mono ?_
            rintro e w2 ⟨rfl, hb2⟩
            have HB2 := Lib.hid (HB1.out.trans (hb2.mono HB1.out.size))
            have HBX2 := Lib.hid (HBW.out.trans (HB2.out.mono HBW.out.size))
            clear b0 b1 b2 b3 s0 s1 hb2 HPf
            obtain ⟨b0, b1, b2, b3⟩ := HK.out w2 HB2.out
            obtain ⟨s0, s1⟩ := HSB.out w2 HB2.out
            have HF : Hid ((L.any fun s => !hasB l s) = L.any fun s => !stepIn l.sections.length s) := by
              rw [Hid]; congr 1; funext s; rw [has_in HCK.out]
            cases hf : (L.any fun s => !hasB l s) with
            | true =>
              have E := Lib.hid (err_c (L := L) (ov := ov) HCK.out HN2.out (.inr (.inr (by rw [← HF.out]; exact hf))))
              clear hf HF
              go_wp2_with fail
              go_ret2
              exact tran_bad E.out (by decide) HBX2.out
            | false =>
              have HN3 : Hid (¬ (ov < 0 ∨ (L.length : Int) - ov < 2 ∨ (L.any fun s => !stepIn l.sections.length s) = true)) := by
                rw [Hid, ← HF.out, hf]; simp; omega
              have HIN : Hid (∀ s ∈ L, hasB l s = true) := fun s hs => by
                cases e : hasB l s with
                | true => rfl
                | false =>
                  have h1 : (L.any fun s => !hasB l s) = true := List.any_eq_true.2 ⟨s, hs, by rw [e]; rfl⟩
                  rw [hf] at h1
                  cases h1
              clear hf HF
              go_wp2_with fail
              refine (HPt.out w2 HB2.out).mono ?_
              rintro e w3 ⟨rfl, hb3⟩
              have HB3 := Lib.hid (HB2.out.trans (hb3.mono HB2.out.size))
              have HBX3 := Lib.hid (HBW.out.trans (HB3.out.mono HBW.out.size))
              clear b0 b1 b2 b3 s0 s1 hb3 HPt
              obtain ⟨b0, b1, b2, b3⟩ := HK.out w3 HB3.out
              obtain ⟨s0, s1⟩ := HSB.out w3 HB3.out
              cases ht : twice [] L with
              | true =>
                have E := Lib.hid (err_d (L := L) (ov := ov) HCK.out HN2.out HN3.out ht)
                clear ht
                go_wp2_with fail
                go_ret2
                exact tran_bad E.out (by decide) HBX3.out
              | false =>
                have E := Lib.hid (err_e (L := L) (ov := ov) HCK.out HN2.out HN3.out (by rw [ht]; decide))
                clear ht
                go_wp2_with fail
                refine (HPa.out w3 HB3.out (by omega) HIN.out).mono ?_
                rintro e w4 ⟨A', n', c', rfl, hO4, hb4⟩
                have HB4 := Lib.hid (HBX3.out.trans (hb4.mono HBX3.out.size))
                have HO4 := Lib.hid hO4
                clear b0 b1 b2 b3 s0 s1 hb4 hO4
                cases ha : along l.links L with
                | none =>
                  have E2 : Hid (rerr l ⟨L, ov⟩ = 11) := by rw [Hid, E.out, if_pos ha]
                  go_wp2_with fail
                  go_ret2
                  exact tran_bad E2.out (by decide) HB4.out
                | some H =>
                  have E2 : Hid (rerr l ⟨L, ov⟩ = 0) := by rw [Hid, E.out, if_neg (by rw [ha]; simp)]
                  have E3 : Hid (transit l ⟨L, ov⟩ = (along l.links L).getD []) := by rw [Hid, transit, if_pos E2.out]
                  go_wp2_with fail
                  go_ret2
                  exact ⟨A', n', c', by rw [E2.out]; rfl, by rw [E3.out]; exact HO4.out.base_ (HBX3.out.size), HB4.out⟩
  · have E := Lib.hid (err_a (L := L) (ov := ov) hck)
    generalize check l = z at *
    go_wp2_with fail
    go_ret2
    exact tran_bad E.out (by decide) HBX1.out

set_option maxRecDepth 100000 in
set_option maxHeartbeats 1000000 in
theorem p_rcheck (v : LV) (l : Lay) (A : Option Addr) (n c : Nat) (L : List Lay.Step) (ov : Int) (w : World) (hL : RdL w w.heap.size v l) (hR : Rd stpR w w.heap.size A n L) (hnc : n ≤ c) (hc : c ≤ 9223372036854775807) (ho1 : -9223372036854775808 ≤ ov) (ho2 : ov ≤ 9223372036854775807) :
    Calls Tryz.prog 16 #[v.val, rteV A n c ov] w (ErrPost (rerr l ⟨L, ov⟩) w) := by
  obtain ⟨W, hW⟩ : ∃ W, (w.alloc (.cells #[.slice v.A1 v.n1 v.c1, .slice v.A2 v.n2 v.c2, .slice v.A3 v.n3 v.c3, .slice v.A4 v.n4 v.c4] 26)).alloc (.cells #[.slice A n c, .int .i64 ov] 29) = W := ⟨_, rfl⟩
  have hbW : Below w.heap.size w W := by rw [← hW]; exact ((Below.refl _ _).alloc (Nat.le_refl _) _).alloc (by simp) _
  have HP := Lib.hid (p_tran v l A n c L ov W (hL.grow hbW hbW.size) (hR.grow hbW hbW.size) hnc hc ho1 ho2)
  have HB := Lib.hid hbW
  have hbox : W.cell? ⟨w.heap.size, 0, none⟩ = some (.slice v.A1 v.n1 v.c1) ∧ W.cell? ⟨w.heap.size, 1, none⟩ = some (.slice v.A2 v.n2 v.c2) ∧ W.cell? ⟨w.heap.size, 2, none⟩ = some (.slice v.A3 v.n3 v.c3) ∧ W.cell? ⟨w.heap.size, 3, none⟩ = some (.slice v.A4 v.n4 v.c4) := by rw [← hW]; simp
  have hsb : W.cell? ⟨w.heap.size + 1, 0, none⟩ = some (.slice A n c) ∧ W.cell? ⟨w.heap.size + 1, 1, none⟩ = some (.int .i64 ov) := by rw [← hW]; simp
  clear hL hR hbW
  obtain ⟨b0, b1, b2, b3⟩ := hbox
  obtain ⟨s0, s1⟩ := hsb
  obtain ⟨A1, n1, c1, A2, n2, c2, A3, n3, c3, A4, n4, c4⟩ := v
  simp only [LV.val, rteV] at *
  go_enter Tryz.func16, Tryz.ntmps16
  go_wp2_with fail
  try rw [hW]
  clear hW
  refine HP.out.mono ?_
  rintro e w2 ⟨A', n', c', rfl, hO, hb2⟩
  have HB2 := Lib.hid (HB.out.trans (hb2.mono HB.out.size))
  clear b0 b1 b2 b3 s0 s1 hO hb2
  go_wp2_with fail
  go_ret
  exact ⟨rfl, HB2.out⟩
end Go.Proofs.YtnfelcjpjodjhaaGreat.PTra

namespace Go.Proofs.YtnfelcjpjodjhaaGreat.PRep
open Go.ChangeShapes Go.WideShapes Go.ChangeAt Go.RowKit Wd Small Mem Lay LayT Recs Keep Names PNames PSecs PLinks PEnds PTab PLnk PCheck PStep PHops Rt RtR Cpk
set_option linter.unusedVariables false

/-- the cells of a row of which the first q are made -/
def half (c : Cel) (m q : Nat) : List Cel := List.replicate q c ++ List.replicate (m - q) ⟨0, 0⟩
theorem half_len (c : Cel) (m q : Nat) (h : q ≤ m) : (half c m q).length = m := by simp [half]; omega
theorem half_start (c : Cel) (m : Nat) (h : 1 ≤ m) : splice (madeCells (Value.agg #[.int .i64 0, .int .i64 0]).cells (m * 2)).toList 0 (celCells c) = celR.cs (half c m 1) := by
  have e : ∀ k : Nat, (madeCells (Value.agg #[.int .i64 0, .int .i64 0]).cells (k * 2)).toList = celR.cs (List.replicate k ⟨0, 0⟩) := by
    intro k
    have a1 : (madeCells (Value.agg #[.int .i64 0, .int .i64 0]).cells (k * 2)).toList = List.replicate (k * 2) (.int .i64 0) := by
      rw [List.eq_replicate_iff]
      refine ⟨by simp [madeCells], fun b hb => ?_⟩
      simp only [madeCells, Array.toList_map, List.mem_map] at hb
      obtain ⟨i, _, rfl⟩ := hb
      have hz : (Value.agg #[.int .i64 0, .int .i64 0]).cells = #[Value.int .i64 0, Value.int .i64 0] := rfl
      rw [hz]
      have : i % 2 = 0 ∨ i % 2 = 1 := by omega
      rcases this with e | e
      · simp [e]
      · simp [e]
    have a2 : celR.cs (List.replicate k (⟨0, 0⟩ : Cel)) = List.replicate (k * 2) (.int .i64 0) := by
      rw [List.eq_replicate_iff]
      refine ⟨by rw [Recs.cs_length]; simp [celR], fun b hb => ?_⟩
      obtain ⟨a, ha, hm⟩ := List.mem_flatMap.1 hb
      rw [List.mem_replicate] at ha
      rw [ha.2] at hm
      simp [celR, celCells] at hm
      exact hm
    rw [a1, a2]
  rw [e]
  obtain ⟨k, rfl⟩ : ∃ k, m = k + 1 := ⟨m - 1, by omega⟩
  simp [half, splice, List.replicate_succ, Rec.cs, celR, celCells]
theorem half_more (c : Cel) (m q k : Nat) (h : q + k ≤ m) : splice (celR.cs (half c m q)) (q * 2) (celR.cs (List.replicate k c)) = celR.cs (half c m (q + k)) := by
  have e1 : (celR.cs (List.replicate q c)).length = q * 2 := by rw [Recs.cs_length]; simp [celR]
  have e2 : (celR.cs (List.replicate k c)).length = k * 2 := by rw [Recs.cs_length]; simp [celR]
  have e3 : (celR.cs (List.replicate k (⟨0, 0⟩ : Cel))).length = k * 2 := by rw [Recs.cs_length]; simp [celR]
  have h1 : List.replicate (m - q) (⟨0, 0⟩ : Cel) = List.replicate k ⟨0, 0⟩ ++ List.replicate (m - (q + k)) ⟨0, 0⟩ := by rw [List.replicate_append_replicate]; congr 1; omega
  unfold splice half
  rw [h1, ← List.replicate_append_replicate (n := q) (m := k)]
  simp only [Recs.cs_append]
  rw [List.take_left' e1, ← List.append_assoc (celR.cs (List.replicate q c)) (celR.cs (List.replicate k (⟨0, 0⟩ : Cel))), List.drop_left' (by simp [e1, e2, e3])]
  simp

theorem half_cell {w : World} {g m q k j : Nat} {c : Cel} {v : Value} (h : w.heap[g]? = some (.cells (celR.cs (half c m q)).toArray 56 (0, 0))) (hk : k ≤ q) (hv : (celR.cs (List.replicate k c))[j]? = some v) : w.drew.cell? ((⟨g, 0, none⟩ : Addr).add j) = some v := by
  have e : (⟨g, 0, none⟩ : Addr).add j = ⟨g, j, none⟩ := by unfold Addr.add; split <;> simp_all
  have h1 : w.drew.heap[g]? = some (.cells (celR.cs (half c m q)).toArray 56 (0, 0)) := h
  rw [e]
  simp only [World.cell?, h1]
  have h2 : celR.cs (half c m q) = celR.cs (List.replicate k c) ++ celR.cs (List.replicate (q - k) c ++ List.replicate (m - q) ⟨0, 0⟩) := by
    rw [← Recs.cs_append, half, ← List.append_assoc, List.replicate_append_replicate, show k + (q - k) = q by omega]
  rw [h2]
  simp only [List.getElem?_toArray]
  rw [List.getElem?_append_left (List.getElem?_eq_some_iff.1 hv).1]
  exact hv
theorem infoCel2 : (Tryz.prog.info? 56).map (·.size) = some 2 := by kernel_rfl
set_option maxRecDepth 100000 in
set_option maxHeartbeats 4000000 in
theorem p_repeat (ad : Addr) (c : Cel) (m : Nat) (w : World) (h0 : w.cell? ad = some (.int .i64 c.lim)) (h1 : w.cell? ⟨ad.block, ad.off + 1, none⟩ = some (.int .i64 c.gr)) (hm : 1 ≤ m) (hm2 : m ≤ 100000) :
    Calls Tryz.prog 59 #[.slice (some ad) 1 1, .int .i64 m] w fun e w' => ∃ A' c', e = .returned (.slice A' m c') ∧ Own celR w' w.heap.size (.slice A' m c') m (List.replicate m c) ∧ Below w.heap.size w w' := by
  obtain ⟨ih, hih, hz0, hz1, hz2⟩ := info_parts infoCel
  have HM := Tryz.bits_Mul 1 m (by decide) (by omega) w
  rw [show 1 * m / 18446744073709551616 = 0 by omega, show 1 * m % 18446744073709551616 = m by omega] at HM
  have HM' := Lib.hid HM
  have hbl := World.block_lt_of_cell? w _ h0
  clear HM
  go_enter Tryz.func59, Tryz.ntmps59
  go_wp2_with fail
  refine HM'.out.mono ?_
  rintro e w1 ⟨rfl, rfl⟩
  go_upto_region 6 with fail
  go_upto_region 7 with (at_make; refine wpList_make_full _ rfl _ _ 51 rfl w1.heap.size 56 ih _ 2 Tryz.underlying51 hih hz0 hz1 .i64 .i64 _ _ m rfl rfl rfl rfl (by rw [hz2]; omega) (by unfold maxLen; omega) (Nat.le_refl _) ?_; intro w2 hown hg2)
  have hbw2 : Below w1.heap.size w1 w2 := (Below.refl _ _).grown hg2 (Nat.le_refl _) nofun
  have hrow : w2.heap[w1.heap.size]? = some (.cells ((madeCells (Value.agg #[.int .i64 0, .int .i64 0]).cells (m * 2)).toList).toArray 56 (0, 0)) := by
    rcases hown.2 with ⟨e, _⟩ | ⟨g, cap, cur, e, _, hh, _, _, h5, h6⟩
    · cases e
    · injection e with e1 _ e2
      injection e1 with e1
      injection e1 with e1
      subst e1 e2
      rw [List.take_of_length_le (by rw [← h5]; simp)] at h6
      rw [hh, ← h6]
  generalize hZ : (madeCells (Value.agg #[.int .i64 0, .int .i64 0]).cells (m * 2)).toList = Z at hrow
  have hZl : Z.length = m * 2 := by rw [← hZ]; simp [madeCells]
  have hst := half_start c m hm
  rw [hZ] at hst
  have HST := Lib.hid hst
  have e0 := (hbw2.cell (p := ad) hbl).trans h0
  have e1 := (hbw2.cell (p := ⟨ad.block, ad.off + 1, none⟩) hbl).trans h1
  have hsrc : ∀ j v, (celCells c)[j]? = some v → w2.cell? (ad.add j) = some v := fun j v hv => by
    match j, hv with
    | 0, hv => simp [celCells] at hv; subst hv; simpa [Addr.add] using e0
    | 1, hv => simp [celCells] at hv; subst hv; simpa [Addr.add] using e1
  clear hown hst hZ e0 e1
  have hrun := run_copy_k (P := Tryz.prog) w2 51 51 3 56 w1.heap.size 0 m m ad 1 1 2 Z.toArray 56 (celCells c) Tryz.underlying51 infoCel2 hrow (by rw [show Nat.min 1 m = 1 from Nat.min_eq_left hm]; rfl) hsrc (by simp [hZl, celCells]; omega) (fun u hu => celR.one c u hu)
  rw [show Nat.min 1 m = 1 from Nat.min_eq_left hm, show (Z.toArray.toList.take 0 ++ celCells c ++ Z.toArray.toList.drop (0 + (celCells c).length)).toArray = (splice Z 0 (celCells c)).toArray by simp [splice], HST.out] at hrun
  obtain ⟨w3, hw3⟩ : ∃ w3, w2.setRow w1.heap.size (celR.cs (half c m 1)).toArray = w3 := ⟨_, rfl⟩
  rw [hw3] at hrun
  have hb3 : Below w1.heap.size w1 w3 := by rw [← hw3]; exact below_setRow hbw2 (Nat.le_refl _) _
  have hr3 : w3.heap[w1.heap.size]? = some (.cells (celR.cs (half c m 1)).toArray 56 (0, 0)) := by rw [← hw3]; exact setRow_heap w2 _ _ _ _ _ hrow
  have HB3 := Lib.hid hb3
  have HR3 := Lib.hid hr3
  clear hw3 hb3 hr3 hsrc hrow
  go_wp2_with fail
  clear hrun
  go_loopw [8] (fun i wr => ∃ q : Nat, 1 ≤ q ∧ q ≤ m ∧ i = .int .i64 q ∧ Hid (wr.heap[w1.heap.size]? = some (.cells (celR.cs (half c m q)).toArray 56 (0, 0))) ∧ Below w1.heap.size w1 wr) (fun i _ => m - (intOf i).toNat)
  case atStart => exact ⟨1, Nat.le_refl _, hm, rfl, HR3, HB3.out⟩
  case round =>
    obtain ⟨q, hq1, hqm, rfl, HRq, hbr⟩ := hrel
    by_cases hlt : q < m
    · have hlt' : (q : Int) < (m : Int) := by omega
      have hq0 : (0 : Int) ≤ (q : Int) := by omega
      have hqm' : (q : Int) ≤ (m : Int) := by omega
      have hk : Nat.min q (m - q) * 2 = (celR.cs (List.replicate (Nat.min q (m - q)) c)).length := by rw [Recs.cs_length]; simp [celR]
      obtain ⟨k, hkk⟩ : ∃ k, Nat.min q (m - q) = k := ⟨_, rfl⟩
      have hkq : k ≤ q ∧ k ≤ m - q ∧ 1 ≤ k := by rw [← hkk]; exact ⟨Nat.min_le_left _ _, Nat.min_le_right _ _, Nat.le_min.2 ⟨hq1, by omega⟩⟩
      rw [hkk] at hk
      have hrun := run_copy_k (P := Tryz.prog) wr.drew 51 51 3 56 w1.heap.size (q * 2) (m - q) (m - q) ⟨w1.heap.size, 0, none⟩ q m 2 (celR.cs (half c m q)).toArray 56 (celR.cs (List.replicate k c)) Tryz.underlying51 infoCel2 HRq.out (by rw [hkk]; exact hk.symm)
        (fun j v hv => half_cell HRq.out hkq.1 hv) (by rw [← hk]; simp only [List.size_toArray, Recs.cs_length, half_len c m q hqm]; show q * 2 + k * 2 ≤ m * 2; omega) (fun u hu => Recs.cs_one _ u hu)
      rw [hkk, show ((celR.cs (half c m q)).toArray.toList.take (q * 2) ++ celR.cs (List.replicate k c) ++ (celR.cs (half c m q)).toArray.toList.drop (q * 2 + (celR.cs (List.replicate k c)).length)).toArray = (splice (celR.cs (half c m q)) (q * 2) (celR.cs (List.replicate k c))).toArray by simp [splice], half_more c m q k (by omega)] at hrun
      obtain ⟨w3, hw3⟩ : ∃ w3, wr.drew.setRow w1.heap.size (celR.cs (half c m (q + k))).toArray = w3 := ⟨_, rfl⟩
      rw [hw3] at hrun
      have hb3 : Below w1.heap.size w1 w3 := by rw [← hw3]; exact below_setRow hbr.drew (Nat.le_refl _) _
      have hr3 : w3.heap[w1.heap.size]? = some (.cells (celR.cs (half c m (q + k))).toArray 56 (0, 0)) := by rw [← hw3]; exact setRow_heap wr.drew _ _ _ _ _ HRq.out
      have HB3 := Lib.hid hb3
      have HR3 := Lib.hid hr3
      clear hw3 hb3 hr3 hk hkk
      go_wp2_with fail
      go_region
      all_goals go_wp2_with fail
      all_goals go_roundw
      all_goals first
        | exact ⟨q + k, by omega, by omega, by go_num, HR3, HB3.out⟩
        | (simp [intOf]; omega)
    · obtain rfl : q = m := by omega
      have hlt' : ¬ (q : Int) < (q : Int) := by omega
      go_wp2_with fail
      go_ret
      refine ⟨some ⟨w1.heap.size, 0, none⟩, q, rfl, ⟨by simp, by rw [Recs.cs_length]; simp [celR], .inr ⟨w1.heap.size, q, (celR.cs (half c q q)).toArray, rfl, Nat.le_refl _, HRq.out, Nat.le_refl _, by unfold maxLen; omega, ?_, ?_⟩⟩, hbr⟩
      · simp only [List.size_toArray, Recs.cs_length, half_len c q q (Nat.le_refl _)]
      · have e : half c q q = List.replicate q c := by simp [half]
        rw [e, List.take_of_length_le (by simp only [Recs.cs_length, List.length_replicate]; exact Nat.le_refl _)]
end Go.Proofs.YtnfelcjpjodjhaaGreat.PRep

namespace Go.Proofs.YtnfelcjpjodjhaaGreat.PCel
open Go.ChangeShapes Go.WideShapes Go.ChangeAt Go.RowKit Wd Small Mem Lay LayT Recs Keep Names PNames PSecs PLinks PEnds PTab PLnk PCheck PStep PHops Rt RtR PTra PRep
set_option linter.unusedVariables false

/-- a section as an argument -/
def secV (s : Sec) : Value := .agg #[.string (str s.name), .int .i64 s.len, .int .i64 s.lim, .int .i64 s.grade, .int .i64 s.st]
/-- what a call leaves that answers a list of cells of its own -/
def CelPost (L : List Cel) (w : World) (e : Ending) (w' : World) : Prop := ∃ A n c, e = .returned (.slice A n c) ∧ Own celR w' w.heap.size (.slice A n c) n L ∧ Below w.heap.size w w'

set_option maxRecDepth 100000 in
set_option maxHeartbeats 2000000 in
theorem p_cellsof (s : Sec) (d : Int) (w : World) (h1 : 1 ≤ s.len) (h2 : s.len ≤ 400) (h3 : -40 ≤ s.grade) (h4 : s.grade ≤ 40) : Calls Tryz.prog 37 #[secV s, .int .i64 d] w (CelPost (List.replicate s.len.toNat (cellOf s d)) w) := by
  obtain ⟨nm, len, lim, gr, st⟩ := s
  simp only at h1 h2 h3 h4
  obtain ⟨m, rfl⟩ : ∃ m : Nat, len = (m : Int) := ⟨len.toNat, by omega⟩
  obtain ⟨W, hW⟩ : ∃ W, w.alloc (.cells #[.string (str nm), .int .i64 m, .int .i64 lim, .int .i64 gr, .int .i64 st] 81) = W := ⟨_, rfl⟩
  have hbW : Below w.heap.size w W := by rw [← hW]; exact (Below.refl _ _).alloc (Nat.le_refl _) _
  have hzW : W.heap.size = w.heap.size + 1 := by rw [← hW]; simp
  have k1 : W.cell? ⟨w.heap.size, 1, none⟩ = some (.int .i64 m) := by rw [← hW]; simp
  have k2 : W.cell? ⟨w.heap.size, 2, none⟩ = some (.int .i64 lim) := by rw [← hW]; simp
  have k3 : W.cell? ⟨w.heap.size, 3, none⟩ = some (.int .i64 gr) := by rw [← hW]; simp
  have HB := Lib.hid hbW
  have HZ := Lib.hid hzW
  clear hbW
  simp only [secV]
  go_enter Tryz.func37, Tryz.ntmps37
  go_upto_region 1 with fail
  try rw [hW]
  clear hW
  by_cases hd : d = 1
  · subst hd
    have hw1 : IntKind.i64.wrap (-gr) = -gr := by rw [IntKind.wrap_i64]; omega
    go_upto_region 4 with fail
    obtain ⟨W2, hW2⟩ : ∃ W2, W.alloc (.cells #[.int .i64 lim, .int .i64 (-gr)] 56) = W2 := ⟨_, rfl⟩
    try rw [hW2]
    obtain ⟨W3, hW3⟩ : ∃ W3, W2.alloc (.cells #[.int .i64 lim, .int .i64 (-gr)] 56) = W3 := ⟨_, rfl⟩
    have hb2 : Below W.heap.size W W2 := by rw [← hW2]; exact (Below.refl _ _).alloc (Nat.le_refl _) _
    have hb3 : Below W2.heap.size W2 W3 := by rw [← hW3]; exact (Below.refl _ _).alloc (Nat.le_refl _) _
    have hz2 : W2.heap.size = w.heap.size + 2 := by rw [← hW2]; simp [HZ.out]
    have c0 : W2.cell? ⟨w.heap.size + 1, 0, none⟩ = some (.int .i64 lim) := by rw [← hW2, ← HZ.out]; simp
    have c1 : W2.cell? ⟨w.heap.size + 1, 1, none⟩ = some (.int .i64 (-gr)) := by rw [← hW2, ← HZ.out]; simp
    have k1' := (hb3.cell (p := ⟨w.heap.size, 1, none⟩) (by show w.heap.size < W2.heap.size; omega)).trans ((hb2.cell (p := ⟨w.heap.size, 1, none⟩) (by show w.heap.size < W.heap.size; omega)).trans k1)
    have HR := Lib.hid (p_repeat ⟨W2.heap.size, 0, none⟩ ⟨lim, (-gr)⟩ m W3 (by rw [← hW3]; simp) (by rw [← hW3]; simp) (by omega) (by omega))
    have HB3 := Lib.hid (HB.out.trans ((hb2.trans (hb3.mono (by omega))).mono (by omega)))
    clear hW2 k1 k2 k3 hb2 hb3 hzW
    go_wp2_with fail
    try rw [hW3]
    try rw [hz2]
    clear hW3
    rw [hz2] at HR
    refine HR.out.mono ?_
    rintro e w5 ⟨A, cc, rfl, hO, hb5⟩
    go_wp2_with fail
    go_ret
    exact ⟨A, m, cc, rfl, by rw [Int.toNat_natCast]; exact hO.base_ HB3.out.size, HB3.out.trans (hb5.mono HB3.out.size)⟩
  · have E : Hid (cellOf ⟨nm, (m : Int), lim, gr, st⟩ d = ⟨lim, gr⟩) := by unfold cellOf; rw [Hid, if_neg hd]
    have hd' : (d == 1) = false := by simpa using hd
    go_upto_region 4 with fail
    obtain ⟨W2, hW2⟩ : ∃ W2, W.alloc (.cells #[.int .i64 lim, .int .i64 gr] 56) = W2 := ⟨_, rfl⟩
    try rw [hW2]
    obtain ⟨W3, hW3⟩ : ∃ W3, W2.alloc (.cells #[.int .i64 lim, .int .i64 gr] 56) = W3 := ⟨_, rfl⟩
    have hb2 : Below W.heap.size W W2 := by rw [← hW2]; exact (Below.refl _ _).alloc (Nat.le_refl _) _
    have hb3 : Below W2.heap.size W2 W3 := by rw [← hW3]; exact (Below.refl _ _).alloc (Nat.le_refl _) _
    have hz2 : W2.heap.size = w.heap.size + 2 := by rw [← hW2]; simp [HZ.out]
    have c0 : W2.cell? ⟨w.heap.size + 1, 0, none⟩ = some (.int .i64 lim) := by rw [← hW2, ← HZ.out]; simp
    have c1 : W2.cell? ⟨w.heap.size + 1, 1, none⟩ = some (.int .i64 gr) := by rw [← hW2, ← HZ.out]; simp
    have k1' := (hb3.cell (p := ⟨w.heap.size, 1, none⟩) (by show w.heap.size < W2.heap.size; omega)).trans ((hb2.cell (p := ⟨w.heap.size, 1, none⟩) (by show w.heap.size < W.heap.size; omega)).trans k1)
    have HR := Lib.hid (p_repeat ⟨W2.heap.size, 0, none⟩ ⟨lim, gr⟩ m W3 (by rw [← hW3]; simp) (by rw [← hW3]; simp) (by omega) (by omega))
    have HB3 := Lib.hid (HB.out.trans ((hb2.trans (hb3.mono (by omega))).mono (by omega)))
    clear hW2 k1 k2 k3 hb2 hb3 hzW
    go_wp2_with fail
    try rw [hW3]
    try rw [hz2]
    clear hW3
    rw [hz2] at HR
    refine HR.out.mono ?_
    rintro e w5 ⟨A, cc, rfl, hO, hb5⟩
    go_wp2_with fail
    go_ret
    exact ⟨A, m, cc, rfl, by rw [E.out, Int.toNat_natCast]; exact hO.base_ HB3.out.size, HB3.out.trans (hb5.mono HB3.out.size)⟩
end Go.Proofs.YtnfelcjpjodjhaaGreat.PCel

namespace Go.Proofs.YtnfelcjpjodjhaaGreat.PCls
open Go.ChangeShapes Go.WideShapes Go.ChangeAt Go.RowKit Wd Small Mem Lay LayT Recs Keep Names PNames PSecs PLinks PEnds PTab PLnk PCheck PStep PHops Rt RtR PTra PRep PCel
set_option linter.unusedVariables false

/-- a section of a valid layout: its numbers -/
theorem sec_ok {l : Lay} (h : check l = 0) {s : Sec} (hs : s ∈ l.sections) : 1 ≤ s.len ∧ s.len ≤ 400 ∧ -40 ≤ s.grade ∧ s.grade ≤ 40 := by
  have h1 := ((valid_of h).sec s hs).2
  unfold secErr at h1
  split at h1
  · next h2 =>
    simp only [Bool.and_eq_true, decide_eq_true_eq] at h2
    omega
  · omega
theorem step_at {n : Nat} {x y : Int} (h : stepIn n (x, y) = true) : 0 ≤ x ∧ x < n ∧ (y = 0 ∨ y = 1) := by
  simp only [stepIn, Bool.and_eq_true, Bool.or_eq_true, decide_eq_true_eq] at h
  exact ⟨h.1.1, h.1.2, h.2⟩
theorem cellsFor_snoc (l : Lay) (S : List Lay.Step) (k : Nat) (x y : Int) (s : Sec) (h : S[k]? = some (x, y)) (hs : l.sections[x.toNat]? = some s) : cellsFor l (S.take (k + 1)) = cellsFor l (S.take k) ++ List.replicate s.len.toNat (cellOf s y) := by
  rw [List.take_add_one, h]
  simp [cellsFor, secAt, hs]
theorem cellsFor_len (l : Lay) (hl : check l = 0) : ∀ S : List Lay.Step, (cellsFor l S).length ≤ 400 * S.length
  | [] => by simp [cellsFor]
  | t :: S => by
    have ih := cellsFor_len l hl S
    have e : cellsFor l (t :: S) = (match secAt l t.1 with | some s => List.replicate s.len.toNat (cellOf s t.2) | none => []) ++ cellsFor l S := rfl
    rw [e, List.length_append, List.length_cons]
    cases h : secAt l t.1 with
    | none => simp only [List.length_nil]; omega
    | some s =>
      have := sec_ok hl (List.mem_of_getElem? h)
      simp only [List.length_replicate]; omega

/-- what a call leaves that answers the cells of a route -/
def ClsPost (r : List Cel × Int × Int) (w : World) (e : Ending) (w' : World) : Prop := ∃ A n c, e = .returned (.tuple #[.slice A n c, .int .i64 r.2.1, .int .i64 r.2.2]) ∧ Own celR w' w.heap.size (.slice A n c) n r.1 ∧ Below w.heap.size w w'
theorem cls_bad {r : List Cel × Int × Int} {w w' : World} {z : Int} (hz : r = ([], 0, z)) (hb : Below w.heap.size w w') : ClsPost r w (.returned (.tuple #[.slice none 0 0, .int .i64 0, .int .i64 z])) w' :=
  ⟨none, 0, 0, by rw [hz], by rw [hz]; exact Own.nil _ _, hb⟩

set_option maxRecDepth 100000 in
set_option maxHeartbeats 8000000 in
theorem p_cells (v : LV) (l : Lay) (A : Option Addr) (n c : Nat) (L : List Lay.Step) (ov : Int) (w : World) (hL : RdL w w.heap.size v l) (hR : Rd stpR w w.heap.size A n L) (hnc : n ≤ c) (hc : c ≤ 9223372036854775807) (ho1 : -9223372036854775808 ≤ ov) (ho2 : ov ≤ 9223372036854775807) :
    Calls Tryz.prog 20 #[v.val, rteV A n c ov] w (ClsPost (rcells l ⟨L, ov⟩) w) := by
  obtain ⟨ih, hih, hz0, hz1, hz2⟩ := info_parts infoCel
  obtain ⟨W, hW⟩ : ∃ W, (w.alloc (.cells #[.slice v.A1 v.n1 v.c1, .slice v.A2 v.n2 v.c2, .slice v.A3 v.n3 v.c3, .slice v.A4 v.n4 v.c4] 26)).alloc (.cells #[.slice A n c, .int .i64 ov] 29) = W := ⟨_, rfl⟩
  have hbW : Below w.heap.size w W := by rw [← hW]; exact ((Below.refl _ _).alloc (Nat.le_refl _) _).alloc (by simp) _
  have hzW : W.heap.size = w.heap.size + 2 := by rw [← hW]; simp
  have hbox : W.cell? ⟨w.heap.size, 0, none⟩ = some (.slice v.A1 v.n1 v.c1) ∧ W.cell? ⟨w.heap.size, 1, none⟩ = some (.slice v.A2 v.n2 v.c2) ∧ W.cell? ⟨w.heap.size, 2, none⟩ = some (.slice v.A3 v.n3 v.c3) ∧ W.cell? ⟨w.heap.size, 3, none⟩ = some (.slice v.A4 v.n4 v.c4) := by rw [← hW]; simp
  have hsb : W.cell? ⟨w.heap.size + 1, 0, none⟩ = some (.slice A n c) ∧ W.cell? ⟨w.heap.size + 1, 1, none⟩ = some (.int .i64 ov) := by rw [← hW]; simp
  have HK : Hid (∀ wr, Below W.heap.size W wr → _) := fun wr hb => box_kept hb (show w.heap.size < W.heap.size by omega) hbox
  have HSB : Hid (∀ wr, Below W.heap.size W wr → wr.cell? ⟨w.heap.size + 1, 0, none⟩ = some (.slice A n c) ∧ wr.cell? ⟨w.heap.size + 1, 1, none⟩ = some (.int .i64 ov)) := fun wr hb => ⟨(hb.cell (p := ⟨w.heap.size + 1, 0, none⟩) (by show w.heap.size + 1 < W.heap.size; omega)).trans hsb.1, (hb.cell (p := ⟨w.heap.size + 1, 1, none⟩) (by show w.heap.size + 1 < W.heap.size; omega)).trans hsb.2⟩
  have HLW := Lib.hid (hL.grow hbW hbW.size)
  have HRW := Lib.hid (hR.grow hbW hbW.size)
  have HBW := Lib.hid hbW
  have HZ := Lib.hid hzW
  have HLL := Lib.hid hR.1
  have HN3 := Lib.hid hL.sec.1
  have HP := Lib.hid (p_rcheck v l A n c L ov W (hL.grow hbW hbW.size) (hR.grow hbW hbW.size) hnc hc ho1 ho2)
  clear hL hR hbW hzW
  obtain ⟨b0, b1, b2, b3⟩ := hbox
  obtain ⟨s0, s1⟩ := hsb
  obtain ⟨A1, n1, c1, A2, n2, c2, A3, n3, c3, A4, n4, c4⟩ := v
  simp only [LV.val, rteV] at *
  go_enter Tryz.func20, Tryz.ntmps20
  go_wp2_with fail
  try rw [hW]
  clear hW
  refine HP.out.mono ?_
  rintro e w1 ⟨rfl, hb1⟩
  have HB1 := Lib.hid hb1
  have HBX1 := Lib.hid (HBW.out.trans (HB1.out.mono HBW.out.size))
  clear b0 b1 b2 b3 s0 s1 HP hb1
  by_cases hck : rerr l ⟨L, ov⟩ = 0
  · obtain ⟨k1, k2, k3, k4, k5, k6, -⟩ := rerr_ok hck
    have HCK := Lib.hid k1
    have HIN := Lib.hid k6
    simp only at k2 k3 k4 k5
    have hnl := HLL.out
    obtain ⟨o, rfl⟩ : ∃ o : Nat, ov = (o : Int) := ⟨ov.toNat, by omega⟩
    have E := Lib.hid (show rcells l ⟨L, (o : Int)⟩ = if 4000 < (cellsFor l (L.take (n - o))).length then ([], 0, 7) else (cellsFor l (L.take (n - o)), lenAt l (headSec L), 0) by
      unfold rcells trav
      rw [if_neg (by rw [hck]; decide)]
      simp only [Int.toNat_natCast, hnl])
    have hsub : (n : Int) - (o : Int) = ((n - o : Nat) : Int) := by omega
    have hT : n - o ≤ n := by omega
    have hT2 : 2 ≤ n - o := by omega
    rw [hck]
    clear hck k1 k6
    generalize hTT : n - o = T at *
    have hTc : (T : Int) ≤ (c : Int) := by omega
    have hT0 : (0 : Int) ≤ (T : Int) := by omega
    obtain ⟨b0, b1, b2, b3⟩ := HK.out w1 HB1.out
    obtain ⟨s0, s1⟩ := HSB.out w1 HB1.out
    go_upto_region 6 with fail
    clear b0 b1 b2 b3 s0 s1
    go_loopw [8, 27] (fun h i wr => ∃ (k nn cc : Nat) (AA : Option Addr) (C : List Cel), k ≤ T ∧ nn ≤ 400 * k ∧ i = .int .i64 k ∧ h = .slice AA nn cc ∧ Own celR wr W.heap.size (.slice AA nn cc) nn C ∧ Hid (C = cellsFor l ((L.take T).take k)) ∧ Below W.heap.size W wr) (fun _ i _ => T - (intOf i).toNat)
    case atStart => exact ⟨0, 0, 0, none, [], by omega, by omega, rfl, rfl, Own.nil _ _, rfl, HB1.out⟩
    case round =>
      obtain ⟨k, nn, cc, AA, C, hk, hnn, rfl, rfl, hO, HC, hbr⟩ := hrel
      have hzr := hbr.size
      by_cases hlt : k < T
      · obtain ⟨ad, x, y, rfl, hab, hs, d0, d1⟩ := loadStp (HRW.out.below hbr) (show k < n by omega)
        obtain ⟨hx0, hx1, hy⟩ := step_at (HIN.out _ (List.mem_of_getElem? hs))
        obtain ⟨xn, rfl⟩ : ∃ xn : Nat, x = (xn : Int) := ⟨x.toNat, by omega⟩
        have hxn : xn < n3 := by have := HN3.out; omega
        obtain ⟨ae, ⟨nm, len, lim, gr, st⟩, rfl, hae, hsec, e0, e1, e2, e3, e4⟩ := loadSec ((HLW.out.below hbr).sec) hxn
        obtain ⟨l1, l2, l3, l4⟩ := sec_ok HCK.out (List.mem_of_getElem? hsec)
        simp only at e0 e1 e2 e3 e4 l1 l2 l3 l4
        obtain ⟨m, rfl⟩ : ∃ m : Nat, len = (m : Int) := ⟨len.toNat, by omega⟩
        have HSTEP := Lib.hid (cellsFor_snoc l (L.take T) k (xn : Int) y ⟨nm, (m : Int), lim, gr, st⟩ (by rw [List.getElem?_take, if_pos hlt]; exact hs) (by rw [Int.toNat_natCast]; exact hsec))
        have hkT : (k : Int) < (T : Int) := by omega
        have hkn : (k : Int) < (n : Int) := by omega
        have hx1' : (xn : Int) < (n3 : Int) := by omega
        have hx0' : (0 : Int) ≤ (xn : Int) := by omega
        obtain ⟨wa, hwa⟩ : ∃ wa, wr.alloc (.cells #[.int .i64 xn, .int .i64 y] 39) = wa := ⟨_, rfl⟩
        have hba : Below wr.heap.size wr wa := by rw [← hwa]; exact (Below.refl _ _).alloc (Nat.le_refl _) _
        have hza : wr.heap.size < wa.heap.size := by rw [← hwa]; simp
        have q0 : wa.cell? ⟨wr.heap.size, 0, none⟩ = some (.int .i64 xn) := by rw [← hwa]; simp
        have q1 : wa.cell? ⟨wr.heap.size, 1, none⟩ = some (.int .i64 y) := by rw [← hwa]; simp
        have hbwa := hbr.trans (hba.mono hzr)
        obtain ⟨-, -, b2, -⟩ := HK.out wa hbwa
        have k0 := (hba.cell (p := ae.add (xn * 5)) (by rw [Mem.block_add]; omega)).trans e0
        have k1 := (hba.cell (p := ⟨(ae.add (xn * 5)).block, (ae.add (xn * 5)).off + 1, none⟩) (by show (ae.add (xn * 5)).block < _; rw [Mem.block_add]; omega)).trans e1
        have k2 := (hba.cell (p := ⟨(ae.add (xn * 5)).block, (ae.add (xn * 5)).off + 2, none⟩) (by show (ae.add (xn * 5)).block < _; rw [Mem.block_add]; omega)).trans e2
        have k3 := (hba.cell (p := ⟨(ae.add (xn * 5)).block, (ae.add (xn * 5)).off + 3, none⟩) (by show (ae.add (xn * 5)).block < _; rw [Mem.block_add]; omega)).trans e3
        have k4 := (hba.cell (p := ⟨(ae.add (xn * 5)).block, (ae.add (xn * 5)).off + 4, none⟩) (by show (ae.add (xn * 5)).block < _; rw [Mem.block_add]; omega)).trans e4
        have haa : (ae.add (xn * 5)).block < wa.heap.size := by rw [Mem.block_add]; omega
        have HOa := Lib.hid (hO.below hba (Nat.le_refl _))
        have HAlt : Hid (∀ g, (Value.slice AA nn cc).ownBlock = some g → W.heap.size ≤ g ∧ g < wr.heap.size) := fun g hg => hO.2.lt g hg
        have HAE := Lib.hid hae
        clear hs hsec hab hO e0 e1 e2 e3 e4 hx0 hx1 hy
        go_upto_region 8 with fail
        try rw [hwa]
        clear hwa d0 d1
        have hpb : (ae.add (xn * 5)).block < W.heap.size := by rw [Mem.block_add]; exact HAE.out
        have hz0W : w.heap.size < W.heap.size := by have := HZ.out; omega
        have KA : Hid (∀ w', Below wa.heap.size wa w' → w'.cell? ⟨w.heap.size, 2, none⟩ = some (.slice (some ae) n3 c3) ∧ w'.cell? ⟨wr.heap.size, 0, none⟩ = some (.int .i64 xn) ∧ w'.cell? ⟨wr.heap.size, 1, none⟩ = some (.int .i64 y) ∧ w'.cell? (ae.add (xn * 5)) = some (.string (str nm)) ∧ w'.cell? ⟨(ae.add (xn * 5)).block, (ae.add (xn * 5)).off + 1, none⟩ = some (.int .i64 m) ∧ w'.cell? ⟨(ae.add (xn * 5)).block, (ae.add (xn * 5)).off + 2, none⟩ = some (.int .i64 lim) ∧ w'.cell? ⟨(ae.add (xn * 5)).block, (ae.add (xn * 5)).off + 3, none⟩ = some (.int .i64 gr) ∧ w'.cell? ⟨(ae.add (xn * 5)).block, (ae.add (xn * 5)).off + 4, none⟩ = some (.int .i64 st) ∧ Below W.heap.size W w') := fun w' hb =>
          ⟨(hb.cell (p := ⟨w.heap.size, 2, none⟩) (by show w.heap.size < _; omega)).trans b2, (hb.cell (p := ⟨wr.heap.size, 0, none⟩) hza).trans q0, (hb.cell (p := ⟨wr.heap.size, 1, none⟩) hza).trans q1, (hb.cell (p := ae.add (xn * 5)) haa).trans k0, (hb.cell (p := ⟨(ae.add (xn * 5)).block, (ae.add (xn * 5)).off + 1, none⟩) haa).trans k1, (hb.cell (p := ⟨(ae.add (xn * 5)).block, (ae.add (xn * 5)).off + 2, none⟩) haa).trans k2, (hb.cell (p := ⟨(ae.add (xn * 5)).block, (ae.add (xn * 5)).off + 3, none⟩) haa).trans k3, (hb.cell (p := ⟨(ae.add (xn * 5)).block, (ae.add (xn * 5)).off + 4, none⟩) haa).trans k4, hbwa.trans (hb.mono (by omega))⟩
        have KB : Hid (∀ wx w', Below wa.heap.size wa wx → wx.grownBy w' (Value.slice AA nn cc).ownBlock → w'.cell? ⟨w.heap.size, 2, none⟩ = some (.slice (some ae) n3 c3) ∧ w'.cell? ⟨wr.heap.size, 0, none⟩ = some (.int .i64 xn) ∧ w'.cell? ⟨wr.heap.size, 1, none⟩ = some (.int .i64 y) ∧ w'.cell? (ae.add (xn * 5)) = some (.string (str nm)) ∧ w'.cell? ⟨(ae.add (xn * 5)).block, (ae.add (xn * 5)).off + 1, none⟩ = some (.int .i64 m) ∧ w'.cell? ⟨(ae.add (xn * 5)).block, (ae.add (xn * 5)).off + 2, none⟩ = some (.int .i64 lim) ∧ w'.cell? ⟨(ae.add (xn * 5)).block, (ae.add (xn * 5)).off + 3, none⟩ = some (.int .i64 gr) ∧ w'.cell? ⟨(ae.add (xn * 5)).block, (ae.add (xn * 5)).off + 4, none⟩ = some (.int .i64 st) ∧ Below W.heap.size W w') := fun wx w' hb hg => by
          obtain ⟨a0, a1, a2, a3, a4, a5, a6, a7, a8⟩ := KA.out wx hb
          have hz := hb.size
          have hn1 : ∀ b, b < W.heap.size → some b ≠ (Value.slice AA nn cc).ownBlock := fun b hb2 e => by have := HAlt.out b e.symm; omega
          have hn2 : some wr.heap.size ≠ (Value.slice AA nn cc).ownBlock := fun e => by have := HAlt.out _ e.symm; omega
          exact ⟨(grown_cell (p := ⟨w.heap.size, 2, none⟩) hg (by show w.heap.size < _; omega) (hn1 _ hz0W)).trans a0, (grown_cell (p := ⟨wr.heap.size, 0, none⟩) hg (by show wr.heap.size < _; omega) hn2).trans a1, (grown_cell (p := ⟨wr.heap.size, 1, none⟩) hg (by show wr.heap.size < _; omega) hn2).trans a2,
            (grown_cell (p := ae.add (xn * 5)) hg (by omega) (hn1 _ hpb)).trans a3, (grown_cell (p := ⟨(ae.add (xn * 5)).block, (ae.add (xn * 5)).off + 1, none⟩) hg (by show (ae.add (xn * 5)).block < _; omega) (hn1 _ hpb)).trans a4, (grown_cell (p := ⟨(ae.add (xn * 5)).block, (ae.add (xn * 5)).off + 2, none⟩) hg (by show (ae.add (xn * 5)).block < _; omega) (hn1 _ hpb)).trans a5, (grown_cell (p := ⟨(ae.add (xn * 5)).block, (ae.add (xn * 5)).off + 3, none⟩) hg (by show (ae.add (xn * 5)).block < _; omega) (hn1 _ hpb)).trans a6, (grown_cell (p := ⟨(ae.add (xn * 5)).block, (ae.add (xn * 5)).off + 4, none⟩) hg (by show (ae.add (xn * 5)).block < _; omega) (hn1 _ hpb)).trans a7,
            a8.grown hg (by have := a8.size; omega) (fun k hk => (HAlt.out k hk).1)⟩
        have HCO := Lib.hid (fun wx => p_cellsof ⟨nm, (m : Int), lim, gr, st⟩ y wx l1 l2 l3 l4)
        simp only [secV] at HCO
        rw [Int.toNat_natCast] at HCO HSTEP
        have hm1 : 1 ≤ m := by omega
        have hm2 : m ≤ 400 := by omega
        clear b2 q0 q1 k0 k1 k2 k3 k4 l1 l2
        have hb0 := Below.refl wa.heap.size wa
        have hn63 : nn + m ≤ maxLen := by unfold maxLen; omega
        have hby : (nn + m) * 16 ≤ 140737488355328 := by omega
        go_region_held3 (fun w' => w'.cell? ⟨w.heap.size, 2, none⟩ = some (.slice (some ae) n3 c3) ∧ w'.cell? ⟨wr.heap.size, 0, none⟩ = some (.int .i64 xn) ∧ w'.cell? ⟨wr.heap.size, 1, none⟩ = some (.int .i64 y) ∧ w'.cell? (ae.add (xn * 5)) = some (.string (str nm)) ∧ w'.cell? ⟨(ae.add (xn * 5)).block, (ae.add (xn * 5)).off + 1, none⟩ = some (.int .i64 m) ∧ w'.cell? ⟨(ae.add (xn * 5)).block, (ae.add (xn * 5)).off + 2, none⟩ = some (.int .i64 lim) ∧ w'.cell? ⟨(ae.add (xn * 5)).block, (ae.add (xn * 5)).off + 3, none⟩ = some (.int .i64 gr) ∧ w'.cell? ⟨(ae.add (xn * 5)).block, (ae.add (xn * 5)).off + 4, none⟩ = some (.int .i64 st) ∧ Below W.heap.size W w')
          (first | exact KA.out _ hb0.drew | exact KA.out _ (hb0.drew.trans (hbq.mono (by simp))) | exact KB.out _ _ (hb0.drew.trans (hbq.mono (by simp))) hgrow7)
          ((first | (go_at_call 37; refine (HCO.out _).mono ?_; rintro e wq ⟨Aq, nq, cq, rfl, hOq, hbq⟩; obtain rfl : m = nq := (by have := hOq.1; simpa using this); obtain ⟨gq, rfl, -, -⟩ := hOq.ne_nil (by omega)) | (refine step_append_lies _ (by rfl) _ _ _ (by rfl) W.heap.size 56 ih _ 2 16 Tryz.underlying51 hih hz0 hz1 hz2 rfl (by omega) (.slice AA nn cc) nn (celR.cs C) (by rfl) (HOa.out.below (hb0.drew.trans (hbq.mono (by simp))) (Nat.le_refl _)).2 ⟨gq, 0, none⟩ m cq (celR.cs (List.replicate m (cellOf ⟨nm, (m : Int), lim, gr, st⟩ y))) (by rfl) (by rw [Recs.cs_length, List.length_replicate]; rfl) (fun j u hu => hOq.2.cells (g := gq) rfl j u hu) (fun u hu => Recs.cs_one _ u hu) (by omega) hn63 hby (by have := hbq.size; simp at this; omega) wq.heap.size (by rfl) ?_; intro gg cap w7 hown7 hgrow7 hat7 hlt7)))
        have hbq' : Below wa.heap.size wa wq := hb0.drew.trans (hbq.mono (by simp))
        obtain ⟨-, -, -, -, -, -, -, -, hb7⟩ := KB.out _ _ hbq' hgrow7
        have HO7 : Hid (Own celR w7 W.heap.size (.slice (some ⟨gg, 0, none⟩) (nn + m) cap) (nn + m) (C ++ List.replicate m (cellOf ⟨nm, (m : Int), lim, gr, st⟩ y))) :=
          ⟨by have h1 := HOa.out.1; rw [List.length_append, List.length_replicate, h1], by rw [Recs.cs_append]; exact hown7⟩
        have HC7 : Hid (C ++ List.replicate m (cellOf ⟨nm, (m : Int), lim, gr, st⟩ y) = cellsFor l ((L.take T).take (k + 1))) := by rw [Hid, HSTEP.out, HC.out]
        clear hown7 hgrow7 hat7 KA KB
        go_wp2_with fail
        go_roundw
        case rel => exact ⟨k + 1, nn + m, cap, some ⟨gg, 0, none⟩, C ++ List.replicate m (cellOf ⟨nm, (m : Int), lim, gr, st⟩ y), by omega, by omega, by go_num, rfl, HO7.out, HC7, hb7⟩
        case measure => simp [intOf]; omega
      · obtain rfl : k = T := by omega
        have hkT : ¬ (k : Int) < (k : Int) := by omega
        have HCL : Hid (C = cellsFor l (L.take k)) := by rw [Hid, HC.out, List.take_take, Nat.min_self]
        have HO1 := Lib.hid hO
        have HBR := Lib.hid hbr
        have HBXr := Lib.hid (HBW.out.trans (hbr.mono HBW.out.size))
        have hCn := hO.1
        by_cases hbig : 4000 < nn
        · have E2 : Hid (rcells l ⟨L, (o : Int)⟩ = ([], 0, 7)) := by rw [Hid, E.out, if_pos (by rw [← HCL.out, hCn]; exact hbig)]
          have hbig' : (4000 : Int) < (nn : Int) := by omega
          clear hO hbr hCn
          go_wp2_with fail
          go_ret3
          exact cls_bad E2.out HBXr.out
        · have E2 : Hid (rcells l ⟨L, (o : Int)⟩ = (C, lenAt l (headSec L), 0)) := by rw [Hid, E.out, if_neg (by rw [← HCL.out, hCn]; exact hbig), HCL.out]
          have hbig' : ¬ (4000 : Int) < (nn : Int) := by omega
          obtain ⟨ad, x, y, rfl, hab, hs, d0, d1⟩ := loadStp (HRW.out.below hbr) (show 0 < n by omega)
          obtain ⟨hx0, hx1, hy⟩ := step_at (HIN.out _ (List.mem_of_getElem? hs))
          obtain ⟨xn, rfl⟩ : ∃ xn : Nat, x = (xn : Int) := ⟨x.toNat, by omega⟩
          have hxn : xn < n3 := by have := HN3.out; omega
          obtain ⟨ae, ⟨nm, len, lim, gr, st⟩, rfl, hae, hsec, e0, e1, e2, e3, e4⟩ := loadSec ((HLW.out.below hbr).sec) hxn
          have E3 : Hid (lenAt l (headSec L) = len) := by
            rw [Hid]
            cases L with
            | nil => simp at hs
            | cons a r =>
              simp at hs
              subst hs
              simp [headSec, lenAt, secAt, hsec]
          have hx1' : (xn : Int) < (n3 : Int) := by omega
          have hx0' : (0 : Int) ≤ (xn : Int) := by omega
          have h0n : (0 : Int) < (n : Int) := by omega
          obtain ⟨-, -, b2, -⟩ := HK.out wr hbr
          obtain ⟨s0, -⟩ := HSB.out wr hbr
          rw [Nat.zero_mul, show ad.add 0 = ad by simp [Addr.add]] at d0
          simp only at e1
          clear hO hbr hCn hs hsec hab hae hx0 hx1 hy e0 e2 e3 e4 d1
          go_wp2_with fail
          go_quiet (fail)
          go_wp2_with fail
          go_ret3
          exact ⟨AA, nn, cc, by rw [E2.out, E3.out]; rfl, by rw [E2.out]; exact (HO1.out.base_ HBW.out.size).drewN _, Mem.below_draws HBXr.out _⟩
  · have E := Lib.hid (show rcells l ⟨L, ov⟩ = ([], 0, rerr l ⟨L, ov⟩) by unfold rcells; rw [if_pos hck])
    generalize rerr l ⟨L, ov⟩ = z at *
    go_wp2_with fail
    go_ret3
    exact cls_bad E.out HBX1.out
end Go.Proofs.YtnfelcjpjodjhaaGreat.PCls
