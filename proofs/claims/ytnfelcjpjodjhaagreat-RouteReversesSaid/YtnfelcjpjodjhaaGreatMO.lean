/-
  Plain mathematics of lists of resources: sorted and each once, they are the marks in ascending order. No program in it.
  Contracts of the library at the numbers of this program. Each is one application of what is proved once in the library of this guide.
  Contract: the resources of a route.
  Contracts of the document's own functions on steps, and of the number of resources.
-/
import Derived.Test.YtnfelcjpjodjhaaGreatMN
import Derived.Lib.SlicesCompact
import Derived.Sort.OwnSortedInts
import Derived.Shelf.Small.Bits
import Derived.Shelf.Small.Wraps
import Derived.Shelf.Strconv.Itoa0
import Derived.Shelf.Sort.Plain
import Derived.Shelf.Bits.Mul64
import Derived.Shelf.Slices.Turned
import Derived.Ground.Names2Prog
import Derived.Shelf.Slices.CompactI
import Derived.Shelf.Slices.SearchI
import Derived.Shelf.Slices.Cells
import Derived.Shelf.Slices.In.SortNone
import Derived.Test.YtnfelcjpjodjhaaGreatProg
import Derived.Test.YtnfelcjpjodjhaaGreatMK
import Derived.Test.YtnfelcjpjodjhaaGreatMH
import Derived.Test.YtnfelcjpjodjhaaGreatME
namespace Go.Proofs.YtnfelcjpjodjhaaGreat.RtS
open Wd Lay Rt RtF RtW
set_option linter.unusedVariables false

/-- two lists in strictly ascending order with the same members are one -/
theorem strict_ext : ∀ (L M : List Int), L.Pairwise (· < ·) → M.Pairwise (· < ·) → (∀ x, x ∈ L ↔ x ∈ M) → L = M
  | [], [], _, _, _ => rfl
  | [], b :: M, _, _, h => absurd ((h b).2 List.mem_cons_self) (by simp)
  | a :: L, [], _, _, h => absurd ((h a).1 List.mem_cons_self) (by simp)
  | a :: L, b :: M, hL, hM, h => by
    rw [List.pairwise_cons] at hL hM
    have hab : a = b := by
      rcases List.mem_cons.1 ((h a).1 List.mem_cons_self) with e | e
      · exact e
      · rcases List.mem_cons.1 ((h b).2 List.mem_cons_self) with e2 | e2
        · exact e2.symm
        · have h1 := hM.1 a e
          have h2 := hL.1 b e2
          omega
    subst hab
    rw [strict_ext L M hL.2 hM.2 fun x => ?_]
    constructor
    · intro hx
      rcases List.mem_cons.1 ((h x).1 (List.mem_cons_of_mem _ hx)) with e | e
      · have := hL.1 x hx; omega
      · exact e
    · intro hx
      rcases List.mem_cons.1 ((h x).2 (List.mem_cons_of_mem _ hx)) with e | e
      · have := hM.1 x hx; omega
      · exact e

theorem bang {zs : List Int} {j : Nat} (h : j < zs.length) : zs.toArray[j]! = zs[j] := by simp [h]
theorem mem_compact (zs : List Int) (x : Int) : x ∈ Lib.compact zs ↔ x ∈ zs := by
  unfold Lib.compact Lib.compactUpTo
  rw [List.mem_map]
  constructor
  · rintro ⟨j, hj, rfl⟩
    rw [List.mem_filter, List.mem_range] at hj
    rw [bang hj.1]
    exact List.getElem_mem hj.1
  · intro hx
    obtain ⟨j, hj, e⟩ := List.mem_iff_getElem.1 hx
    -- the first such place
    have key : ∀ n, n ≤ j → (∃ i, i ≤ n ∧ ∃ h : i < zs.length, zs[i] = x) → ∃ i, ∃ h : i < zs.length, zs[i] = x ∧ ∀ k, k < i → ∀ h' : k < zs.length, zs[k] ≠ x := by
      intro n
      induction n with
      | zero =>
        rintro _ ⟨i, h0, h1, h2⟩
        obtain rfl : i = 0 := by omega
        exact ⟨0, h1, h2, fun k hk => absurd hk (Nat.not_lt_zero _)⟩
      | succ n ih =>
        rintro hn ⟨i, h0, h1, h2⟩
        by_cases hex : ∃ i, i ≤ n ∧ ∃ h : i < zs.length, zs[i] = x
        · exact ih (by omega) hex
        · have hi : i = n + 1 := by
            apply Classical.byContradiction
            intro hne
            exact hex ⟨i, by omega, h1, h2⟩
          subst hi
          exact ⟨n + 1, h1, h2, fun k hk h' e => hex ⟨k, by omega, h', e⟩⟩
    obtain ⟨i, hi, h1, h2⟩ := key j (Nat.le_refl _) ⟨j, Nat.le_refl _, hj, e⟩
    refine ⟨i, ?_, by rw [bang hi]; exact h1⟩
    rw [List.mem_filter, List.mem_range]
    refine ⟨hi, ?_⟩
    unfold Lib.keeps
    rw [decide_eq_true_eq]
    by_cases h0 : i = 0
    · exact .inl h0
    · refine .inr ?_
      rw [bang hi, bang (show i - 1 < zs.length by omega), h1]
      exact fun e => h2 (i - 1) (by omega) (by omega) e.symm
theorem strict_compact (zs : List Int) (hs : zs.Pairwise (· ≤ ·)) : (Lib.compact zs).Pairwise (· < ·) := by
  unfold Lib.compact Lib.compactUpTo
  rw [List.pairwise_map]
  refine List.Pairwise.imp_of_mem (fun {i j} hi hj hij => ?_) ((List.pairwise_lt_range (n := zs.length)).filter _)
  rw [List.mem_filter, List.mem_range] at hi hj
  rw [bang hi.1, bang hj.1]
  have hk := hj.2
  unfold Lib.keeps at hk
  rw [decide_eq_true_eq] at hk
  rcases hk with h0 | h0
  · omega
  · rw [bang hj.1, bang (show j - 1 < zs.length by omega)] at h0
    have h1 : zs[i] ≤ zs[j - 1] := by
      by_cases e : i = j - 1
      · subst e; exact Int.le_refl _
      · exact List.pairwise_iff_getElem.1 hs i (j - 1) _ _ (by omega)
    have h2 : zs[j - 1] ≤ zs[j] := List.pairwise_iff_getElem.1 hs (j - 1) j _ _ (by omega)
    omega

/-- the marks of a list, in ascending order -/
def marks (n : Nat) (zs : List Int) : List Int := ((List.range n).map fun i : Nat => (i : Int)).filter (fun i => zs.contains i)
theorem marks_strict (n : Nat) (zs : List Int) : (marks n zs).Pairwise (· < ·) := by
  unfold marks
  refine List.Pairwise.filter _ ?_
  rw [List.pairwise_map]
  exact (List.pairwise_lt_range (n := n)).imp fun h => by omega
theorem mem_marks {n : Nat} {zs : List Int} (h : ∀ x ∈ zs, 0 ≤ x ∧ x < n) (x : Int) : x ∈ marks n zs ↔ x ∈ zs := by
  unfold marks
  rw [List.mem_filter, List.mem_map]
  constructor
  · rintro ⟨-, h2⟩
    simpa using h2
  · intro hx
    obtain ⟨h1, h2⟩ := h x hx
    exact ⟨⟨x.toNat, by rw [List.mem_range]; omega, by omega⟩, by simpa using hx⟩
/-- sorted and each once: the marks -/
theorem sorted_marks {n : Nat} {zs : List Int} (h : ∀ x ∈ zs, 0 ≤ x ∧ x < n) : Lib.compact (zs.mergeSort fun x y => decide (x ≤ y)) = marks n zs := by
  have hp := List.mergeSort_perm zs (fun x y => decide (x ≤ y))
  have hs : (zs.mergeSort fun x y => decide (x ≤ y)).Pairwise (· ≤ ·) := by
    have h1 := List.pairwise_mergeSort (le := fun x y : Int => decide (x ≤ y)) (by intro a b c h1 h2; simp at h1 h2 ⊢; omega) (by intro a b; simp; omega) zs
    exact h1.imp fun h => by simpa using h
  exact strict_ext _ _ (strict_compact _ hs) (marks_strict n zs) fun x => by rw [mem_compact, mem_marks h, hp.mem_iff]
theorem hopsOn_mem {ks : List Lnk} : ∀ (r : List Step) (a : Step) (H : List Hop), hopsOn ks a r = some H → ∀ h ∈ H, ∃ s, h ∈ hops ks s
  | [], a, H, e, h, hh => by cases e; cases hh
  | b :: r, a, H, e, h, hh => by
    unfold hopsOn at e
    split at e
    · cases e
    · next x e1 =>
      split at e
      · cases e
      · next K e2 =>
        cases e
        rcases List.mem_cons.1 hh with rfl | hh
        · exact ⟨a, List.mem_of_find?_eq_some e1⟩
        · exact hopsOn_mem r b K e2 h hh
theorem transit_pt {l : Lay} {r : Rte} (h : rerr l r = 0) : ∀ x ∈ transit l r, -1 ≤ x.pt ∧ x.pt < l.points.length := by
  obtain ⟨hc, -, -, -, -, -, -, H, hH, e⟩ := rerr_ok h
  intro x hx
  rw [e] at hx
  cases hS : r.steps with
  | nil => rw [hS] at hH; cases hH; cases hx
  | cons a q =>
    rw [hS] at hH
    obtain ⟨s, hs⟩ := hopsOn_mem q a H hH x hx
    exact hop_pt hc hs
theorem res_range {l : Lay} {r : Rte} (h : rerr l r = 0) : ∀ x ∈ resList l r, 0 ≤ x ∧ x < (l.sections.length + l.points.length : Nat) := by
  obtain ⟨hc, -, -, -, -, hin, -, -⟩ := rerr_ok h
  intro x hx
  unfold resList at hx
  rcases List.mem_append.1 hx with hx | hx
  · obtain ⟨s, hs, rfl⟩ := List.mem_map.1 hx
    have := hin s hs
    simp only [stepIn, Bool.and_eq_true, decide_eq_true_eq] at this
    omega
  · obtain ⟨y, hy, rfl⟩ := List.mem_map.1 hx
    rw [List.mem_filter] at hy
    have := transit_pt h y hy.1
    have hne : y.pt ≠ -1 := by simpa using hy.2
    omega
theorem rres_ok {l : Lay} {r : Rte} (h : rerr l r = 0) : rres l r = (Lib.compact ((resList l r).mergeSort fun x y => decide (x ≤ y)), 0) := by
  rw [sorted_marks (res_range h)]
  unfold rres marks
  rw [if_neg (by rw [h]; decide)]
theorem res_len {l : Lay} {r : Rte} (h : rerr l r = 0) : (resList l r).length ≤ 48 := by
  obtain ⟨-, h1, -, -, -, -, -, H, hH, e⟩ := rerr_ok h
  have h2 := along_len hH
  unfold resList
  rw [List.length_append, List.length_map, List.length_map, e]
  have := List.length_filter_le (fun h : Hop => !decide (h.pt = -1)) H
  omega
end Go.Proofs.YtnfelcjpjodjhaaGreat.RtS

namespace Go.Proofs
open Go.Shelf
def Tryz.lays189_ren : Go.Shelf.Ren := ⟨fun | 189 => 32 | 125 => 56 | 257 => 55 | 128 => 87 | 129 => 88 | 294 => 78 | 295 => 79 | 296 => 80 | 297 => 81 | 298 => 82 | 299 => 83 | 216 => 84 | 300 => 85 | 301 => 86 | 328 => 107 | 329 => 108 | 330 => 109 | 331 => 110 | 332 => 111 | 215 => 112 | 343 => 121 | n => n, fun | 28 => 34 | 3 => 3 | 46 => 71 | 0 => 0 | 51 => 139 | 53 => 141 | 4 => 4 | 183 => 132 | 182 => 131 | 131 => 136 | 5 => 5 | 9 => 9 | 218 => 170 | 222 => 174 | 228 => 180 | 229 => 181 | n => n, fun | n => n⟩
theorem Tryz.lays189 : Go.Proofs.Lays.n189 Tryz.prog Tryz.lays189_ren := {
  mixed := by kernel_rfl
  f125 := Tryz.func56.trans (congrArg some (by kernel_rfl))
  f128 := Tryz.func87.trans (congrArg some (by kernel_rfl))
  f129 := Tryz.func88.trans (congrArg some (by kernel_rfl))
  f189 := Tryz.func32.trans (congrArg some (by kernel_rfl))
  f215 := Tryz.func112.trans (congrArg some (by kernel_rfl))
  f216 := Tryz.func84.trans (congrArg some (by kernel_rfl))
  f257 := Tryz.func55.trans (congrArg some (by kernel_rfl))
  f294 := Tryz.func78.trans (congrArg some (by kernel_rfl))
  f295 := Tryz.func79.trans (congrArg some (by kernel_rfl))
  f296 := Tryz.func80.trans (congrArg some (by kernel_rfl))
  f297 := Tryz.func81.trans (congrArg some (by kernel_rfl))
  f298 := Tryz.func82.trans (congrArg some (by kernel_rfl))
  f299 := Tryz.func83.trans (congrArg some (by kernel_rfl))
  f300 := Tryz.func85.trans (congrArg some (by kernel_rfl))
  f301 := Tryz.func86.trans (congrArg some (by kernel_rfl))
  f328 := Tryz.func107.trans (congrArg some (by kernel_rfl))
  f329 := Tryz.func108.trans (congrArg some (by kernel_rfl))
  f330 := Tryz.func109.trans (congrArg some (by kernel_rfl))
  f331 := Tryz.func110.trans (congrArg some (by kernel_rfl))
  f332 := Tryz.func111.trans (congrArg some (by kernel_rfl))
  f343 := Tryz.func121.trans (congrArg some (by kernel_rfl))
  t0 := Tryz.underlying0
  a0 := Tryz.isAgg0
  z0 := Tryz.sizeOf0
  v0 := Tryz.zeroValue0
  t3 := Tryz.underlying3
  a3 := Tryz.isAgg3
  z3 := Tryz.sizeOf3
  v3 := Tryz.zeroValue3
  t4 := Tryz.underlying4
  a4 := Tryz.isAgg4
  z4 := Tryz.sizeOf4
  v4 := Tryz.zeroValue4
  t5 := Tryz.underlying5
  a5 := Tryz.isAgg5
  z5 := Tryz.sizeOf5
  v5 := Tryz.zeroValue5
  t9 := Tryz.underlying9
  a9 := Tryz.isAgg9
  z9 := Tryz.sizeOf9
  v9 := Tryz.zeroValue9
  t28 := Tryz.underlying34
  a28 := Tryz.isAgg34
  z28 := Tryz.sizeOf34
  v28 := Tryz.zeroValue34
  t46 := Tryz.underlying71
  a46 := Tryz.isAgg71
  z46 := Tryz.sizeOf71
  v46 := Tryz.zeroValue71
  t51 := Tryz.underlying139
  a51 := Tryz.isAgg139
  z51 := Tryz.sizeOf139
  v51 := Tryz.zeroValue139
  t53 := Tryz.underlying141
  a53 := Tryz.isAgg141
  z53 := Tryz.sizeOf141
  v53 := Tryz.zeroValue141
  t131 := Tryz.underlying136
  a131 := Tryz.isAgg136
  z131 := Tryz.sizeOf136
  v131 := Tryz.zeroValue136
  t182 := Tryz.underlying131
  a182 := Tryz.isAgg131
  z182 := Tryz.sizeOf131
  v182 := Tryz.zeroValue131
  t183 := Tryz.underlying132
  a183 := Tryz.isAgg132
  z183 := Tryz.sizeOf132
  v183 := Tryz.zeroValue132
  t218 := Tryz.underlying170
  a218 := Tryz.isAgg170
  z218 := Tryz.sizeOf170
  v218 := Tryz.zeroValue170
  t222 := Tryz.underlying174
  a222 := Tryz.isAgg174
  z222 := Tryz.sizeOf174
  v222 := Tryz.zeroValue174
  t228 := Tryz.underlying180
  a228 := Tryz.isAgg180
  z228 := Tryz.sizeOf180
  v228 := Tryz.zeroValue180
  t229 := Tryz.underlying181
  a229 := Tryz.isAgg181
  z229 := Tryz.sizeOf181
  v229 := Tryz.zeroValue181 }
open Go.Sort Go.RowKit in
theorem Tryz.slices_Sort_int (blk off cap : Nat) (zs : List Int) (w : World) (hH : Holds (Value.int .i64) w blk off zs.toArray) (hblk : blk < w.heap.size) (hsz : zs.length < 4611686018427387904) :
    Calls Tryz.prog 32 #[.slice (some ⟨blk, off, none⟩) zs.length cap] w fun e w' =>
      e = .returned (.tuple #[]) ∧ ∃ n os, w' = grow (putRow (Value.int .i64) (Sort.ahead w n) blk off (zs.mergeSort fun x y => decide (x ≤ y)).toArray) os := Any.slices_Sort_int Tryz.lays189 blk off cap zs w hH hblk hsz
def Tryz.laysNm220_ren : Go.Shelf.Ren := ⟨fun | 20 => 33 | n => n, fun | 22 => 34 | 3 => 3 | 4 => 4 | 0 => 0 | n => n, fun | n => n⟩
theorem Tryz.laysNm220 : Go.Proofs.Lays2.n20 Tryz.prog Tryz.laysNm220_ren := {
  mixed := by kernel_rfl
  f20 := Tryz.func33.trans (congrArg some (by kernel_rfl))
  t0 := Tryz.underlying0
  a0 := Tryz.isAgg0
  z0 := Tryz.sizeOf0
  v0 := Tryz.zeroValue0
  t3 := Tryz.underlying3
  a3 := Tryz.isAgg3
  z3 := Tryz.sizeOf3
  v3 := Tryz.zeroValue3
  t4 := Tryz.underlying4
  a4 := Tryz.isAgg4
  z4 := Tryz.sizeOf4
  v4 := Tryz.zeroValue4
  t22 := Tryz.underlying34
  a22 := Tryz.isAgg34
  z22 := Tryz.sizeOf34
  v22 := Tryz.zeroValue34
  i3 := by kernel_rfl }
open Go.RowKit Go.Lib Go.Sort in
theorem Tryz.slices_Compact_int (blk off cap : Nat) (zs : List Int) (w : World) (hH : Holds (Value.int .i64) w blk off zs.toArray) (hsz : zs.length ≤ 9223372036854775807) (hcap : zs.length ≤ cap) :
    Calls Tryz.prog 33 #[.slice (some ⟨blk, off, none⟩) zs.length cap] w fun e w' => e = .returned (.slice (some ⟨blk, off, none⟩) (Lib.compact zs).length cap) ∧ ∃ q, w' = putRow (Value.int .i64) (Sort.ahead w q) blk off (Lib.compact zs ++ List.replicate (zs.length - (Lib.compact zs).length) 0).toArray := Any.slices_Compact_int Tryz.laysNm220 blk off cap zs w hH hsz hcap
open Go.RowKit Go.Lib Go.Sort in
theorem Tryz.slices_Compact_int_empty (a : Option Addr) (cap : Nat) (w : World) :
    Calls Tryz.prog 33 #[.slice a 0 cap] w fun e w' => e = .returned (.slice a 0 cap) ∧ w' = w := Any.slices_Compact_int_empty Tryz.laysNm220 a cap w
end Go.Proofs

namespace Go.Proofs.YtnfelcjpjodjhaaGreat.PRes
open Go.ChangeShapes Go.WideShapes Go.ChangeAt Go.RowKit Wd Small Mem Lay LayT Recs Keep Names PNames PSecs PLinks PEnds PTab PLnk PCheck PStep PHops Rt RtR RtW RtS PTra
set_option linter.unusedVariables false

theorem infoInt : (Tryz.prog.info? 3).map (fun i => (i.zero, i.size, i.bytes)) = some (some (.int .i64 0), 1, 8) := by kernel_rfl
theorem iR_cs (L : List Int) : iR.cs L = L.map (Value.int .i64) := by
  induction L with
  | nil => rfl
  | cons a r ih => simp only [Rec.cs, List.flatMap_cons, List.map_cons] at ih ⊢; rw [ih]; rfl
/-- what a call leaves that answers a list of resources of its own, and an error -/
def ResPost (r : List Int × Int) (w : World) (e : Ending) (w' : World) : Prop := ∃ A n c, e = .returned (.tuple #[.slice A n c, .int .i64 r.2]) ∧ Own iR w' w.heap.size (.slice A n c) n r.1 ∧ Below w.heap.size w w'

open Go.Sort in
/-- a row of numbers, sorted by the library and each kept once -/
theorem sort_compact (g cap : Nat) (zs : List Int) (base : Nat) (w : World) (hO : Own iR w base (.slice (some ⟨g, 0, none⟩) zs.length cap) zs.length zs) (hl : zs.length ≤ 1000) :
    Calls Tryz.prog 32 #[.slice (some ⟨g, 0, none⟩) zs.length cap] w fun e w' => e = .returned (.tuple #[]) ∧ w.grownBy w' (some g) ∧
      Calls Tryz.prog 33 #[.slice (some ⟨g, 0, none⟩) zs.length cap] w' fun e w'' => e = .returned (.slice (some ⟨g, 0, none⟩) (Lib.compact (zs.mergeSort fun x y => decide (x ≤ y))).length cap) ∧ w'.grownBy w'' (some g) ∧
        Own iR w'' base (.slice (some ⟨g, 0, none⟩) (Lib.compact (zs.mergeSort fun x y => decide (x ≤ y))).length cap) (Lib.compact (zs.mergeSort fun x y => decide (x ≤ y))).length (Lib.compact (zs.mergeSort fun x y => decide (x ≤ y))) := by
  rcases hO.2.2 with ⟨e, _⟩ | ⟨g', cap', cur, e, hbase, hb, h1, h2, h3, h4⟩
  · cases e
  · injection e with e1 _ e2
    injection e1 with e1
    injection e1 with e1
    subst e1 e2
    have h4' : cur.toList.take zs.length = zs.map (Value.int .i64) := by rw [← iR_cs, ← h4]; show _ = cur.toList.take (zs.length * 1); rw [Nat.mul_one]
    refine (Tryz.slices_Sort_int g 0 cap zs w (holds_of_blockI hb h4') (lt_of_block hb) (by omega)).mono ?_
    rintro e w' ⟨rfl, n, os, rfl⟩
    have hlen : (zs.mergeSort fun x y => decide (x ≤ y)).length = zs.length := List.length_mergeSort _
    refine ⟨rfl, grownBy_sortedI _, ?_⟩
    have hb2 := heap_sortedI (n := n) (os := os) (zs.mergeSort fun x y => decide (x ≤ y)).toArray hb
    generalize (zs.mergeSort fun x y => decide (x ≤ y)) = ss at *
    have ht2 : (putCells (Value.int .i64) 0 ss.toArray cur).toList.take ss.length = ss.map (Value.int .i64) := take_putCellsI cur ss (by rw [hlen]; have : cap * 1 = cap := Nat.mul_one _; have h3' : cur.size = cap * 1 := h3; omega)
    have hsz : (putCells (Value.int .i64) 0 ss.toArray cur).size = cap * 1 := by simp [putCells]; exact h3.trans (Nat.mul_one _)
    generalize grow (putRow (Value.int .i64) (Sort.ahead w n) g 0 ss.toArray) os = w1 at *
    generalize putCells (Value.int .i64) 0 ss.toArray cur = cur2 at *
    have hC := Tryz.slices_Compact_int g 0 cap ss w1 (holds_of_blockI hb2 ht2) (by omega) (by omega)
    rw [hlen] at hC
    refine hC.mono ?_
    rintro e w2 ⟨rfl, q, rfl⟩
    have hcl := Lib.compact_length_le ss
    refine ⟨rfl, ?_, rfl, ?_, .inr ⟨g, cap, putCells (Value.int .i64) 0 (Lib.compact ss ++ List.replicate (zs.length - (Lib.compact ss).length) 0).toArray cur2, rfl, hbase, ?_, by omega, h2, ?_, ?_⟩⟩
    · have := grownBy_sortedI (w := w1) (g := g) (n := q) (os := #[]) (Lib.compact ss ++ List.replicate (zs.length - (Lib.compact ss).length) 0).toArray
      simpa using this
    · rw [Recs.cs_length]
    · have := heap_sortedI (n := q) (os := #[]) (Lib.compact ss ++ List.replicate (zs.length - (Lib.compact ss).length) 0).toArray hb2
      simpa using this
    · simp [putCells]; exact hsz
    · have h5 := take_putCellsI cur2 (Lib.compact ss ++ List.replicate (zs.length - (Lib.compact ss).length) 0) (by simp; omega)
      have h6 := congrArg (List.take (Lib.compact ss).length) h5
      rw [List.take_take, Nat.min_eq_left (by simp), List.map_append, List.take_left' (by simp)] at h6
      show _ = iR.cs (Lib.compact ss)
      rw [iR_cs, ← h6]
      show List.take ((Lib.compact ss).length * 1) _ = _
      rw [Nat.mul_one]

theorem filt_snoc (n : Int) (H : List Hop) (k : Nat) (h : Hop) (e : H[k]? = some h) : ((H.take (k + 1)).filter fun h => !decide (h.pt = -1)).map (fun h => n + h.pt) = ((H.take k).filter fun h => !decide (h.pt = -1)).map (fun h => n + h.pt) ++ if h.pt = -1 then [] else [n + h.pt] := by
  rw [List.take_add_one, e]
  by_cases h1 : h.pt = -1
  · simp [h1]
  · simp [h1]

set_option maxRecDepth 100000 in
set_option maxHeartbeats 8000000 in
theorem p_rres (v : LV) (l : Lay) (A : Option Addr) (n c : Nat) (L : List Lay.Step) (ov : Int) (w : World) (hL : RdL w w.heap.size v l) (hR : Rd stpR w w.heap.size A n L) (hnc : n ≤ c) (hc : c ≤ 9223372036854775807) (ho1 : -9223372036854775808 ≤ ov) (ho2 : ov ≤ 9223372036854775807) :
    Calls Tryz.prog 17 #[v.val, rteV A n c ov] w (ResPost (rres l ⟨L, ov⟩) w) := by
  obtain ⟨ih, hih, hz0, hz1, hz2⟩ := info_parts infoInt
  obtain ⟨W, hW⟩ : ∃ W, (w.alloc (.cells #[.slice v.A1 v.n1 v.c1, .slice v.A2 v.n2 v.c2, .slice v.A3 v.n3 v.c3, .slice v.A4 v.n4 v.c4] 26)).alloc (.cells #[.slice A n c, .int .i64 ov] 29) = W := ⟨_, rfl⟩
  have hbW : Below w.heap.size w W := by rw [← hW]; exact ((Below.refl _ _).alloc (Nat.le_refl _) _).alloc (by simp) _
  have hzW : W.heap.size = w.heap.size + 2 := by rw [← hW]; simp
  have hbox : W.cell? ⟨w.heap.size, 0, none⟩ = some (.slice v.A1 v.n1 v.c1) ∧ W.cell? ⟨w.heap.size, 1, none⟩ = some (.slice v.A2 v.n2 v.c2) ∧ W.cell? ⟨w.heap.size, 2, none⟩ = some (.slice v.A3 v.n3 v.c3) ∧ W.cell? ⟨w.heap.size, 3, none⟩ = some (.slice v.A4 v.n4 v.c4) := by rw [← hW]; simp
  have hsb : W.cell? ⟨w.heap.size + 1, 0, none⟩ = some (.slice A n c) ∧ W.cell? ⟨w.heap.size + 1, 1, none⟩ = some (.int .i64 ov) := by rw [← hW]; simp
  have HK : Hid (∀ wr, Below W.heap.size W wr → _) := fun wr hb => box_kept hb (show w.heap.size < W.heap.size by omega) hbox
  have HSB : Hid (∀ wr, Below W.heap.size W wr → wr.cell? ⟨w.heap.size + 1, 0, none⟩ = some (.slice A n c) ∧ wr.cell? ⟨w.heap.size + 1, 1, none⟩ = some (.int .i64 ov)) := fun wr hb => ⟨(hb.cell (p := ⟨w.heap.size + 1, 0, none⟩) (by show w.heap.size + 1 < W.heap.size; omega)).trans hsb.1, (hb.cell (p := ⟨w.heap.size + 1, 1, none⟩) (by show w.heap.size + 1 < W.heap.size; omega)).trans hsb.2⟩
  have HRW := Lib.hid (hR.grow hbW hbW.size)
  have HBW := Lib.hid hbW
  have HZ := Lib.hid hzW
  have HLL := Lib.hid hR.1
  have HN3 := Lib.hid hL.sec.1
  have HM2 : Hid (check l = 0 → v.n2 ≤ 48 ∧ v.n3 ≤ 96) := fun h => by have := LayT.limits h; have := hL.sec.1; have := hL.pt.1; omega
  have HN2 := Lib.hid hL.pt.1
  have HP := Lib.hid (p_tran v l A n c L ov W (hL.grow hbW hbW.size) (hR.grow hbW hbW.size) hnc hc ho1 ho2)
  clear hL hR hbW hzW
  obtain ⟨b0, b1, b2, b3⟩ := hbox
  obtain ⟨s0, s1⟩ := hsb
  obtain ⟨A1, n1, c1, A2, n2, c2, A3, n3, c3, A4, n4, c4⟩ := v
  simp only [LV.val, rteV] at *
  go_enter Tryz.func17, Tryz.ntmps17
  go_wp2_with fail
  try rw [hW]
  clear hW
  refine HP.out.mono ?_
  rintro e w1 ⟨Ah, nh, ch, rfl, hOh, hb1⟩
  have HB1 := Lib.hid hb1
  have HBX1 := Lib.hid (HBW.out.trans (HB1.out.mono HBW.out.size))
  have HRh := Lib.hid hOh.rd
  have hnh := hOh.1
  clear b0 b1 b2 b3 s0 s1 HP hb1 hOh
  by_cases hck : rerr l ⟨L, ov⟩ = 0
  · have HER := Lib.hid hck
    obtain ⟨k1, k2, k3, k4, k5, k6, -, H0, hH0, hH1⟩ := rerr_ok hck
    have hnh2 : nh ≤ 24 := by rw [← hnh, hH1]; have := along_len hH0; simp only at k2 this; omega
    have hm2 := HM2.out k1
    have hnl := HLL.out
    simp only at k2
    have HRES := Lib.hid (rres_ok hck)
    have HRL := Lib.hid (res_len hck)
    have EL : Hid (resList l ⟨L, ov⟩ = L.map (·.1) ++ ((transit l ⟨L, ov⟩).filter fun h => !decide (h.pt = -1)).map fun h => (n3 : Int) + h.pt) := by rw [Hid, resList, HN3.out]
    have HPT := Lib.hid (transit_pt hck)
    have HNH := Lib.hid hnh
    rw [hck]
    clear hck k1 k6 hH0 hH1 hnh
    generalize transit l ⟨L, ov⟩ = H at *
    obtain ⟨s0, s1⟩ := HSB.out w1 HB1.out
    go_wp2_with fail
    clear s0 s1
    go_loopw [8, 25] (fun h i wr => ∃ (k cc : Nat) (AA : Option Addr), k ≤ n ∧ i = .int .i64 k ∧ h = .slice AA k cc ∧ Own iR wr w1.heap.size (.slice AA k cc) k ((L.map (·.1)).take k) ∧ Below w1.heap.size w1 wr) (fun _ i _ => n - (intOf i).toNat)
    case atStart => exact ⟨0, 0, none, by omega, rfl, rfl, Own.nil _ _, Below.refl _ _⟩
    case round =>
      obtain ⟨k, cc, AA, hk, rfl, rfl, hO, hbr⟩ := hrel
      have hzr := hbr.size
      by_cases hlt : k < n
      · obtain ⟨ad, x, y, rfl, hab, hs, d0, d1⟩ := loadStp (HRW.out.below (HB1.out.trans (hbr.mono HB1.out.size))) hlt
        have HST : Hid ((L.map (·.1)).take k ++ [x] = (L.map (·.1)).take (k + 1)) := by rw [Hid, List.take_add_one, List.getElem?_map, hs]; rfl
        have hkn : (k : Int) < (n : Int) := by omega
        have hn63 : k + 1 ≤ maxLen := by unfold maxLen; omega
        have hby : (k + 1) * 8 ≤ 140737488355328 := by omega
        obtain ⟨wa, hwa⟩ : ∃ wa, wr.alloc (.cells #[.int .i64 x, .int .i64 y] 39) = wa := ⟨_, rfl⟩
        have hba : Below wr.heap.size wr wa := by rw [← hwa]; exact (Below.refl _ _).alloc (Nat.le_refl _) _
        have q0 : wa.cell? ⟨wr.heap.size, 0, none⟩ = some (.int .i64 x) := by rw [← hwa]; simp
        have HOa := Lib.hid (hO.below hba (Nat.le_refl _))
        have HBa := Lib.hid (hbr.trans (hba.mono hzr))
        clear hs hab hO hbr hzr
        go_upto_region 8 with fail
        try rw [hwa]
        clear hwa d0 d1 hba
        have hzr := HBa.out.size
        go_wp2_with (at_builtin; refine wpList_append_own _ rfl _ _ 34 rfl w1.heap.size 3 ih _ 1 8 Tryz.underlying34 hih hz0 hz1 hz2 rfl (by omega) (.slice AA k cc) k (iR.cs ((L.map (·.1)).take k)) rfl (HOa.out.2.alloc _) ⟨wa.heap.size, 0, none⟩ 1 1 [.int .i64 x] rfl rfl (cell_one_new _ _ _) (Recs.one_cell _ rfl) hn63 hby (by simp; omega) ?_)
        intro v7 w7 hown7 hgrow7 hnil7
        have hO7 := Own.push (R := iR) (a := x) HOa.out.1 hown7
        obtain ⟨A7, c7, rfl, _⟩ := hO7.form
        have hb7 := ((HBa.out.alloc hzr (.cells #[.int .i64 x] 3)).grown hgrow7 (by simp; omega) (fun k hk => (HOa.out.2.lt k hk).1))
        have HO7 := Lib.hid hO7
        have HB7 := Lib.hid hb7
        clear hown7 hgrow7 hO7 hb7 hnil7
        go_wp2_with fail
        go_roundw
        case rel => exact ⟨k + 1, c7, A7, by omega, by go_num, rfl, by rw [← HST.out]; exact HO7.out, HB7.out⟩
        case measure => simp [intOf]; omega
      · obtain rfl : k = n := by omega
        have hkn : ¬ (k : Int) < (k : Int) := by omega
        have HO1 : Hid (Own iR wr w1.heap.size (.slice AA k cc) k (L.map (·.1))) := by rw [List.take_of_length_le (by rw [List.length_map]; omega)] at hO; exact hO
        have HBr := Lib.hid hbr
        clear hO hbr
        go_wp2_with fail
        go_loopw [8, 37] (fun h i wq => ∃ (q m c2 : Nat) (A2 : Option Addr) (R : List Int), q ≤ nh ∧ m ≤ k + q ∧ i = .int .i64 q ∧ h = .slice A2 m c2 ∧ Own iR wq w1.heap.size (.slice A2 m c2) m R ∧ Hid (R = L.map (·.1) ++ ((H.take q).filter fun h => !decide (h.pt = -1)).map fun h => (n3 : Int) + h.pt) ∧ Below w1.heap.size w1 wq) (fun _ i _ => nh - (intOf i).toNat)
        case atStart => exact ⟨0, k, cc, AA, _, by omega, by omega, rfl, rfl, HO1.out, by rw [Hid]; simp, HBr.out⟩
        case round =>
          obtain ⟨q, m, c2', A2', R, hq, hm, rfl, rfl, hO, HR, hbr⟩ := hrel
          have hzr := hbr.size
          by_cases hlq : q < nh
          · obtain ⟨ae, ⟨⟨ha, hb⟩, pt, ps⟩, rfl, hae, hj, e0, e1, e2, e3⟩ := loadHop (HRh.out.below hbr) hlq
            have hqn : (q : Int) < (nh : Int) := by omega
            have HFS := Lib.hid (filt_snoc (n3 : Int) H q _ hj)
            obtain ⟨hp1, hp2⟩ := HPT.out _ (List.mem_of_getElem? hj)
            simp only at e0 e1 e2 e3 HFS hp1 hp2
            obtain ⟨wa, hwa⟩ : ∃ wa, wr.alloc (.cells #[.int .i64 ha, .int .i64 hb, .int .i64 pt, .int .i64 ps] 70) = wa := ⟨_, rfl⟩
            have hba : Below wr.heap.size wr wa := by rw [← hwa]; exact (Below.refl _ _).alloc (Nat.le_refl _) _
            have q2 : wa.cell? ⟨wr.heap.size, 2, none⟩ = some (.int .i64 pt) := by rw [← hwa]; simp
            have HOa := Lib.hid (hO.below hba (Nat.le_refl _))
            have HBa := Lib.hid (hbr.trans (hba.mono hzr))
            obtain ⟨-, -, b2, -⟩ := HK.out wa (HB1.out.trans (HBa.out.mono HB1.out.size))
            have hpl := HN2.out
            clear hj hae hO hbr hzr
            go_upto_region 13 with fail
            try rw [hwa]
            clear hwa e0 e1 e2 e3 hba
            have hzr := HBa.out.size
            by_cases hpt : pt = -1
            · have HR2 : Hid (R = L.map (·.1) ++ ((H.take (q + 1)).filter fun h => !decide (h.pt = -1)).map fun h => (n3 : Int) + h.pt) := by rw [Hid, HFS.out, if_pos hpt, List.append_nil]; exact HR.out
              subst hpt
              go_wp2_with fail
              go_roundw
              case rel => exact ⟨q + 1, m, c2', A2', R, by omega, by omega, by go_num, rfl, HOa.out, HR2, HBa.out⟩
              case measure => simp [intOf]; omega
            · have HR2 : Hid (R ++ [(n3 : Int) + pt] = L.map (·.1) ++ ((H.take (q + 1)).filter fun h => !decide (h.pt = -1)).map fun h => (n3 : Int) + h.pt) := by rw [Hid, HFS.out, if_neg hpt, HR.out, List.append_assoc]
              have hptb : (pt != -1) = true := by rw [bne_iff_ne]; exact hpt
              have hws : IntKind.i64.wrap ((n3 : Int) + pt) = (n3 : Int) + pt := by rw [IntKind.wrap_i64]; omega
              have hn63 : m + 1 ≤ maxLen := by unfold maxLen; omega
              have hby : (m + 1) * 8 ≤ 140737488355328 := by omega
              go_wp2_with (at_builtin; refine wpList_append_own _ rfl _ _ 34 rfl w1.heap.size 3 ih _ 1 8 Tryz.underlying34 hih hz0 hz1 hz2 rfl (by omega) (.slice A2' m c2') m (iR.cs R) rfl (HOa.out.2.alloc _) ⟨wa.heap.size, 0, none⟩ 1 1 [.int .i64 ((n3 : Int) + pt)] rfl rfl (cell_one_new _ _ _) (Recs.one_cell _ rfl) hn63 hby (by simp; omega) ?_)
              intro v7 w7 hown7 hgrow7 hnil7
              have hO7 := Own.push (R := iR) (a := ((n3 : Int) + pt)) HOa.out.1 hown7
              obtain ⟨A7, c7, rfl, _⟩ := hO7.form
              have hb7 := ((HBa.out.alloc hzr (.cells #[.int .i64 ((n3 : Int) + pt)] 3)).grown hgrow7 (by simp; omega) (fun k hk => (HOa.out.2.lt k hk).1))
              have HO7 := Lib.hid hO7
              have HB7 := Lib.hid hb7
              clear hown7 hgrow7 hO7 hb7 hnil7
              go_wp2_with fail
              go_roundw
              case rel => exact ⟨q + 1, m + 1, c7, A7, R ++ [(n3 : Int) + pt], by omega, by omega, by go_num, rfl, HO7.out, HR2, HB7.out⟩
              case measure => simp [intOf]; omega
          · obtain rfl : q = nh := by omega
            have hqn : ¬ (q : Int) < (q : Int) := by omega
            have hRe : R = resList l ⟨L, ov⟩ := by rw [HR.out, EL.out, List.take_of_length_le (by have := HNH.out; omega)]
            subst hRe
            have hmm := hO.1
            have hm0 : 0 < m := by
              have : k ≤ (resList l ⟨L, ov⟩).length := by rw [EL.out, List.length_append, List.length_map]; omega
              omega
            obtain ⟨g, rfl, hg1, hg2⟩ := hO.ne_nil hm0
            obtain ⟨zs, hzs⟩ : ∃ zs, resList l ⟨L, ov⟩ = zs := ⟨_, rfl⟩
            rw [hzs] at hO hmm HRL HRES
            subst hmm
            have HSC := Lib.hid (sort_compact g c2' zs w1.heap.size wr hO (by have := HRL.out; omega))
            have HBr2 := Lib.hid (HBX1.out.trans (hbr.mono HBX1.out.size))
            clear hO hbr
            go_wp2_with fail
            refine HSC.out.mono ?_
            rintro e w5 ⟨rfl, hg5, hC⟩
            have HC := Lib.hid hC
            have HG5 := Lib.hid hg5
            clear hC hg5
            go_wp2_with fail
            refine HC.out.mono ?_
            rintro e w6 ⟨rfl, hg6, hO6⟩
            have HB6 := Lib.hid ((HBr2.out.grown HG5.out HBr2.out.size (fun k hk => by cases hk; have := HBX1.out.size; omega)).grown hg6 (by have := HBr2.out.size; have := HG5.out.size; omega) (fun k hk => by cases hk; have := HBX1.out.size; omega))
            have HO6 := Lib.hid hO6
            clear hg6 hO6
            go_wp2_with fail
            go_ret2
            exact ⟨some ⟨g, 0, none⟩, _, c2', by rw [HRES.out]; rfl, by rw [HRES.out]; exact HO6.out.base_ HBX1.out.size, HB6.out⟩
  · have E : Hid (rres l ⟨L, ov⟩ = ([], rerr l ⟨L, ov⟩)) := by unfold rres; rw [Hid, if_pos hck]
    generalize rerr l ⟨L, ov⟩ = z at *
    go_wp2_with fail
    go_ret2
    exact ⟨none, 0, 0, by rw [E.out]; rfl, by rw [E.out]; exact Own.nil _ _, HBX1.out⟩
end Go.Proofs.YtnfelcjpjodjhaaGreat.PRes

namespace Go.Proofs.YtnfelcjpjodjhaaGreat.RRev
open Go.ChangeShapes Go.WideShapes Go.ChangeAt Go.RowKit Wd Small Mem Lay LayT Recs Keep Names PNames PSecs PLinks PEnds PTab PLnk PCheck PStep PHops RNames RCheck
set_option linter.unusedVariables false

theorem r_reverse (x y : Int) (w : World) : Calls Tryz.prog 15 #[.agg #[.int .i64 x, .int .i64 y]] w (PairPost (rev (x, y)) w) := by
  cases h : (y == 0) with
  | true =>
    have E : Hid (rev (x, y) = (x, 1)) := by unfold rev; rw [Hid, if_pos (by simpa using h)]
    go_enter Tryz.func15, Tryz.ntmps15
    go_wp2
    refine bodyPost_ret (v := .agg #[.int .i64 x, .int .i64 1]) ?_ rfl ⟨by rw [E.out], ?_⟩
    · simp [results, Tryz.results15, go_sem]
    · repeat (first | exact Below.refl _ _ | refine Below.drew ?_ | refine Below.alloc ?_ (by simp; try omega) _)
  | false =>
    have E : Hid (rev (x, y) = (x, 0)) := by unfold rev; rw [Hid, if_neg (by simpa using h)]
    go_enter Tryz.func15, Tryz.ntmps15
    go_wp2
    refine bodyPost_ret (v := .agg #[.int .i64 x, .int .i64 0]) ?_ rfl ⟨by rw [E.out], ?_⟩
    · simp [results, Tryz.results15, go_sem]
    · repeat (first | exact Below.refl _ _ | refine Below.drew ?_ | refine Below.alloc ?_ (by simp; try omega) _)
end Go.Proofs.YtnfelcjpjodjhaaGreat.RRev
