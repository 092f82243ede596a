/-
  Contracts of the methods of strings.Builder at the one field of the program's writer: a block of the writer's type that the call has made itself. It may have been read before.
  Contracts of the writer's own methods: numbers, names, sections, links.
  Contracts of the writer's walk over a list: names, sections, links.
  Contract of the program's Encode: the encoding of a valid layout, and the error for any other.
-/
import Derived.Test.YtepbdcnjhbaehaaSmall
import Derived.Test.YtepbdcnjhbaehaaBin
import Derived.Lib.FrozenHead2
import Derived.Lib.UnsafeStr
import Derived.Laws.OwnMore
import Derived.Lib.OthersKept
import Derived.Test.YtepbdcnjhbaehaaRecs
import Derived.StillTailTactics
import Derived.Deep.DeepCutAuto
import Derived.Test.YtepbdcnjhbaehaaCrcA
import Derived.Test.YtepbdcnjhbaehaaPCheck
namespace Go.Proofs.Ytepbdcnjhbaehaa.Wrt
open Go.ChangeShapes Go.WideShapes Go.ChangeAt Go.RowKit Wd
set_option linter.unusedVariables false

theorem infoB : (Try.prog.info? 54).map (fun i => i.size) = some 2 := by kernel_rfl
theorem infoU : (Try.prog.info? 5).map (fun i => (i.zero, i.size, i.bytes)) = some (some (.int .u8 0), 1, 1) := by kernel_rfl
theorem lies : liesAt Try.prog Try.prog.depth 56 (2 / Try.prog.cellsOf 56) 0 54 1 = true := by kernel_rfl
theorem cellsU : Try.prog.cellsOf 5 = 1 := by kernel_rfl

/-- block b is a writer of the call's own (from block B on) that holds the bytes l -/
def Wr (B b : Nat) (l : Bs) (w : World) : Prop := Lib.IsBuilderF 56 5 B b (Lib.byteCells l) w
theorem cells_append (a b : Bs) : Lib.byteCells a ++ Lib.byteCells b = Lib.byteCells (a ++ b) := (Lib.byteCells_append a b).symm
theorem cells_str (s : ByteArray) : Lib.strCells s = Lib.byteCells (bs s) := rfl
theorem cells_one (c : UInt8) : [Value.int .u8 (c.toNat : Int)] = Lib.byteCells [c] := rfl
/-- every block but b and the rows of bytes stands as it stood -/
abbrev Kept (b : Nat) (w w' : World) : Prop := Lib.OthersKept 5 (some b) w w'
theorem Kept.cells {b k : Nat} {w w' : World} {cs : Array Value} {t : TypeId} {fr : Nat × Nat} (h : Kept b w w') (hk : w.heap[k]? = some (.cells cs t fr)) (hne : k ≠ b) (ht : t ≠ 5) : w'.heap[k]? = some (.cells cs t fr) :=
  h k _ hk (fun e => hne (by injection e)) (fun c fz e => ht (by injection e))
theorem Wr.fresh (w : World) : Wr w.heap.size w.heap.size [] (w.alloc (.cells #[.pointer none, .slice none 0 0] 56)) := Lib.IsBuilderF.of (Lib.fresh_isBuilder _ _ w)
theorem Wr.drewN {B b : Nat} {l : Bs} {w : World} (h : Wr B b l w) (n : Nat) : Wr B b l (w.drewN n) := h
theorem Wr.below {B b : Nat} {l : Bs} {w w' : World} (h : Wr B b l w) (hb : Below w.heap.size w w') : Wr B b l w' := by
  have step : ∀ p, Lib.BuilderAtF 56 5 B b p (Lib.byteCells l) w → Lib.BuilderAtF 56 5 B b p (Lib.byteCells l) w' := by
    rintro p ⟨hB, v, hbk, hown, hne⟩
    have hlt : b < w.heap.size := (Array.getElem?_eq_some_iff.1 hbk).1
    refine ⟨hB, v, (hb.block b hlt).trans hbk, hown.kept (row := none) ⟨hb.os, hb.tape, hb.output, hb.size, fun k hk _ => hb.block k hk⟩ ?_, hne⟩
    cases v.ownBlock with
    | none => exact .inl rfl
    | some g => exact .inr (by simp)
  rcases h with h | h
  · exact .inl (step _ h)
  · exact .inr (step _ h)
theorem Wr.alloc {B b : Nat} {l : Bs} {w : World} (h : Wr B b l w) (o : Obj) : Wr B b l (w.alloc o) := h.below ((Below.refl _ _).alloc (Nat.le_refl _) _)
theorem Wr.lt {B b : Nat} {l : Bs} {w : World} (h : Wr B b l w) : b < w.heap.size := by
  rcases h with h | h <;> exact h.lt
theorem Wr.base {B b : Nat} {l : Bs} {w : World} (h : Wr B b l w) : B ≤ b := by
  rcases h with h | h <;> exact h.1

set_option maxRecDepth 100000 in
theorem check_used (b : Nat) (w : World) (h0 : w.cell? ⟨b, 0, none⟩ = some (.pointer (some ⟨b, 0, none⟩))) :
    Calls Try.prog 51 #[.pointer (some ⟨b, 0, none⟩)] w fun e w' => e = .returned (.tuple #[]) ∧ w' = w := by
  obtain ⟨j, hj, _⟩ := Option.map_eq_some_iff.1 infoB
  go_enter Try.func51, Try.ntmps51
  go_wp2_with fail
  rw [Lib.run_neq_ptr_same w _ Try.underlying52 hj]
  go_wp2
  go_end0
  exact ⟨rfl, rfl⟩
set_option maxRecDepth 100000 in
theorem check_fresh (b : Nat) (w : World) (h0 : w.cell? ⟨b, 0, none⟩ = some (.pointer none)) (hsh : w.shape? b = some (56, 2)) (hfz : w.frozen? ⟨b, 0, none⟩ = false) :
    Calls Try.prog 51 #[.pointer (some ⟨b, 0, none⟩)] w fun e w' => e = .returned (.tuple #[]) ∧ w' = w.setCell ⟨b, 0, none⟩ (.pointer (some ⟨b, 0, none⟩)) := by
  obtain ⟨j, hj, hjs⟩ := Option.map_eq_some_iff.1 infoB
  go_enter Try.func51, Try.ntmps51
  go_wp2_with fail
  rw [Lib.run_to_unsafe w ⟨b, 0, none⟩ Try.underlying52 Try.underlying134 hj (by rw [hjs]; decide) hsh (Nat.zero_lt_succ 1)]
  simp only [Result.andThen]
  rw [Oper.upon_value]
  go_wp2
  rw [run_callFunc_extern Try.func78 (by kernel_rfl) (by kernel_rfl) (by kernel_rfl) (e := Extern.AbiNoEscape.same) (by kernel_rfl)]
  rw [Lib.run_noEscape]
  simp only [Result.andThen]
  rw [Oper.upon_value]
  go_wp2
  rw [Lib.run_from_unsafe w ⟨b, 0, none⟩ Try.underlying134 Try.underlying52 hj hsh lies]
  simp only [Result.andThen]
  rw [Oper.upon_value]
  go_wp2
  go_end0
  exact ⟨rfl, rfl⟩
theorem check (B b : Nat) (l : Bs) (w : World) (h : Wr B b l w) :
    Calls Try.prog 51 #[.pointer (some ⟨b, 0, none⟩)] w fun e w' => e = .returned (.tuple #[]) ∧ Lib.BuilderAtF 56 5 B b (.pointer (some ⟨b, 0, none⟩)) (Lib.byteCells l) w' ∧ Below B w w' ∧ Kept b w w' := by
  rcases h with h | h
  · refine (check_fresh b w h.cell0 h.shape h.frozen0).mono ?_
    rintro e w' ⟨rfl, rfl⟩
    exact ⟨rfl, h.used _, (Below.refl B w).setCell (p := ⟨b, 0, none⟩) h.1 _, (Lib.OthersKept.refl _ _ w).setCell ⟨b, 0, none⟩ rfl _⟩
  · refine (check_used b w h.cell0).mono ?_
    rintro e w' ⟨rfl, rfl⟩
    exact ⟨rfl, h, Below.refl B _, Lib.OthersKept.refl _ _ _⟩

theorem own_alloc {base : Nat} {e : TypeId} {size : Nat} {v : Value} {n : Nat} {xs : List Value} {w : World} (h : w.ownsRowF base e size v n xs) (o : Obj) : (w.alloc o).ownsRowF base e size v n xs :=
  h.kept (World.grownBy_alloc w o none) (by cases hv : v.ownBlock <;> simp)
theorem lt_of_cells {w : World} {b : Nat} {o : Obj} (h : w.heap[b]? = some o) : b < w.heap.size := (Array.getElem?_eq_some_iff.1 h).1

set_option maxHeartbeats 1000000 in
set_option maxRecDepth 100000 in
theorem write_byte (B b : Nat) (l : Bs) (c : UInt8) (w : World) (h : Wr B b l w) (hlen : l.length + 1 ≤ 140737488355328) (hBw : B ≤ w.heap.size) :
    Calls Try.prog 52 #[.pointer (some ⟨b, 0, none⟩), .int .u8 c.toNat] w fun e w' => e = .returned .nilIface ∧ Wr B b (l ++ [c]) w' ∧ Below B w w' ∧ Kept b w w' := by
  obtain ⟨i0, hi, hz0, hz1, hz2⟩ := info_parts infoU
  go_enter Try.func52, Try.ntmps52
  go_wp2_with fail
  refine (check B b l _ h).mono ?_
  rintro e w1 ⟨rfl, h1, hb1, hk1⟩
  obtain ⟨hB, v, hbk, hown, hne⟩ := h1
  rw [Lib.byteCells_length] at hown
  have c0 : w1.cell? ⟨b, 0, none⟩ = some (.pointer (some ⟨b, 0, none⟩)) := by rw [Lib.cell_of_heap hbk]; rfl
  have c1 : w1.cell? ⟨b, 1, none⟩ = some v := by rw [Lib.cell_of_heap hbk]; rfl
  have hz := hb1.size
  go_wp2_with (at_builtin; refine wpList_append_ownF _ rfl _ _ 36 rfl B 5 i0 (.int .u8 0) 1 1 Try.underlying36 hi hz0 hz1 hz2 rfl (by decide) _ _ _ rfl (own_alloc hown _) ⟨w1.heap.size, 0, none⟩ 1 1 [.int .u8 c.toNat] rfl rfl ?c1 ?c2 (by unfold maxLen; omega) (by omega) (by simp; omega) ?_)
  case c1 =>
    intro j u hj
    match j, hj with
    | 0, hj => simp at hj; subst hj; simp [Addr.add]
  case c2 => intro u hu; simp at hu; subst hu; rfl
  intro v' w2 hown' hgrow _
  have hlt := lt_of_cells hbk
  have hb2 : w2.heap[b]? = some (.cells #[.pointer (some ⟨b, 0, none⟩), v] 56 (0, 0)) := by
    rw [hgrow.block b (by simp; omega) (fun e => hne e.symm), Lib.alloc_old w1 _ b hlt]
    exact hbk
  have d0 : w2.cell? ⟨b, 0, none⟩ = some (.pointer (some ⟨b, 0, none⟩)) := by rw [Lib.cell_of_heap hb2]; rfl
  have d1 : w2.cell? ⟨b, 1, none⟩ = some v := by rw [Lib.cell_of_heap hb2]; rfl
  have f1 : w2.frozen? ⟨b, 1, none⟩ = false := Lib.frozen_of_heap hb2 1
  obtain ⟨g, cap, rfl⟩ : ∃ g cap, v' = .slice (some ⟨g, 0, none⟩) (l.length + 1) cap := by
    rcases hown'.2 with ⟨_, h0⟩ | ⟨g, cap, cur, fz, hv, _⟩
    · omega
    · exact ⟨g, cap, hv⟩
  go_wp2
  go_ret
  refine ⟨rfl, .inr ?_, ?_, ((hk1.alloc _).grown hgrow (Lib.ownsRowF_kind (own_alloc hown _))).setCell ⟨b, 1, none⟩ rfl _⟩
  · exact Lib.BuilderAtF.put (T := 56) (e := 5) hB hb2 (bs' := Lib.byteCells (l ++ [c])) (by rw [Lib.byteCells_length, ← cells_append, ← cells_one, List.length_append]; exact hown') (by decide)
  · exact ((hb1.alloc (by omega) _).grown hgrow (by simp; omega) (fun k hk => (hown.lt k hk).1)).setCell (p := ⟨b, 1, none⟩) hB _

set_option maxHeartbeats 1000000 in
set_option maxRecDepth 100000 in
theorem write_string (B b : Nat) (l : Bs) (s : ByteArray) (w : World) (h : Wr B b l w) (hlen : l.length + s.size ≤ 140737488355328) (hBw : B ≤ w.heap.size) :
    Calls Try.prog 25 #[.pointer (some ⟨b, 0, none⟩), .string s] w fun e w' => e = .returned (.tuple #[.int .i64 s.size, .nilIface]) ∧ Wr B b (l ++ bs s) w' ∧ Below B w w' ∧ Kept b w w' := by
  obtain ⟨i0, hi, hz0, hz1, hz2⟩ := info_parts infoU
  go_enter Try.func25, Try.ntmps25
  go_wp2_with fail
  refine (check B b l _ h).mono ?_
  rintro e w1 ⟨rfl, h1, hb1, hk1⟩
  obtain ⟨hB, v, hbk, hown, hne⟩ := h1
  rw [Lib.byteCells_length] at hown
  have c0 : w1.cell? ⟨b, 0, none⟩ = some (.pointer (some ⟨b, 0, none⟩)) := by rw [Lib.cell_of_heap hbk]; rfl
  have c1 : w1.cell? ⟨b, 1, none⟩ = some v := by rw [Lib.cell_of_heap hbk]; rfl
  have hz := hb1.size
  go_wp2_with (at_builtin; refine Lib.wpList_append_own_stringF _ rfl _ _ 36 9 rfl B 5 i0 Try.underlying36 Try.underlying9 hi hz0 hz1 hz2 _ _ _ rfl hown s rfl (by unfold maxLen; omega) (by omega) (by omega) ?_)
  intro v' w2 hown' hgrow _
  have hlt := lt_of_cells hbk
  have hb2 : w2.heap[b]? = some (.cells #[.pointer (some ⟨b, 0, none⟩), v] 56 (0, 0)) := by
    rw [hgrow.block b hlt (fun e => hne e.symm)]
    exact hbk
  have d0 : w2.cell? ⟨b, 0, none⟩ = some (.pointer (some ⟨b, 0, none⟩)) := by rw [Lib.cell_of_heap hb2]; rfl
  have d1 : w2.cell? ⟨b, 1, none⟩ = some v := by rw [Lib.cell_of_heap hb2]; rfl
  have f1 : w2.frozen? ⟨b, 1, none⟩ = false := Lib.frozen_of_heap hb2 1
  obtain ⟨ao, n', cap, rfl⟩ : ∃ ao n' cap, v' = .slice ao n' cap := by
    rcases hown'.2 with ⟨hv, _⟩ | ⟨g, cap, cur, fz, hv, _⟩
    · exact ⟨_, _, _, hv⟩
    · exact ⟨_, _, _, hv⟩
  go_wp2
  go_ret2
  refine ⟨rfl, .inr ?_, ?_, (hk1.grown hgrow (Lib.ownsRowF_kind hown)).setCell ⟨b, 1, none⟩ rfl _⟩
  · exact Lib.BuilderAtF.put (T := 56) (e := 5) hB hb2 (bs' := Lib.byteCells (l ++ bs s)) (by rw [Lib.byteCells_length, ← cells_append, ← cells_str, List.length_append, bs_length]; exact hown') (by decide)
  · exact (hb1.grown hgrow (by omega) (fun k hk => (hown.lt k hk).1)).setCell (p := ⟨b, 1, none⟩) hB _

set_option maxHeartbeats 1000000 in
set_option maxRecDepth 100000 in
/-- what the writer holds, as a text; it is a writer still -/
theorem text_of (B b : Nat) (l : Bs) (w : World) (h : Wr B b l w) (h0 : l ≠ []) :
    Calls Try.prog 33 #[.pointer (some ⟨b, 0, none⟩)] w fun e w' => e = .returned (.string (str l)) ∧ Wr B b l w' ∧ Below B w w' ∧ Kept b w w' := by
  obtain ⟨p, hp, hAt⟩ : ∃ p, (p = .pointer none ∨ p = .pointer (some ⟨b, 0, none⟩)) ∧ Lib.BuilderAtF 56 5 B b p (Lib.byteCells l) w := by
    rcases h with h | h
    · exact ⟨_, .inl rfl, h⟩
    · exact ⟨_, .inr rfl, h⟩
  obtain ⟨hB, v, hbk, hown, hne⟩ := hAt
  have hl0 : l.length ≠ 0 := by simpa using h0
  rw [Lib.byteCells_length] at hown
  obtain ⟨g, cap, cur, fz, rfl, hbg, hg, hfz, hnc, hcm, hcs, htake⟩ : ∃ g cap cur fz, v = .slice (some ⟨g, 0, none⟩) l.length cap ∧ B ≤ g ∧ w.heap[g]? = some (.cells cur 5 fz) ∧ fz.2 ≤ l.length * 1 ∧ l.length ≤ cap ∧ cap ≤ maxLen ∧ cur.size = cap * 1 ∧ cur.toList.take (l.length * 1) = Lib.byteCells l := by
    rcases hown.2 with ⟨_, hz⟩ | ⟨g, cap, cur, fz, hv, r⟩
    · exact absurd hz hl0
    · exact ⟨g, cap, cur, fz, hv, r⟩
  have c1 : w.drew.cell? ⟨b, 1, none⟩ = some (.slice (some ⟨g, 0, none⟩) l.length cap) := by
    have : w.drew.heap[b]? = some (.cells #[p, .slice (some ⟨g, 0, none⟩) l.length cap] 56 (0, 0)) := hbk
    rw [Lib.cell_of_heap this]; rfl
  have hSD : (Builtin.unsafeSliceData_ #[36] 96 #[.slice (some ⟨g, 0, none⟩) l.length cap]).run Try.prog w.drew = .ok (.pointer (some ⟨g, 0, none⟩)) w.drew :=
    Lib.run_unsafeSliceData_row _ _ _ _ _ _ (by omega)
  have hUS : (Builtin.unsafeString_ #[96, 3] 9 #[.pointer (some ⟨g, 0, none⟩), .int .i64 l.length]).run Try.prog w.drew = .ok (.string ⟨l.toArray⟩) (w.drew.freeze ⟨g, 0, none⟩ l.length) := by
    refine Lib.run_unsafeString_row w.drew 96 3 9 5 Try.underlying96 cellsU g cur.size (by have hg' : w.drew.heap[g]? = some (.cells cur 5 fz) := hg; simp [World.shape?, hg']) l h0 (by omega) (by unfold maxLen at hcm; omega) ?_
    intro j x hx
    have := hown.cells (g := g) rfl j (.int .u8 x.toNat) (by simp [Lib.byteCells, hx])
    exact this
  have hkeep : Hid (Wr B b l (w.drew.freeze ⟨g, 0, none⟩ l.length)) := by
    have hA : Lib.BuilderAtF 56 5 B b p (Lib.byteCells l) w.drew := ⟨hB, _, hbk, by rw [Lib.byteCells_length]; exact hown, hne⟩
    have hF := hA.froze (g := g) (cap := cap) (by rw [Lib.byteCells_length]; exact c1)
    rw [Lib.byteCells_length] at hF
    rcases hp with rfl | rfl
    · exact .inl hF
    · exact .inr hF
  have HKP : Hid (Kept b w (w.drew.freeze ⟨g, 0, none⟩ l.length)) := (Lib.OthersKept.refl _ _ w).drew.freeze ⟨g, 0, none⟩ _ ⟨cur, fz, hg⟩
  clear hbk hown hg hfz hnc hcm hcs htake hp
  go_enter Try.func33, Try.ntmps33
  go_wp2
  go_region
  all_goals (go_wp2; go_ret; exact ⟨rfl, hkeep.out, Lib.below_freeze (Below.drew (Below.refl B w)) (p := ⟨g, 0, none⟩) hbg _, HKP.out⟩)
end Go.Proofs.Ytepbdcnjhbaehaa.Wrt

namespace Go.Proofs.Ytepbdcnjhbaehaa.Wnum
open Go.ChangeShapes Go.WideShapes Go.ChangeAt Go.RowKit Wd Bin Wrt Lay Recs
set_option linter.unusedVariables false

theorem le_snoc : ∀ (k v : Nat), le (k + 1) v = le k v ++ [UInt8.ofNat (v / 256 ^ k)]
  | 0, v => by simp [le]
  | k + 1, v => by
    rw [le, le_snoc k (v / 256), le, List.cons_append, Nat.div_div_eq_div_mul, Nat.pow_succ, Nat.mul_comm]
theorem byte_at (v k : Nat) : (v : Int) / 2 ^ (8 * k) % 256 = ((UInt8.ofNat (v / 256 ^ k)).toNat : Int) := by
  have e : (256 : Nat) ^ k = 2 ^ (8 * k) := by rw [Nat.pow_mul]
  rw [byte_toNat, e]
  simp
theorem write_byte_eq (B b : Nat) (l : Bs) (x : Int) (c : UInt8) (w : World) (hx : x = (c.toNat : Int)) (h : Wr B b l w) (hlen : l.length + 1 ≤ 140737488355328) (hBw : B ≤ w.heap.size) :
    Calls Try.prog 52 #[.pointer (some ⟨b, 0, none⟩), .int .u8 x] w fun e w' => e = .returned .nilIface ∧ Wr B b (l ++ [c]) w' ∧ Below B w w' ∧ Kept b w w' := by
  subst hx; exact write_byte B b l c w h hlen hBw

/-- what a writing call leaves -/
def Wrote (B b : Nat) (l : Bs) (w : World) (e : Ending) (w' : World) : Prop := e = .returned (.tuple #[]) ∧ Wr B b l w' ∧ Below B w w' ∧ Kept b w w'

set_option maxRecDepth 100000 in
set_option maxHeartbeats 1000000 in
theorem number_any (B b : Nat) (l : Bs) (v n : Nat) (w : World) (h : Wr B b l w) (hn : n ≤ 4) (hv : v ≤ 9223372036854775807) (hlen : l.length + 4 ≤ 140737488355328) (hBw : B ≤ w.heap.size) :
    Calls Try.prog 26 #[.pointer (some ⟨b, 0, none⟩), .int .i64 v, .int .i64 n] w (Wrote B b (l ++ le n v) w) := by
  go_enter Try.func26, Try.ntmps26
  go_wp2
  have H0 := Lib.hid h
  clear h
  go_loopw [8] (fun i wr => ∃ k : Nat, k ≤ n ∧ i = .int .i64 k ∧ Hid (Wr B b (l ++ le k v) wr) ∧ Below B w wr ∧ Kept b w wr) (fun i _ => n - (intOf i).toNat)
  case atStart => exact ⟨0, Nat.zero_le _, rfl, by simpa [Hid, le] using H0.out, Below.refl _ _, Lib.OthersKept.refl _ _ _⟩
  case round =>
    obtain ⟨k, hk, rfl, HW, hbw, hkw⟩ := hrel
    have hz := hbw.size
    by_cases hlt : k < n
    · have hw8 : IntKind.i64.wrap (8 * (k : Int)) = 8 * (k : Int) := IntWalk.i64_in _ (by omega)
      have h8 : (0 : Int) ≤ 8 * (k : Int) := by omega
      have hkn : (k : Int) < (n : Int) := by omega
      have hl2 : (l ++ le k v).length + 1 ≤ 140737488355328 := by rw [List.length_append, le_length]; omega
      have HX := Lib.hid (byte_at v k)
      have HS := Lib.hid (le_snoc k v)
      go_wp2
      go_still_tail 8, (by kernel_rfl)
      change wpList _ _ _ _ _ wr.drew
      go_wp2_with fail
      refine (write_byte_eq B b (l ++ le k v) _ _ wr.drew HX.out (HW.out.drewN 1) hl2 (by show B ≤ wr.heap.size; omega)).mono ?_
      rintro e w1 ⟨rfl, hw1, hb1, hk1⟩
      have HW1 : Hid (Wr B b (l ++ le (k + 1) v) w1) := by rw [Hid, HS.out, ← List.append_assoc]; exact hw1
      clear hw1 hw8
      go_wp2_with fail
      go_roundw
      case rel => exact ⟨k + 1, by omega, by go_num, HW1, hbw.trans ((Below.refl B wr).drew.trans hb1), hkw.trans (Lib.OthersKept.trans (Lib.OthersKept.refl _ _ wr).drew hk1)⟩
      case measure => simp [intOf]; omega
    · go_wp2
      go_end0
      obtain rfl : k = n := by omega
      exact ⟨rfl, HW.out, hbw, hkw⟩
theorem number_eq (B b : Nat) (l : Bs) (x : Int) (v n : Nat) (w : World) (hx : x = (v : Int)) (h : Wr B b l w) (hn : n ≤ 4) (hv : v ≤ 9223372036854775807) (hlen : l.length + 4 ≤ 140737488355328) (hBw : B ≤ w.heap.size) :
    Calls Try.prog 26 #[.pointer (some ⟨b, 0, none⟩), .int .i64 x, .int .i64 n] w (Wrote B b (l ++ le n v) w) := by
  subst hx; exact number_any B b l v n w h hn hv hlen hBw

set_option maxRecDepth 100000 in
set_option maxHeartbeats 1000000 in
theorem name_any (B b : Nat) (l : Bs) (s : ByteArray) (w : World) (h : Wr B b l w) (hs : s.size ≤ 1000) (hlen : l.length + 1004 ≤ 140737488355328) (hBw : B ≤ w.heap.size) :
    Calls Try.prog 28 #[.pointer (some ⟨b, 0, none⟩), .string s] w (Wrote B b (l ++ nm (bs s)) w) := by
  have H1 := Lib.hid (number_any B b l s.size 1 w h (by omega) (by omega) (by omega) hBw)
  have HE : Hid (l ++ le 1 s.size ++ bs s = l ++ nm (bs s)) := by unfold nm; rw [Hid, bs_length, List.append_assoc]
  have hl1 : (l ++ le 1 s.size).length + s.size ≤ 140737488355328 := by rw [List.length_append, le_length]; omega
  clear h
  go_enter Try.func28, Try.ntmps28
  go_wp2_with fail
  refine H1.out.mono ?_
  rintro e w1 ⟨rfl, hw1, hb1, hk1⟩
  have HB1 := Lib.hid hb1
  have HK1 := Lib.hid hk1
  have hz1 : B ≤ w1.heap.size := Nat.le_trans hBw hb1.size
  clear H1 hb1 hk1
  go_wp2_with fail
  refine (write_string B b _ s w1 hw1 hl1 hz1).mono ?_
  rintro e w2 ⟨rfl, hw2, hb2, hk2⟩
  rw [HE.out] at hw2
  have HF : Hid (Wrote B b (l ++ nm (bs s)) w (.returned (.tuple #[])) w2) := ⟨rfl, hw2, HB1.out.trans hb2, HK1.out.trans hk2⟩
  clear hw2 hb2 hk2 hw1 HE
  go_wp2
  go_end0
  exact HF.out

theorem nm_len (s : Bs) : (nm s).length = s.length + 1 := by unfold nm; rw [List.length_append, le_length]; omega

set_option maxRecDepth 100000 in
set_option maxHeartbeats 2000000 in
theorem section_any (B b q : Nat) (l : Bs) (s : Sec) (w : World) (h : Wr B b l w) (hs : s.name.length ≤ 12) (hq : q ≤ 24) (hr : secErr q s = 0) (hlen : l.length + 2000 ≤ 140737488355328) (hBw : B ≤ w.heap.size) :
    Calls Try.prog 30 #[.pointer (some ⟨b, 0, none⟩), .agg #[.string (str s.name), .int .i64 s.len, .int .i64 s.lim, .int .i64 s.grade, .int .i64 s.st]] w (Wrote B b (l ++ encSec s) w) := by
  obtain ⟨r1, r2, r3, r4, r5, r6, r7, r8⟩ := LayT.sec_range hr
  obtain ⟨nm', ln, li, gr, st⟩ := s
  simp only at hs r1 r2 r3 r4 r5 r6 r7 r8 ⊢
  obtain ⟨W, hW⟩ : ∃ W, w.alloc (.cells #[.string (str nm'), .int .i64 ln, .int .i64 li, .int .i64 gr, .int .i64 st] 66) = W := ⟨_, rfl⟩
  have hbW : Below w.heap.size w W := by rw [← hW]; exact (Below.refl _ _).alloc (Nat.le_refl _) _
  have hkW : Kept b w W := by rw [← hW]; exact (Lib.OthersKept.refl _ _ w).alloc _
  have hWW : Wr B b l W := h.below hbW
  have hg : W.heap[w.heap.size]? = some (.cells #[.string (str nm'), .int .i64 ln, .int .i64 li, .int .i64 gr, .int .i64 st] 66 (0, 0)) := by rw [← hW]; exact heap_alloc_new _ _
  have hlt := h.lt
  have HC : Hid (∀ wx, Kept b W wx → wx.cell? ⟨w.heap.size, 0, none⟩ = some (.string (str nm')) ∧ wx.cell? ⟨w.heap.size, 1, none⟩ = some (.int .i64 ln) ∧ wx.cell? ⟨w.heap.size, 2, none⟩ = some (.int .i64 li) ∧ wx.cell? ⟨w.heap.size, 3, none⟩ = some (.int .i64 gr) ∧ wx.cell? ⟨w.heap.size, 4, none⟩ = some (.int .i64 st)) := fun wx hx => by
    have := hx.cells hg (by omega) (by decide)
    simp [World.cell?, this]
  have HE : Hid (l ++ nm nm' ++ le 2 ln.toNat ++ le 3 li.toNat ++ le 1 (gr + 40).toNat ++ le 1 (st + 1).toNat = l ++ encSec ⟨nm', ln, li, gr, st⟩) := by
    unfold encSec; simp [Hid, List.append_assoc]
  have hBW : B ≤ W.heap.size := Nat.le_trans hBw hbW.size
  have HB0 := Lib.hid (hbW.mono hBw)
  have HK0 := Lib.hid hkW
  have hz1 := nm_len nm'
  have HN := Lib.hid (name_any B b l (str nm') W hWW (by rw [size_str]; omega) (by omega) hBW)
  rw [bs_str] at HN
  have HI := Lib.hid (fun (l : Bs) (x : Int) (v n : Nat) (w : World) (hx : x = (v : Int)) (h : Wr B b l w) (hn : n ≤ 4) (hv : v ≤ 9223372036854775807) (hlen : l.length + 4 ≤ 140737488355328) (hBw : B ≤ w.heap.size) => number_eq B b l x v n w hx h hn hv hlen hBw)
  clear h hbW hkW hWW hg hr hlt
  go_enter Try.func30, Try.ntmps30
  go_upto_region 1 with fail
  try rw [hW]
  clear hW
  obtain ⟨c0, c1, c2, c3, c4⟩ := HC.out W (Lib.OthersKept.refl _ _ _)
  go_wp2_with fail
  refine HN.out.mono ?_
  rintro e w1 ⟨rfl, hw1, hb1, hk1⟩
  have h1z : B ≤ w1.heap.size := Nat.le_trans hBW hb1.size
  have HB1 := Lib.hid (HB0.out.trans hb1)
  have HK1 := Lib.hid hk1
  clear c0 c1 c2 c3 c4 hb1 hk1 HN
  obtain ⟨c0, c1, c2, c3, c4⟩ := HC.out w1 HK1.out
  have hy1 : (l ++ nm nm').length + 4 ≤ 140737488355328 := by rw [List.length_append]; omega
  go_wp2_with fail
  refine (HI.out _ _ ln.toNat 2 w1 (by omega) hw1 (by omega) (by omega) hy1 h1z).mono ?_
  rintro e w2 ⟨rfl, hw2, hb2, hk2⟩
  have h2z : B ≤ w2.heap.size := Nat.le_trans h1z hb2.size
  have HB2 := Lib.hid (HB1.out.trans hb2)
  have HK2 := Lib.hid (HK1.out.trans hk2)
  clear c0 c1 c2 c3 c4 hb2 hk2
  obtain ⟨c0, c1, c2, c3, c4⟩ := HC.out w2 HK2.out
  have hy2 : (l ++ nm nm' ++ le 2 ln.toNat).length + 4 ≤ 140737488355328 := by rw [List.length_append, List.length_append, le_length]; omega
  go_wp2_with fail
  refine (HI.out _ _ li.toNat 3 w2 (by omega) hw2 (by omega) (by omega) hy2 h2z).mono ?_
  rintro e w3 ⟨rfl, hw3, hb3, hk3⟩
  have h3z : B ≤ w3.heap.size := Nat.le_trans h2z hb3.size
  have HB3 := Lib.hid (HB2.out.trans hb3)
  have HK3 := Lib.hid (HK2.out.trans hk3)
  clear c0 c1 c2 c3 c4 hb3 hk3
  obtain ⟨c0, c1, c2, c3, c4⟩ := HC.out w3 HK3.out
  have hy3 : (l ++ nm nm' ++ le 2 ln.toNat ++ le 3 li.toNat).length + 4 ≤ 140737488355328 := by rw [List.length_append, List.length_append, List.length_append, le_length, le_length]; omega
  go_wp2_with fail
  refine (HI.out _ _ (gr + 40).toNat 1 w3 (by omega) hw3 (by omega) (by omega) hy3 h3z).mono ?_
  rintro e w4 ⟨rfl, hw4, hb4, hk4⟩
  have h4z : B ≤ w4.heap.size := Nat.le_trans h3z hb4.size
  have HB4 := Lib.hid (HB3.out.trans hb4)
  have HK4 := Lib.hid (HK3.out.trans hk4)
  clear c0 c1 c2 c3 c4 hb4 hk4
  obtain ⟨c0, c1, c2, c3, c4⟩ := HC.out w4 HK4.out
  have hy4 : (l ++ nm nm' ++ le 2 ln.toNat ++ le 3 li.toNat ++ le 1 (gr + 40).toNat).length + 4 ≤ 140737488355328 := by rw [List.length_append, List.length_append, List.length_append, List.length_append, le_length, le_length, le_length]; omega
  go_wp2_with fail
  refine (HI.out _ _ (st + 1).toNat 1 w4 (by omega) hw4 (by omega) (by omega) hy4 h4z).mono ?_
  rintro e w5 ⟨rfl, hw5, hb5, hk5⟩
  rw [HE.out] at hw5
  have HF : Hid (Wrote B b (l ++ encSec ⟨nm', ln, li, gr, st⟩) w (.returned (.tuple #[])) w5) := ⟨rfl, hw5, HB4.out.trans hb5, HK0.out.trans (HK4.out.trans hk5)⟩
  clear c0 c1 c2 c3 c4 hb5 hk5 hw5 HE HI
  go_wp2
  go_end0
  exact HF.out

set_option maxRecDepth 100000 in
set_option maxHeartbeats 2000000 in
theorem link_any (B b n p : Nat) (l : Bs) (k : Lnk) (w : World) (h : Wr B b l w) (hn : n ≤ 96) (hp : p ≤ 48) (hr : inr n p k = true) (hlen : l.length + 2000 ≤ 140737488355328) (hBw : B ≤ w.heap.size) :
    Calls Try.prog 32 #[.pointer (some ⟨b, 0, none⟩), .agg #[.int .i64 k.a, .int .i64 k.ae, .int .i64 k.b, .int .i64 k.be, .int .i64 k.pt, .int .i64 k.ps]] w (Wrote B b (l ++ encLnk k) w) := by
  obtain ⟨r1, r2, r3, r4, r5, r6, r7, r8, r9, r10, r11, r12, r13⟩ := LayT.inr_range hr
  obtain ⟨ka, kae, kb, kbe, kpt, kps⟩ := k
  simp only at r1 r2 r3 r4 r5 r6 r7 r8 r9 r10 r11 r12 r13 ⊢
  obtain ⟨W, hW⟩ : ∃ W, w.alloc (.cells #[.int .i64 ka, .int .i64 kae, .int .i64 kb, .int .i64 kbe, .int .i64 kpt, .int .i64 kps] 70) = W := ⟨_, rfl⟩
  have hbW : Below w.heap.size w W := by rw [← hW]; exact (Below.refl _ _).alloc (Nat.le_refl _) _
  have hkW : Kept b w W := by rw [← hW]; exact (Lib.OthersKept.refl _ _ w).alloc _
  have hWW : Wr B b l W := h.below hbW
  have hg : W.heap[w.heap.size]? = some (.cells #[.int .i64 ka, .int .i64 kae, .int .i64 kb, .int .i64 kbe, .int .i64 kpt, .int .i64 kps] 70 (0, 0)) := by rw [← hW]; exact heap_alloc_new _ _
  have hlt := h.lt
  have HC : Hid (∀ wx, Kept b W wx → wx.cell? ⟨w.heap.size, 0, none⟩ = some (.int .i64 ka) ∧ wx.cell? ⟨w.heap.size, 1, none⟩ = some (.int .i64 kae) ∧ wx.cell? ⟨w.heap.size, 2, none⟩ = some (.int .i64 kb) ∧ wx.cell? ⟨w.heap.size, 3, none⟩ = some (.int .i64 kbe) ∧ wx.cell? ⟨w.heap.size, 4, none⟩ = some (.int .i64 kpt) ∧ wx.cell? ⟨w.heap.size, 5, none⟩ = some (.int .i64 kps)) := fun wx hx => by
    have := hx.cells hg (by omega) (by decide)
    simp [World.cell?, this]
  have HE : Hid (l ++ le 1 (ka * 2 + kae).toNat ++ le 1 (kb * 2 + kbe).toNat ++ le 1 (kpt + 1).toNat ++ le 1 kps.toNat = l ++ encLnk ⟨ka, kae, kb, kbe, kpt, kps⟩) := by
    unfold encLnk; simp [Hid, List.append_assoc]
  have hBW : B ≤ W.heap.size := Nat.le_trans hBw hbW.size
  have HB0 := Lib.hid (hbW.mono hBw)
  have HK0 := Lib.hid hkW
  have HI := Lib.hid (fun (l : Bs) (x : Int) (v n : Nat) (w : World) (hx : x = (v : Int)) (h : Wr B b l w) (hn : n ≤ 4) (hv : v ≤ 9223372036854775807) (hlen : l.length + 4 ≤ 140737488355328) (hBw : B ≤ w.heap.size) => number_eq B b l x v n w hx h hn hv hlen hBw)
  have hyW : l.length + 4 ≤ 140737488355328 := by omega
  clear h hbW hkW hg hr hlt
  go_enter Try.func32, Try.ntmps32
  go_upto_region 1 with fail
  try rw [hW]
  clear hW
  obtain ⟨c0, c1, c2, c3, c4, c5⟩ := HC.out W (Lib.OthersKept.refl _ _ _)
  go_wp2_with fail
  refine (HI.out _ _ (ka * 2 + kae).toNat 1 W (by omega) hWW (by omega) (by omega) hyW hBW).mono ?_
  rintro e w1 ⟨rfl, hw1, hb1, hk1⟩
  have h1z : B ≤ w1.heap.size := Nat.le_trans hBW hb1.size
  have HB1 := Lib.hid (HB0.out.trans hb1)
  have HK1 := Lib.hid hk1
  clear c0 c1 c2 c3 c4 c5 hb1 hk1
  obtain ⟨c0, c1, c2, c3, c4, c5⟩ := HC.out w1 HK1.out
  have hy1 : (l ++ le 1 (ka * 2 + kae).toNat).length + 4 ≤ 140737488355328 := by rw [List.length_append, le_length]; omega
  go_wp2_with fail
  refine (HI.out _ _ (kb * 2 + kbe).toNat 1 w1 (by omega) hw1 (by omega) (by omega) hy1 h1z).mono ?_
  rintro e w2 ⟨rfl, hw2, hb2, hk2⟩
  have h2z : B ≤ w2.heap.size := Nat.le_trans h1z hb2.size
  have HB2 := Lib.hid (HB1.out.trans hb2)
  have HK2 := Lib.hid (HK1.out.trans hk2)
  clear c0 c1 c2 c3 c4 c5 hb2 hk2
  obtain ⟨c0, c1, c2, c3, c4, c5⟩ := HC.out w2 HK2.out
  have hy2 : (l ++ le 1 (ka * 2 + kae).toNat ++ le 1 (kb * 2 + kbe).toNat).length + 4 ≤ 140737488355328 := by rw [List.length_append, List.length_append, le_length, le_length]; omega
  go_wp2_with fail
  refine (HI.out _ _ (kpt + 1).toNat 1 w2 (by omega) hw2 (by omega) (by omega) hy2 h2z).mono ?_
  rintro e w3 ⟨rfl, hw3, hb3, hk3⟩
  have h3z : B ≤ w3.heap.size := Nat.le_trans h2z hb3.size
  have HB3 := Lib.hid (HB2.out.trans hb3)
  have HK3 := Lib.hid (HK2.out.trans hk3)
  clear c0 c1 c2 c3 c4 c5 hb3 hk3
  obtain ⟨c0, c1, c2, c3, c4, c5⟩ := HC.out w3 HK3.out
  have hy3 : (l ++ le 1 (ka * 2 + kae).toNat ++ le 1 (kb * 2 + kbe).toNat ++ le 1 (kpt + 1).toNat).length + 4 ≤ 140737488355328 := by rw [List.length_append, List.length_append, List.length_append, le_length, le_length, le_length]; omega
  go_wp2_with fail
  refine (HI.out _ _ kps.toNat 1 w3 (by omega) hw3 (by omega) (by omega) hy3 h3z).mono ?_
  rintro e w4 ⟨rfl, hw4, hb4, hk4⟩
  rw [HE.out] at hw4
  have HF : Hid (Wrote B b (l ++ encLnk ⟨ka, kae, kb, kbe, kpt, kps⟩) w (.returned (.tuple #[])) w4) := ⟨rfl, hw4, HB3.out.trans hb4, HK0.out.trans (HK3.out.trans hk4)⟩
  clear c0 c1 c2 c3 c4 c5 hb4 hk4 hw4 HE HI
  go_wp2
  go_end0
  exact HF.out
end Go.Proofs.Ytepbdcnjhbaehaa.Wnum

namespace Go.Proofs.Ytepbdcnjhbaehaa.Weach
open Go.ChangeShapes Go.WideShapes Go.ChangeAt Go.RowKit Wd Bin Wrt Lay Recs Wnum
set_option linter.unusedVariables false

theorem take_flat {α : Type} (e : α → Bs) {L : List α} {k : Nat} {a : α} (h : L[k]? = some a) : (L.take (k + 1)).flatMap e = (L.take k).flatMap e ++ e a := by
  rw [List.take_add_one, h]; simp
theorem flat_le {α : Type} (e : α → Bs) (m : Nat) : ∀ (L : List α) (k : Nat), (∀ a ∈ L, (e a).length ≤ m) → ((L.take k).flatMap e).length ≤ m * k
  | [], k, _ => by simp
  | a :: L, 0, _ => by simp
  | a :: L, k + 1, h => by
    have h1 := flat_le e m L k (fun x hx => h x (List.mem_cons_of_mem _ hx))
    have h2 := h a List.mem_cons_self
    rw [List.take_succ_cons, List.flatMap_cons, List.length_append, Nat.mul_succ]
    omega

set_option maxRecDepth 100000 in
set_option maxHeartbeats 1000000 in
theorem each_name (B b : Nat) (l : Bs) (A : Option Addr) (n c : Nat) (L : List Bs) (w : World) (hL : Rd sR w B A n L) (hs : ∀ s ∈ L, s.length ≤ 12) (hn : n ≤ 200) (h : Wr B b l w) (hlen : l.length + 10000 ≤ 140737488355328) (hBw : B ≤ w.heap.size) :
    Calls Try.prog 27 #[.slice A n c, .func (.func 28) #[.pointer (some ⟨b, 0, none⟩)] #[]] w (Wrote B b (l ++ L.flatMap nm) w) := by
  have hnm : ∀ a ∈ L, (nm a).length ≤ 13 := fun a ha => by rw [nm_len]; have := hs a ha; omega
  have H0 := Lib.hid h
  have HL := Lib.hid hL
  have HNM := Lib.hid hnm
  have HS := Lib.hid hs
  clear h hL hnm hs
  go_enter Try.func27, Try.ntmps27
  go_wp2
  go_loopw [8] (fun i wr => ∃ k : Nat, k ≤ n ∧ i = .int .i64 k ∧ Hid (Wr B b (l ++ (L.take k).flatMap nm) wr) ∧ Below B w wr ∧ Kept b w wr) (fun i _ => n - (intOf i).toNat)
  case atStart => exact ⟨0, Nat.zero_le _, rfl, by simpa [Hid] using H0.out, Below.refl _ _, Lib.OthersKept.refl _ _ _⟩
  case round =>
    obtain ⟨k, hk, rfl, HW, hbw, hkw⟩ := hrel
    have hz := hbw.size
    by_cases hlt : k < n
    · obtain ⟨ad, s, rfl, hab, hsk, d0⟩ := loadS (HL.out.below hbw) hlt
      have hkn : (k : Int) < (n : Int) := by omega
      have hfl := flat_le nm 13 L k HNM.out
      have hl2 : (l ++ (L.take k).flatMap nm).length + 1004 ≤ 140737488355328 := by rw [List.length_append]; omega
      have HT := Lib.hid (take_flat nm hsk)
      have hsl := HS.out s (List.mem_of_getElem? hsk)
      have HN := Lib.hid (name_any B b (l ++ (L.take k).flatMap nm) (str s) wr HW.out (by rw [size_str]; omega) hl2 (by omega))
      rw [bs_str] at HN
      clear hsk hfl hl2 hsl
      go_wp2_with fail
      refine HN.out.mono ?_
      rintro e w1 ⟨rfl, hw1, hb1, hk1⟩
      have HW1 : Hid (Wr B b (l ++ (L.take (k + 1)).flatMap nm) w1) := by rw [Hid, HT.out, ← List.append_assoc]; exact hw1
      clear hw1 HN
      go_wp2_with fail
      go_roundw
      case rel => exact ⟨k + 1, by omega, by go_num, HW1, hbw.trans hb1, hkw.trans hk1⟩
      case measure => simp [intOf]; omega
    · obtain rfl : k = n := by omega
      have hx : Hid (L.take k = L) := List.take_of_length_le (by have := HL.out.1; omega)
      have HF : Hid (Wr B b (l ++ L.flatMap nm) wr) := by have := HW.out; rw [hx.out] at this; exact this
      go_wp2
      go_end0
      exact ⟨rfl, HF.out, hbw, hkw⟩

theorem sec_len (s : Sec) : (encSec s).length = s.name.length + 8 := by
  unfold encSec; simp only [List.length_append, le_length, nm_len]
theorem lnk_len (k : Lnk) : (encLnk k).length = 4 := by
  unfold encLnk; simp only [List.length_append, le_length]

set_option maxRecDepth 100000 in
set_option maxHeartbeats 2000000 in
theorem each_sec (B b q : Nat) (l : Bs) (A : Option Addr) (n c : Nat) (L : List Sec) (w : World) (hL : Rd secR w B A n L) (hs : ∀ s ∈ L, s.name.length ≤ 12 ∧ secErr q s = 0) (hq : q ≤ 24) (hn : n ≤ 200) (h : Wr B b l w) (hlen : l.length + 10000 ≤ 140737488355328) (hBw : B ≤ w.heap.size) :
    Calls Try.prog 29 #[.slice A n c, .func (.func 30) #[.pointer (some ⟨b, 0, none⟩)] #[]] w (Wrote B b (l ++ L.flatMap encSec) w) := by
  have hnm : ∀ a ∈ L, (encSec a).length ≤ 20 := fun a ha => by rw [sec_len]; have := (hs a ha).1; omega
  have H0 := Lib.hid h
  have HL := Lib.hid hL
  have HNM := Lib.hid hnm
  have HS := Lib.hid hs
  clear h hL hnm hs
  go_enter Try.func29, Try.ntmps29
  go_wp2
  go_loopw [8] (fun i wr => ∃ k : Nat, k ≤ n ∧ i = .int .i64 k ∧ Hid (Wr B b (l ++ (L.take k).flatMap encSec) wr) ∧ Below B w wr ∧ Kept b w wr) (fun i _ => n - (intOf i).toNat)
  case atStart => exact ⟨0, Nat.zero_le _, rfl, by simpa [Hid] using H0.out, Below.refl _ _, Lib.OthersKept.refl _ _ _⟩
  case round =>
    obtain ⟨k, hk, rfl, HW, hbw, hkw⟩ := hrel
    have hz := hbw.size
    by_cases hlt : k < n
    · obtain ⟨ad, s, rfl, hab, hsk, d0, d1, d2, d3, d4⟩ := loadSec (HL.out.below hbw) hlt
      have hkn : (k : Int) < (n : Int) := by omega
      have hfl := flat_le encSec 20 L k HNM.out
      have hl2 : (l ++ (L.take k).flatMap encSec).length + 2000 ≤ 140737488355328 := by rw [List.length_append]; omega
      have HT := Lib.hid (take_flat encSec hsk)
      have hsl := HS.out s (List.mem_of_getElem? hsk)
      obtain ⟨nm', ln, li, gr, st⟩ := s
      simp only at d0 d1 d2 d3 d4
      obtain ⟨W, hW⟩ : ∃ W, wr.alloc (.cells #[.string (str nm'), .int .i64 ln, .int .i64 li, .int .i64 gr, .int .i64 st] 66) = W := ⟨_, rfl⟩
      have hbW : Below wr.heap.size wr W := by rw [← hW]; exact (Below.refl _ _).alloc (Nat.le_refl _) _
      have hkW : Kept b wr W := by rw [← hW]; exact (Lib.OthersKept.refl _ _ wr).alloc _
      have hg : W.heap[wr.heap.size]? = some (.cells #[.string (str nm'), .int .i64 ln, .int .i64 li, .int .i64 gr, .int .i64 st] 66 (0, 0)) := by rw [← hW]; exact heap_alloc_new _ _
      have HN := Lib.hid (section_any B b q (l ++ (L.take k).flatMap encSec) ⟨nm', ln, li, gr, st⟩ W (HW.out.below hbW) hsl.1 hq hsl.2 hl2 (by have := hbW.size; omega))
      have HC : Hid (W.cell? ⟨wr.heap.size, 0, none⟩ = some (.string (str nm')) ∧ W.cell? ⟨wr.heap.size, 1, none⟩ = some (.int .i64 ln) ∧ W.cell? ⟨wr.heap.size, 2, none⟩ = some (.int .i64 li) ∧ W.cell? ⟨wr.heap.size, 3, none⟩ = some (.int .i64 gr) ∧ W.cell? ⟨wr.heap.size, 4, none⟩ = some (.int .i64 st)) := by
        simp [Hid, World.cell?, hg]
      have HB1 := Lib.hid (hbw.trans (hbW.mono (show B ≤ wr.heap.size by omega)))
      have HK1 := Lib.hid (hkw.trans hkW)
      clear hsk hfl hl2 hsl hbW hkW hg
      simp only at HN
      go_upto_region 3 with fail
      clear hW d0 d1 d2 d3 d4
      obtain ⟨d0, d1, d2, d3, d4⟩ := HC.out
      go_wp2_with fail
      refine HN.out.mono ?_
      rintro e w1 ⟨rfl, hw1, hb1, hk1⟩
      have HW1 : Hid (Wr B b (l ++ (L.take (k + 1)).flatMap encSec) w1) := by rw [Hid, HT.out, ← List.append_assoc]; exact hw1
      clear hw1 HN d0 d1 d2 d3 d4
      go_wp2_with fail
      go_roundw
      case rel => exact ⟨k + 1, by omega, by go_num, HW1, HB1.out.trans hb1, HK1.out.trans hk1⟩
      case measure => simp [intOf]; omega
    · obtain rfl : k = n := by omega
      have hx : Hid (L.take k = L) := List.take_of_length_le (by have := HL.out.1; omega)
      have HF : Hid (Wr B b (l ++ L.flatMap encSec) wr) := by have := HW.out; rw [hx.out] at this; exact this
      go_wp2
      go_end0
      exact ⟨rfl, HF.out, hbw, hkw⟩
set_option maxRecDepth 100000 in
set_option maxHeartbeats 2000000 in
theorem each_lnk (B b na np : Nat) (l : Bs) (A : Option Addr) (n c : Nat) (L : List Lnk) (w : World) (hL : Rd lnkR w B A n L) (hs : ∀ s ∈ L, inr na np s = true) (hna : na ≤ 96) (hnp : np ≤ 48) (hn : n ≤ 200) (h : Wr B b l w) (hlen : l.length + 10000 ≤ 140737488355328) (hBw : B ≤ w.heap.size) :
    Calls Try.prog 31 #[.slice A n c, .func (.func 32) #[.pointer (some ⟨b, 0, none⟩)] #[]] w (Wrote B b (l ++ L.flatMap encLnk) w) := by
  have hnm : ∀ a ∈ L, (encLnk a).length ≤ 20 := fun a ha => by rw [lnk_len]; omega
  have H0 := Lib.hid h
  have HL := Lib.hid hL
  have HNM := Lib.hid hnm
  have HS := Lib.hid hs
  clear h hL hnm hs
  go_enter Try.func31, Try.ntmps31
  go_wp2
  go_loopw [8] (fun i wr => ∃ k : Nat, k ≤ n ∧ i = .int .i64 k ∧ Hid (Wr B b (l ++ (L.take k).flatMap encLnk) wr) ∧ Below B w wr ∧ Kept b w wr) (fun i _ => n - (intOf i).toNat)
  case atStart => exact ⟨0, Nat.zero_le _, rfl, by simpa [Hid] using H0.out, Below.refl _ _, Lib.OthersKept.refl _ _ _⟩
  case round =>
    obtain ⟨k, hk, rfl, HW, hbw, hkw⟩ := hrel
    have hz := hbw.size
    by_cases hlt : k < n
    · obtain ⟨ad, s, rfl, hab, hsk, d0, d1, d2, d3, d4, d5⟩ := loadLnk (HL.out.below hbw) hlt
      have hkn : (k : Int) < (n : Int) := by omega
      have hfl := flat_le encLnk 20 L k HNM.out
      have hl2 : (l ++ (L.take k).flatMap encLnk).length + 2000 ≤ 140737488355328 := by rw [List.length_append]; omega
      have HT := Lib.hid (take_flat encLnk hsk)
      have hsl := HS.out s (List.mem_of_getElem? hsk)
      obtain ⟨ka, kae, kb, kbe, kpt, kps⟩ := s
      simp only at d0 d1 d2 d3 d4 d5
      obtain ⟨W, hW⟩ : ∃ W, wr.alloc (.cells #[.int .i64 ka, .int .i64 kae, .int .i64 kb, .int .i64 kbe, .int .i64 kpt, .int .i64 kps] 70) = W := ⟨_, rfl⟩
      have hbW : Below wr.heap.size wr W := by rw [← hW]; exact (Below.refl _ _).alloc (Nat.le_refl _) _
      have hkW : Kept b wr W := by rw [← hW]; exact (Lib.OthersKept.refl _ _ wr).alloc _
      have hg : W.heap[wr.heap.size]? = some (.cells #[.int .i64 ka, .int .i64 kae, .int .i64 kb, .int .i64 kbe, .int .i64 kpt, .int .i64 kps] 70 (0, 0)) := by rw [← hW]; exact heap_alloc_new _ _
      have HN := Lib.hid (link_any B b na np (l ++ (L.take k).flatMap encLnk) ⟨ka, kae, kb, kbe, kpt, kps⟩ W (HW.out.below hbW) hna hnp hsl hl2 (by have := hbW.size; omega))
      have HC : Hid (W.cell? ⟨wr.heap.size, 0, none⟩ = some (.int .i64 ka) ∧ W.cell? ⟨wr.heap.size, 1, none⟩ = some (.int .i64 kae) ∧ W.cell? ⟨wr.heap.size, 2, none⟩ = some (.int .i64 kb) ∧ W.cell? ⟨wr.heap.size, 3, none⟩ = some (.int .i64 kbe) ∧ W.cell? ⟨wr.heap.size, 4, none⟩ = some (.int .i64 kpt) ∧ W.cell? ⟨wr.heap.size, 5, none⟩ = some (.int .i64 kps)) := by
        simp [Hid, World.cell?, hg]
      have HB1 := Lib.hid (hbw.trans (hbW.mono (show B ≤ wr.heap.size by omega)))
      have HK1 := Lib.hid (hkw.trans hkW)
      clear hsk hfl hl2 hsl hbW hkW hg
      simp only at HN
      go_upto_region 3 with fail
      clear hW d0 d1 d2 d3 d4 d5
      obtain ⟨d0, d1, d2, d3, d4, d5⟩ := HC.out
      go_wp2_with fail
      refine HN.out.mono ?_
      rintro e w1 ⟨rfl, hw1, hb1, hk1⟩
      have HW1 : Hid (Wr B b (l ++ (L.take (k + 1)).flatMap encLnk) w1) := by rw [Hid, HT.out, ← List.append_assoc]; exact hw1
      clear hw1 HN d0 d1 d2 d3 d4 d5
      go_wp2_with fail
      go_roundw
      case rel => exact ⟨k + 1, by omega, by go_num, HW1, HB1.out.trans hb1, HK1.out.trans hk1⟩
      case measure => simp [intOf]; omega
    · obtain rfl : k = n := by omega
      have hx : Hid (L.take k = L) := List.take_of_length_le (by have := HL.out.1; omega)
      have HF : Hid (Wr B b (l ++ L.flatMap encLnk) wr) := by have := HW.out; rw [hx.out] at this; exact this
      go_wp2
      go_end0
      exact ⟨rfl, HF.out, hbw, hkw⟩
end Go.Proofs.Ytepbdcnjhbaehaa.Weach

namespace Go.Proofs.Ytepbdcnjhbaehaa.Enc
open Go.ChangeShapes Go.WideShapes Go.ChangeAt Go.RowKit Wd Bin Wrt Lay LayT Recs Wnum Weach Crc CrcP PNames PSecs PCheck
set_option linter.unusedVariables false

/-- what Encode answers -/
def encT (l : Lay) : Bs := if check l = 0 then enc l else []
def encE (l : Lay) : Int := if check l = 0 then 0 else 1
def EncPost (l : Lay) (w : World) (e : Ending) (w' : World) : Prop := e = .returned (.tuple #[.string (str (encT l)), .int .i64 (encE l)]) ∧ Below w.heap.size w w'
theorem flat_all {α : Type} (e : α → Bs) (m : Nat) (L : List α) (h : ∀ a ∈ L, (e a).length ≤ m) : (L.flatMap e).length ≤ m * L.length := by
  have := flat_le e m L L.length h
  rwa [List.take_length] at this
theorem name_le {s : Bs} (h : isName s = true) : s.length ≤ 12 := by
  cases s with
  | nil => simp
  | cons b r =>
    unfold isName at h
    simp only [Bool.and_eq_true, decide_eq_true_eq] at h
    simp only [List.length_cons]
    omega

/-- the cell of one of four numbers -/
theorem four_cell {w : World} {g : Nat} {a b c d : Nat} {t : TypeId} (h : w.heap[g]? = some (.cells #[.int .i64 a, .int .i64 b, .int .i64 c, .int .i64 d] t (0, 0))) {k : Nat} (hk : k < 4) :
    ∃ m : Nat, [a, b, c, d][k]? = some m ∧ w.cell? ⟨g, k, none⟩ = some (.int .i64 m) ∧ w.cell? ((⟨g, 0, none⟩ : Addr).add k) = some (.int .i64 m) := by
  match k, hk with
  | 0, _ => exact ⟨a, rfl, by simp [World.cell?, h], by simp [World.cell?, h, Addr.add]⟩
  | 1, _ => exact ⟨b, rfl, by simp [World.cell?, h], by simp [World.cell?, h, Addr.add]⟩
  | 2, _ => exact ⟨c, rfl, by simp [World.cell?, h], by simp [World.cell?, h, Addr.add]⟩
  | 3, _ => exact ⟨d, rfl, by simp [World.cell?, h], by simp [World.cell?, h, Addr.add]⟩

set_option maxRecDepth 100000 in
set_option maxHeartbeats 4000000 in
theorem p_encode (v : LV) (l : Lay) (w : World) (hR : RdL w w.heap.size v l) : Calls Try.prog 12 #[v.val] w (EncPost l w) := by
  have hmf : ∀ (fn : Fn) (first cap : Array Value) (w : World), (Instr.makeFunc fn first cap).run Try.prog w = .ok (.func fn first cap) w := fun _ _ _ _ => rfl
  have HMF := Lib.hid hmf
  clear hmf
  obtain ⟨W, hW⟩ : ∃ W, w.alloc (.cells #[.slice v.A1 v.n1 v.c1, .slice v.A2 v.n2 v.c2, .slice v.A3 v.n3 v.c3, .slice v.A4 v.n4 v.c4] 29) = W := ⟨_, rfl⟩
  have hbW : Below w.heap.size w W := by rw [← hW]; exact (Below.refl _ _).alloc (Nat.le_refl _) _
  have hzW : W.heap.size = w.heap.size + 1 := by rw [← hW]; simp
  have hg : W.heap[w.heap.size]? = some (.cells #[.slice v.A1 v.n1 v.c1, .slice v.A2 v.n2 v.c2, .slice v.A3 v.n3 v.c3, .slice v.A4 v.n4 v.c4] 29 (0, 0)) := by rw [← hW]; exact heap_alloc_new _ _
  have HRW := Lib.hid (hR.grow hbW hbW.size)
  have HC : Hid (∀ wx, Below W.heap.size W wx → wx.cell? ⟨w.heap.size, 0, none⟩ = some (.slice v.A1 v.n1 v.c1) ∧ wx.cell? ⟨w.heap.size, 1, none⟩ = some (.slice v.A2 v.n2 v.c2) ∧ wx.cell? ⟨w.heap.size, 2, none⟩ = some (.slice v.A3 v.n3 v.c3) ∧ wx.cell? ⟨w.heap.size, 3, none⟩ = some (.slice v.A4 v.n4 v.c4)) := fun wx hx => by
    have := (hx.block w.heap.size (by omega)).trans hg
    simp [World.cell?, this]
  have HCK := Lib.hid (p_check v l W HRW.out)
  have HB0 := Lib.hid hbW
  have HZ := Lib.hid hzW
  clear hR hbW hzW hg
  obtain ⟨A1, n1, c1, A2, n2, c2, A3, n3, c3, A4, n4, c4⟩ := v
  simp only [LV.val] at *
  go_enter Try.func12, Try.ntmps12
  go_upto_region 1 with fail
  try rw [hW]
  clear hW
  obtain ⟨k0, k1, k2, k3⟩ := HC.out W (Below.refl _ _)
  go_wp2_with fail
  refine HCK.out.mono ?_
  rintro e w1 ⟨rfl, hb1⟩
  have HB1 := Lib.hid (HB0.out.trans (hb1.mono HB0.out.size))
  have HBW1 := Lib.hid hb1
  have HR1 := Lib.hid (HRW.out.grow hb1 hb1.size)
  have hz1 := hb1.size
  clear k0 k1 k2 k3 hb1 HRW HCK HB0
  by_cases hv : check l = 0
  · have hv0 := hv
    have HT : Hid (encT l = enc l) := by rw [Hid, encT, if_pos hv]
    have HE : Hid (encE l = 0) := by rw [Hid, encE, if_pos hv]
    have hval := valid_of hv
    obtain ⟨z1, z2, z3, z4⟩ := sizes_of hv
    have q1 := HR1.out.st.1
    have q2 := HR1.out.pt.1
    have q3 := HR1.out.sec.1
    have q4 := HR1.out.lnk.1
    simp only at q1 q2 q3 q4
    have f1 := flat_all nm 13 l.stations (fun a ha => by rw [nm_len]; have := name_le (hval.st a ha); omega)
    have f2 := flat_all nm 13 l.points (fun a ha => by rw [nm_len]; have := name_le (hval.pt a ha); omega)
    have f3 := flat_all encSec 20 l.sections (fun a ha => by rw [sec_len]; have := name_le (hval.sec a ha).1; omega)
    have f4 := flat_all encLnk 4 l.links (fun a ha => by rw [lnk_len]; omega)
    have hcs : (counts l).length = 4 := by unfold counts; simp only [List.length_append, le_length]
    have HV := Lib.hid hval
    -- the writer
    obtain ⟨W2, hW2⟩ : ∃ W2, w1.alloc (.cells #[.pointer none, .slice none 0 0] 56) = W2 := ⟨_, rfl⟩
    have hb2 : Below w1.heap.size w1 W2 := by rw [← hW2]; exact (Below.refl _ _).alloc (Nat.le_refl _) _
    have HWR : Hid (Wr w1.heap.size w1.heap.size [] W2) := by rw [Hid, ← hW2]; exact Wr.fresh w1
    have HB2 := Lib.hid hb2
    -- what every later world keeps
    have HC2 : Hid (∀ wx, Below w1.heap.size W2 wx → wx.cell? ⟨w.heap.size, 0, none⟩ = some (.slice A1 n1 c1) ∧ wx.cell? ⟨w.heap.size, 1, none⟩ = some (.slice A2 n2 c2) ∧ wx.cell? ⟨w.heap.size, 2, none⟩ = some (.slice A3 n3 c3) ∧ wx.cell? ⟨w.heap.size, 3, none⟩ = some (.slice A4 n4 c4)) := fun wx hx =>
      HC.out wx (HBW1.out.trans ((HB2.out.trans hx).mono hz1))
    have HR2 : Hid (∀ wx, Below w1.heap.size W2 wx → RdL wx w1.heap.size ⟨A1, n1, c1, A2, n2, c2, A3, n3, c3, A4, n4, c4⟩ l) := fun wx hx => HR1.out.below (HB2.out.trans hx)
    have HW2 : Hid (∀ wx, Below w1.heap.size W2 wx → Below w.heap.size w wx) := fun wx hx => HB1.out.trans ((HB2.out.trans hx).mono HB1.out.size)
    have hz2 := hb2.size
    have hsig := write_string w1.heap.size w1.heap.size [] ⟨#[82, 80, 76, 49]⟩ W2 HWR.out (by decide) hz2
    have HSG := Lib.hid hsig
    clear hv hb2 hval hsig hz1 HC HR1 HB1 HBW1 HB2
    have ht : (check l == 0) = true := by simpa using hv0
    have htn : (check l != 0) = false := by simpa using hv0
    clear hv0
    go_upto_region 4 with fail
    try rw [hW2]
    clear hW2 ht htn
    go_wp2_with fail
    refine HSG.out.mono ?_
    rintro e w3 ⟨rfl, hw3, hb3, hk3⟩
    have HW3 : Hid (Wr w1.heap.size w1.heap.size sig w3) := hw3
    have HB3 := Lib.hid hb3
    have hz3 := Nat.le_trans hz2 hb3.size
    have hlt3 := hw3.lt
    clear hw3 hb3 hk3 HSG HWR
    -- the four numbers
    obtain ⟨k0, k1, k2, k3⟩ := HC2.out w3 HB3.out
    obtain ⟨W4, hW4⟩ : ∃ W4, w3.alloc (.cells #[.int .i64 n1, .int .i64 n2, .int .i64 n3, .int .i64 n4] 3) = W4 := ⟨_, rfl⟩
    have hb4 : Below w3.heap.size w3 W4 := by rw [← hW4]; exact (Below.refl _ _).alloc (Nat.le_refl _) _
    have hg4 : W4.heap[w3.heap.size]? = some (.cells #[.int .i64 n1, .int .i64 n2, .int .i64 n3, .int .i64 n4] 3 (0, 0)) := by rw [← hW4]; exact heap_alloc_new _ _
    have HW4 := Lib.hid (HW3.out.below hb4)
    have HB4 := Lib.hid (HB3.out.trans (hb4.mono hz3))
    have HG4 := Lib.hid hg4
    have hz4 := Nat.le_trans hz3 hb4.size
    clear hb4 hg4
    go_upto_region 6 with fail
    clear hW4 k0 k1 k2 k3
    have HT0 : Hid (sig ++ ([n1, n2, n3, n4].take 0).flatMap (le 1) = sig) := by simp [Hid]
    have HT4 : Hid (sig ++ ([n1, n2, n3, n4].take 4).flatMap (le 1) = sig ++ counts l) := by
      unfold counts; rw [Hid, q1, q2, q3, q4]; simp
    go_loopw [26] (fun i wr => ∃ k : Nat, k ≤ 4 ∧ i = .int .i64 k ∧ Hid (Wr w1.heap.size w1.heap.size (sig ++ ([n1, n2, n3, n4].take k).flatMap (le 1)) wr) ∧ Below w1.heap.size W2 wr ∧ Kept w1.heap.size W4 wr) (fun i _ => 4 - (intOf i).toNat)
    case atStart => exact ⟨0, Nat.zero_le _, rfl, by rw [Hid, HT0.out]; exact HW4.out, HB4.out, Lib.OthersKept.refl _ _ _⟩
    case round =>
      obtain ⟨k, hk, rfl, HW, hbw, hkw⟩ := hrel
      have hz := hbw.size
      by_cases hlt : k < 4
      · obtain ⟨m, hm, e1, e2⟩ := four_cell (hkw.cells HG4.out (by omega) (by decide)) hlt
        have hmm : m ≤ 192 := by
          have := List.mem_of_getElem? hm
          simp only [List.mem_cons, List.not_mem_nil, or_false] at this
          omega
        have HTK := Lib.hid (take_flat (le 1) hm)
        have hl1 : (sig ++ ([n1, n2, n3, n4].take k).flatMap (le 1)).length + 4 ≤ 140737488355328 := by
          have := flat_le (le 1) 1 [n1, n2, n3, n4] k (fun a _ => by rw [le_length]; omega)
          rw [List.length_append]
          have : sig.length = 4 := rfl
          omega
        have HN := Lib.hid (number_any w1.heap.size w1.heap.size _ m 1 wr HW.out (by omega) (by omega) hl1 (by omega))
        have hk4 : (k : Int) < 4 := by omega
        clear hm hl1
        go_wp2_with fail
        refine HN.out.mono ?_
        rintro e w5 ⟨rfl, hw5, hb5, hk5⟩
        have HW1 : Hid (Wr w1.heap.size w1.heap.size (sig ++ ([n1, n2, n3, n4].take (k + 1)).flatMap (le 1)) w5) := by rw [Hid, HTK.out, ← List.append_assoc]; exact hw5
        clear hw5 HN e1 e2
        go_wp2_with fail
        go_roundw
        case rel => exact ⟨k + 1, by omega, by go_num, HW1, hbw.trans hb5, hkw.trans hk5⟩
        case measure => simp [intOf]; omega
      · have hk4 : ¬ (k : Int) < 4 := by omega
        have HX : Hid (Wr w1.heap.size w1.heap.size (sig ++ counts l) wr) := by
          have : k = 4 := by omega
          have h := HW.out
          rw [this, HT4.out] at h
          exact h
        have HBW := Lib.hid hbw
        clear HW HT0 HT4 hkw hbw HW4 HB4 HG4 HW3 HB3
        have hmf := HMF.out
        obtain ⟨k0, k1, k2, k3⟩ := HC2.out wr HBW.out
        have hsl : sig.length = 4 := rfl
        have hy0 : (sig ++ counts l).length + 10000 ≤ 140737488355328 := by rw [List.length_append, hcs]; omega
        go_wp2_with fail
        refine (each_name w1.heap.size w1.heap.size _ A1 n1 c1 l.stations wr (HR2.out wr HBW.out).st (fun a ha => name_le (HV.out.st a ha)) (by omega) HX.out hy0 (by have := HBW.out.size; omega)).mono ?_
        rintro e x1 ⟨rfl, hx1, hbx1, -⟩
        have HX1 := Lib.hid hx1
        have HBX1 := Lib.hid (HBW.out.trans hbx1)
        have hy1 : (sig ++ counts l ++ l.stations.flatMap nm).length + 10000 ≤ 140737488355328 := by simp only [List.length_append, hsl]; omega
        clear k0 k1 k2 k3 hx1 hbx1 HX HBW hy0
        obtain ⟨k0, k1, k2, k3⟩ := HC2.out x1 HBX1.out
        go_wp2_with fail
        refine (each_name w1.heap.size w1.heap.size _ A2 n2 c2 l.points x1 (HR2.out x1 HBX1.out).pt (fun a ha => name_le (HV.out.pt a ha)) (by omega) HX1.out hy1 (by have := HBX1.out.size; omega)).mono ?_
        rintro e x2 ⟨rfl, hx2, hbx2, -⟩
        have HX2 := Lib.hid hx2
        have HBX2 := Lib.hid (HBX1.out.trans hbx2)
        have hy2 : (sig ++ counts l ++ l.stations.flatMap nm ++ l.points.flatMap nm).length + 10000 ≤ 140737488355328 := by simp only [List.length_append, hsl]; omega
        clear k0 k1 k2 k3 hx2 hbx2 HX1 HBX1 hy1
        obtain ⟨k0, k1, k2, k3⟩ := HC2.out x2 HBX2.out
        go_wp2_with fail
        refine (each_sec w1.heap.size w1.heap.size l.stations.length _ A3 n3 c3 l.sections x2 (HR2.out x2 HBX2.out).sec (fun a ha => ⟨name_le (HV.out.sec a ha).1, (HV.out.sec a ha).2⟩) z1 (by omega) HX2.out hy2 (by have := HBX2.out.size; omega)).mono ?_
        rintro e x3 ⟨rfl, hx3, hbx3, -⟩
        have HX3 := Lib.hid hx3
        have HBX3 := Lib.hid (HBX2.out.trans hbx3)
        have hy3 : (sig ++ counts l ++ l.stations.flatMap nm ++ l.points.flatMap nm ++ l.sections.flatMap encSec).length + 10000 ≤ 140737488355328 := by simp only [List.length_append, hsl]; omega
        clear k0 k1 k2 k3 hx3 hbx3 HX2 HBX2 hy2
        obtain ⟨k0, k1, k2, k3⟩ := HC2.out x3 HBX3.out
        go_wp2_with fail
        refine (each_lnk w1.heap.size w1.heap.size l.sections.length l.points.length _ A4 n4 c4 l.links x3 (HR2.out x3 HBX3.out).lnk (fun a ha => HV.out.lnk a ha) z3 z2 (by omega) HX3.out hy3 (by have := HBX3.out.size; omega)).mono ?_
        rintro e x4 ⟨rfl, hx4, hbx4, -⟩
        have hbody : Hid (sig ++ counts l ++ l.stations.flatMap nm ++ l.points.flatMap nm ++ l.sections.flatMap encSec ++ l.links.flatMap encLnk = body l) := by unfold body; simp [Hid, List.append_assoc]
        rw [hbody.out] at hx4
        have HX4 := Lib.hid hx4
        have HBX4 := Lib.hid (HBX3.out.trans hbx4)
        have hlb : (body l).length + 10000 ≤ 140737488355328 := by rw [← hbody.out]; simp only [List.length_append, hsl]; omega
        have hne : body l ≠ [] := fun e => by have := body_len l; rw [e] at this; simp at this
        have HN1 := Lib.hid (text_of w1.heap.size w1.heap.size (body l) x4 hx4 hne)
        clear k0 k1 k2 k3 hx4 hbx4 HX3 HBX3 hy3 hbody HX4 hne
        go_wp2_with fail
        refine HN1.out.mono ?_
        rintro e x5 ⟨rfl, hx5, hbx5, -⟩
        have HX5 := Lib.hid hx5
        have HBX5 := Lib.hid (HBX4.out.trans hbx5)
        have HSM := Lib.hid (sum_any (str (body l)) x5 (by rw [size_str]; omega))
        rw [bs_str] at HSM
        have hcl := crc_lt (body l)
        clear hx5 hbx5 HN1 HBX4
        go_wp2_with fail
        refine HSM.out.mono ?_
        rintro e x6 ⟨rfl, rfl⟩
        clear HSM
        go_wp2_with fail
        refine (number_eq w1.heap.size w1.heap.size (body l) _ (crc (body l)) 4 x5 (by first | rfl | omega) HX5.out (by omega) (by omega) (by omega) (by have := HBX5.out.size; omega)).mono ?_
        rintro e x7 ⟨rfl, hx7, hbx7, -⟩
        have henc : Hid (body l ++ le 4 (crc (body l)) = enc l) := rfl
        rw [henc.out] at hx7
        have HBX7 := Lib.hid (HBX5.out.trans hbx7)
        have hne : enc l ≠ [] := fun e => by have := enc_len l; rw [e] at this; simp at this
        have HN2 := Lib.hid (text_of w1.heap.size w1.heap.size (enc l) x7 hx7 hne)
        clear hx7 hbx7 HX5 HBX5 hne henc
        go_wp2_with fail
        refine HN2.out.mono ?_
        rintro e x8 ⟨rfl, -, hbx8, -⟩
        have HF := Lib.hid (HW2.out x8 (HBX7.out.trans hbx8))
        clear HN2 HBX7 hbx8 hcl
        go_wp2_with fail
        go_ret2
        exact ⟨by rw [HT.out, HE.out]; rfl, HF.out⟩
  · have ht : (check l == 0) = false := by simpa using hv
    have htn : (check l != 0) = true := by simpa using hv
    have HT : Hid (encT l = []) := by rw [Hid, encT, if_neg hv]
    have HE : Hid (encE l = 1) := by rw [Hid, encE, if_neg hv]
    clear hv
    go_wp2_with fail
    go_ret2
    exact ⟨by rw [HT.out, HE.out]; rfl, HB1.out⟩
end Go.Proofs.Ytepbdcnjhbaehaa.Enc
