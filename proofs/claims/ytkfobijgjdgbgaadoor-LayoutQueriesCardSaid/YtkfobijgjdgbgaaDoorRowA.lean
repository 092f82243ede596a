/-
  What the maker of a row of stations does to the builder: a station, a row of tracks, a row of sections in between.
-/
import Derived.Test.YtkfobijgjdgbgaaDoorFan
namespace Go.Proofs.YtkfobijgjdgbgaaDoor.RowA
open Go.ChangeShapes Go.WideShapes Go.ChangeAt Go.RowKit Wd Small Mem Lay LayT LayG Recs Dec PNames PSecs PEnds RNames Src PHops Bld Bldr St Fan
set_option linter.unusedVariables false

/-- no points and no sections in between yet -/
def Bare (V : V6) : Prop := V.A1 = none ∧ V.n1 = 0 ∧ V.c1 = 0 ∧ V.A5 = none ∧ V.n5 = 0 ∧ V.c5 = 0
section
variable {w w' : World} {g top ptop : Nat} {L : Lay} {TL M : List (Option Addr × Nat × Nat)} {TS : List (List Int)} {V : V6}
theorem own_lt {α : Type} {R : Rec α} {base n : Nat} {v : Value} {l : List α} (h : Own R w base v n l) : ∀ b, v.ownBlock = some b → b < w.heap.size := fun b hb => (h.2.lt b hb).2
theorem own_zero {α : Type} {R : Rec α} {base : Nat} {l : List α} (h : Own R w base (.slice none 0 0) 0 l) (base' : Nat) (W : World) : Own R W base' (.slice none 0 0) 0 l := by
  have := h.1
  obtain rfl : l = [] := List.length_eq_zero_iff.1 this
  exact Own.nil _ _
theorem Bd.keepsI (h : Bd w g top ptop L TL TS V M) {u : Value} (ht : Turned w w' g u) (hne : ∀ {base n : Nat} {v : Value} {l : List Int}, Own iR w base v n l → ∀ b, v.ownBlock = some b → u.ownBlock ≠ some b) : KeepI w w' g :=
  fun base v n l hb ho => own_turned ho ht (hne ho) hb
theorem Bd.station (h : Bd w g top ptop L TL TS V M) (hz : Bare V) {x : Bs} {A' : Option Addr} {c' : Nat}
    (hB : Blk7 w' g (.slice A' (V.n0 + 1) c') (.slice V.A1 V.n1 V.c1) (.slice V.A2 V.n2 V.c2) (.slice V.A3 V.n3 V.c3) (.slice V.A4 V.n4 V.c4) (.slice V.A5 V.n5 V.c5))
    (hO : Own sR w' (g + 1) (.slice A' (V.n0 + 1) c') (V.n0 + 1) (L.stations ++ [x])) (ht : Turned w w' g (.slice V.A0 V.n0 V.c0)) :
    Bd w' g top w'.heap.size { L with stations := L.stations ++ [x] } TL TS { V with A0 := A', n0 := V.n0 + 1, c0 := c' } M ∧ Below g w w' := by
  obtain ⟨z1, z2, z3, z4, z5, z6⟩ := hz
  have hp := h.pt
  have hb := h.bw
  rw [z1, z2, z3] at hp
  rw [z4, z5, z6] at hb
  have hs := turned_size ht
  have htr := own_turned h.tr ht (diff (by decide) h.tr h.st) (by omega)
  refine ⟨⟨hB, hO, own_lt hO, by rw [z1, z2, z3]; exact own_zero hp _ _, own_turned h.sec ht (diff (by decide) h.sec h.st) (by omega), own_turned h.lnk ht (diff (by decide) h.lnk h.st) (by omega), htr, own_lt htr,
    by rw [z4, z5, z6]; exact own_zero hb _ _, h.rl, fun i a l ha hl => ?_, by have := h.blk.lt; omega, Nat.le_refl _, h.gt, Nat.le_trans h.tz hs⟩, turned_below ht (Nat.le_of_lt h.blk.lt) (fun b hb => by have := (h.st.2.lt b hb).1; omega)⟩
  obtain ⟨o, lt⟩ := h.rows i a l ha hl
  exact ⟨own_turned o ht (diff (by decide) o h.st) (by omega), lt⟩
theorem Bd.raise (h : Bd w g top ptop L TL TS V M) {top' : Nat} (h1 : top ≤ top') (h2 : top' ≤ w.heap.size) : Bd w g top' ptop L TL TS V M :=
  ⟨h.blk, h.st, h.st2, h.pt, h.sec, h.lnk, h.tr, h.tr2, h.bw, h.rl, fun i a l ha hl => ⟨(h.rows i a l ha hl).1, fun b hb => Nat.lt_of_lt_of_le ((h.rows i a l ha hl).2 b hb) h1⟩, h.gp, h.pz, Nat.lt_of_lt_of_le h.gt h1, h2⟩
theorem Bd.track (h : Bd w g top ptop L TL TS V M) (hz : Bare V) {a : Option Addr × Nat × Nat} {l : List Int} {A' : Option Addr} {c' : Nat} (ha : Own iR w top (.slice a.1 a.2.1 a.2.2) a.2.1 l)
    (hB : Blk7 w' g (.slice V.A0 V.n0 V.c0) (.slice V.A1 V.n1 V.c1) (.slice V.A2 V.n2 V.c2) (.slice V.A3 V.n3 V.c3) (.slice A' (V.n4 + 1) c') (.slice V.A5 V.n5 V.c5))
    (hO : Own tR w' (g + 1) (.slice A' (V.n4 + 1) c') (V.n4 + 1) (TL ++ [a])) (ht : Turned w w' g (.slice V.A4 V.n4 V.c4)) :
    Bd w' g w'.heap.size w'.heap.size L (TL ++ [a]) (TS ++ [l]) { V with A4 := A', n4 := V.n4 + 1, c4 := c' } M ∧ Below g w w' := by
  obtain ⟨z1, z2, z3, z4, z5, z6⟩ := hz
  have hp := h.pt
  have hb := h.bw
  rw [z1, z2, z3] at hp
  rw [z4, z5, z6] at hb
  have hs := turned_size ht
  have hst := own_turned h.st ht (diff (by decide) h.st h.tr) (by omega)
  refine ⟨⟨hB, hst, own_lt hst, by rw [z1, z2, z3]; exact own_zero hp _ _, own_turned h.sec ht (diff (by decide) h.sec h.tr) (by omega), own_turned h.lnk ht (diff (by decide) h.lnk h.tr) (by omega), hO, own_lt hO,
    by rw [z4, z5, z6]; exact own_zero hb _ _, by simp [h.rl], fun i b k hb hk => ?_, by have := h.blk.lt; omega, Nat.le_refl _, by have := h.blk.lt; omega, Nat.le_refl _⟩, turned_below ht (Nat.le_of_lt h.blk.lt) (fun b hb => by have := (h.tr.2.lt b hb).1; omega)⟩
  by_cases hi : i < TL.length
  · rw [List.getElem?_append_left hi] at hb
    rw [List.getElem?_append_left (by rw [← h.rl]; exact hi)] at hk
    obtain ⟨o, lt⟩ := h.rows i b k hb hk
    have o' := own_turned o ht (diff (by decide) o h.tr) (by omega)
    exact ⟨o', own_lt o'⟩
  · rw [List.getElem?_append_right (by omega)] at hb
    rw [List.getElem?_append_right (by rw [← h.rl]; omega)] at hk
    have hi0 : i - TL.length = 0 := by
      have := (List.getElem?_eq_some_iff.1 hb).1
      simp at this; omega
    rw [hi0] at hb
    rw [← h.rl, hi0] at hk
    simp at hb hk
    subst hb hk
    have o' := own_turned (ha.base_ (show g + 1 ≤ top by have := h.gt; omega)) ht (diff (by decide) ha h.tr) (by omega)
    exact ⟨o', own_lt o'⟩
theorem Bd.betw (h : Bd w g top ptop L TL TS V M) {a : Option Addr × Nat × Nat} {A' : Option Addr} {c' : Nat}
    (hB : Blk7 w' g (.slice V.A0 V.n0 V.c0) (.slice V.A1 V.n1 V.c1) (.slice V.A2 V.n2 V.c2) (.slice V.A3 V.n3 V.c3) (.slice V.A4 V.n4 V.c4) (.slice A' (V.n5 + 1) c'))
    (hO : Own tR w' ptop (.slice A' (V.n5 + 1) c') (V.n5 + 1) (M ++ [a])) (ht : Turned w w' g (.slice V.A5 V.n5 V.c5)) :
    Bd w' g top ptop L TL TS { V with A5 := A', n5 := V.n5 + 1, c5 := c' } (M ++ [a]) ∧ KeepI w w' g ∧ Below g w w' := by
  have hs := turned_size ht
  refine ⟨⟨hB, own_turned h.st ht (diff (by decide) h.st h.bw) (by omega), h.st2, own_turned h.pt ht (diff (by decide) h.pt h.bw) h.gp, own_turned h.sec ht (diff (by decide) h.sec h.bw) (by omega), own_turned h.lnk ht (diff (by decide) h.lnk h.bw) (by omega), own_turned h.tr ht (apart (R := tR) (L := TL) (b1 := 0) (n := 0) h.tr2 h.bw (Nat.le_refl _)) (by omega), h.tr2,
    hO, h.rl, fun i b k hb hk => ?_, h.gp, Nat.le_trans h.pz hs, h.gt, Nat.le_trans h.tz hs⟩, fun base v n l hb ho => own_turned ho ht (diff (by decide) ho h.bw) hb, turned_below ht (Nat.le_of_lt h.blk.lt) (fun b hb => by have := (h.bw.2.lt b hb).1; have := h.gp; omega)⟩
  obtain ⟨o, lt⟩ := h.rows i b k hb hk
  exact ⟨own_turned o ht (diff (by decide) o h.bw) (by omega), lt⟩
end

/-! ### the shapes, one more at a time -/
theorem stations_snoc (n : Nat) : ∀ (ts : List Nat) (i : Int) (b : Bld), stationsOf i (ts ++ [n]) b = addStation (stationsOf i ts b) (i + ts.length) n
  | [], i, b => by simp [stationsOf]
  | t :: r, i, b => by
    simp only [List.cons_append, stationsOf, List.length_cons]
    rw [stations_snoc n r (i + 1) _, show i + 1 + (r.length : Int) = i + ((r.length + 1 : Nat) : Int) by omega]
theorem between_snoc (n : Nat) : ∀ (ts : List Nat) (i : Int) (b : Bld), betweensOf i (ts ++ [n]) b = addBetween (betweensOf i ts b) (i + ts.length) n
  | [], i, b => by simp [betweensOf]
  | t :: r, i, b => by
    simp only [List.cons_append, betweensOf, List.length_cons]
    rw [between_snoc n r (i + 1) _, show i + 1 + (r.length : Int) = i + ((r.length + 1 : Nat) : Int) by omega]
theorem sk_sec (L : Lay) (x : Sec) : skOf { L with sections := L.sections ++ [x] } = addSec (skOf L) (x.name, x.st) := by simp [skOf, addSec]
theorem sk_len (L : Lay) : (skOf L).secs.length = L.sections.length := by simp [skOf]
end Go.Proofs.YtkfobijgjdgbgaaDoor.RowA
