/-
  The builder of generated layouts as it stands in memory, and what keeps it; joining a section to the tracks of a station.
-/
import Derived.Test.YtkfobijgjdgbgaaDoorBldr
namespace Go.Proofs.YtkfobijgjdgbgaaDoor.St
open Go.ChangeShapes Go.WideShapes Go.ChangeAt Go.RowKit Wd Small Mem Lay LayT LayG Recs Dec PNames PSecs PEnds RNames Src PHops Bld Bldr
set_option linter.unusedVariables false

/-- rows of numbers, as a slice of slices holds them -/
def tR : Rec (Option Addr × Nat × Nat) := ⟨31, 1, fun a => [.slice a.1 a.2.1 a.2.2], by decide, fun _ => rfl, fun _ => one_cell _ rfl⟩
theorem infoT : (Tryd.prog.info? 31).map (fun i => (i.zero, i.size, i.bytes)) = some (some (.slice none 0 0), 1, 24) := by kernel_rfl
theorem infoI : (Tryd.prog.info? 3).map (fun i => (i.zero, i.size, i.bytes)) = some (some (.int .i64 0), 1, 8) := by kernel_rfl

structure V6 where
  A0 : Option Addr
  n0 : Nat
  c0 : Nat
  A1 : Option Addr
  n1 : Nat
  c1 : Nat
  A2 : Option Addr
  n2 : Nat
  c2 : Nat
  A3 : Option Addr
  n3 : Nat
  c3 : Nat
  A4 : Option Addr
  n4 : Nat
  c4 : Nat
  A5 : Option Addr
  n5 : Nat
  c5 : Nat
/-- the builder lies in block g: the layout so far, the rows of tracks (finished ones below top), the lists that begin at ptop -/
structure Bd (w : World) (g top ptop : Nat) (L : Lay) (TL : List (Option Addr × Nat × Nat)) (TS : List (List Int)) (V : V6) (M : List (Option Addr × Nat × Nat)) : Prop where
  blk : Blk7 w g (.slice V.A0 V.n0 V.c0) (.slice V.A1 V.n1 V.c1) (.slice V.A2 V.n2 V.c2) (.slice V.A3 V.n3 V.c3) (.slice V.A4 V.n4 V.c4) (.slice V.A5 V.n5 V.c5)
  st : Own sR w (g + 1) (.slice V.A0 V.n0 V.c0) V.n0 L.stations
  st2 : ∀ b, (Value.slice V.A0 V.n0 V.c0).ownBlock = some b → b < ptop
  pt : Own sR w ptop (.slice V.A1 V.n1 V.c1) V.n1 L.points
  sec : Own secR w (g + 1) (.slice V.A2 V.n2 V.c2) V.n2 L.sections
  lnk : Own lnkR w (g + 1) (.slice V.A3 V.n3 V.c3) V.n3 L.links
  tr : Own tR w (g + 1) (.slice V.A4 V.n4 V.c4) V.n4 TL
  tr2 : ∀ b, (Value.slice V.A4 V.n4 V.c4).ownBlock = some b → b < ptop
  bw : Own tR w ptop (.slice V.A5 V.n5 V.c5) V.n5 M
  rl : TL.length = TS.length
  rows : ∀ (i : Nat) a l, TL[i]? = some a → TS[i]? = some l → Own iR w (g + 1) (.slice a.1 a.2.1 a.2.2) a.2.1 l ∧ ∀ b, (Value.slice a.1 a.2.1 a.2.2).ownBlock = some b → b < top
  gp : g < ptop
  pz : ptop ≤ w.heap.size
  gt : g < top
  tz : top ≤ w.heap.size
/-- every row of numbers of the call's own is kept -/
def KeepI (w w' : World) (g : Nat) : Prop := ∀ base v n l, g < base → Own iR w base v n l → Own iR w' base v n l
theorem KeepI.refl (w : World) (g : Nat) : KeepI w w g := fun _ _ _ _ _ h => h
theorem KeepI.trans {w w1 w2 : World} {g : Nat} (h : KeepI w w1 g) (h' : KeepI w1 w2 g) : KeepI w w2 g := fun b v n l hb ho => h' b v n l hb (h b v n l hb ho)
theorem diff {α β : Type} {R : Rec α} {S : Rec β} {w : World} {b1 b2 n m : Nat} {v u : Value} {L : List α} {M : List β} (he : R.e ≠ S.e) (h : Own R w b1 v n L) (h' : Own S w b2 u m M) : ∀ b, v.ownBlock = some b → u.ownBlock ≠ some b :=
  fun b hv hu => ne_row he h h' hu hv
theorem apart {α β : Type} {R : Rec α} {S : Rec β} {w : World} {b1 b2 n m p : Nat} {v u : Value} {L : List α} {M : List β} (h : ∀ b, v.ownBlock = some b → b < p) (h' : Own S w b2 u m M) (hp : p ≤ b2) : ∀ b, v.ownBlock = some b → u.ownBlock ≠ some b :=
  fun b hv hu => by have := h b hv; have := (h'.2.lt b hu).1; omega
theorem apart2 {α β : Type} {R : Rec α} {S : Rec β} {w : World} {b1 b2 n m p : Nat} {v u : Value} {L : List α} {M : List β} (h : ∀ b, v.ownBlock = some b → b < p) (h' : Own S w b2 u m M) (hp : p ≤ b2) : ∀ b, u.ownBlock = some b → v.ownBlock ≠ some b :=
  fun b hu hv => by have := h b hv; have := (h'.2.lt b hu).1; omega
theorem turned_size {w w' : World} {g : Nat} {u : Value} (ht : Turned w w' g u) : w.heap.size ≤ w'.heap.size := by
  obtain ⟨wm, h1, h2⟩ := ht
  exact Nat.le_trans h1.size h2.size
section
variable {w w' : World} {g top ptop : Nat} {L : Lay} {TL M : List (Option Addr × Nat × Nat)} {TS : List (List Int)} {V : V6}
theorem Bd.add (h : Bd w g top ptop L TL TS V M) {x : Sec} {A' : Option Addr} {c' : Nat}
    (hB : Blk7 w' g (.slice V.A0 V.n0 V.c0) (.slice V.A1 V.n1 V.c1) (.slice A' (V.n2 + 1) c') (.slice V.A3 V.n3 V.c3) (.slice V.A4 V.n4 V.c4) (.slice V.A5 V.n5 V.c5))
    (hO : Own secR w' (g + 1) (.slice A' (V.n2 + 1) c') (V.n2 + 1) (L.sections ++ [x])) (ht : Turned w w' g (.slice V.A2 V.n2 V.c2)) :
    Bd w' g top ptop { L with sections := L.sections ++ [x] } TL TS { V with A2 := A', n2 := V.n2 + 1, c2 := c' } M ∧ KeepI w w' g ∧ Below g w w' := by
  refine ⟨⟨hB, own_turned h.st ht (diff (by decide) h.st h.sec) (by omega), h.st2, own_turned h.pt ht (diff (by decide) h.pt h.sec) h.gp, hO, own_turned h.lnk ht (diff (by decide) h.lnk h.sec) (by omega), own_turned h.tr ht (diff (by decide) h.tr h.sec) (by omega), h.tr2,
    own_turned h.bw ht (diff (by decide) h.bw h.sec) h.gp, h.rl, fun i a l ha hl => ?_, h.gp, Nat.le_trans h.pz (turned_size ht), h.gt, Nat.le_trans h.tz (turned_size ht)⟩, fun base v n l hb ho => own_turned ho ht (diff (by decide) ho h.sec) hb, turned_below ht (Nat.le_of_lt h.blk.lt) (fun b hb => by have := (h.sec.2.lt b hb).1; omega)⟩
  obtain ⟨o, lt⟩ := h.rows i a l ha hl
  exact ⟨own_turned o ht (diff (by decide) o h.sec) (by omega), lt⟩
theorem Bd.link (h : Bd w g top ptop L TL TS V M) {x : Lnk} {A' : Option Addr} {c' : Nat}
    (hB : Blk7 w' g (.slice V.A0 V.n0 V.c0) (.slice V.A1 V.n1 V.c1) (.slice V.A2 V.n2 V.c2) (.slice A' (V.n3 + 1) c') (.slice V.A4 V.n4 V.c4) (.slice V.A5 V.n5 V.c5))
    (hO : Own lnkR w' (g + 1) (.slice A' (V.n3 + 1) c') (V.n3 + 1) (L.links ++ [x])) (ht : Turned w w' g (.slice V.A3 V.n3 V.c3)) :
    Bd w' g top ptop { L with links := L.links ++ [x] } TL TS { V with A3 := A', n3 := V.n3 + 1, c3 := c' } M ∧ KeepI w w' g ∧ Below g w w' := by
  refine ⟨⟨hB, own_turned h.st ht (diff (by decide) h.st h.lnk) (by omega), h.st2, own_turned h.pt ht (diff (by decide) h.pt h.lnk) h.gp, own_turned h.sec ht (diff (by decide) h.sec h.lnk) (by omega), hO, own_turned h.tr ht (diff (by decide) h.tr h.lnk) (by omega), h.tr2,
    own_turned h.bw ht (diff (by decide) h.bw h.lnk) h.gp, h.rl, fun i a l ha hl => ?_, h.gp, Nat.le_trans h.pz (turned_size ht), h.gt, Nat.le_trans h.tz (turned_size ht)⟩, fun base v n l hb ho => own_turned ho ht (diff (by decide) ho h.lnk) hb, turned_below ht (Nat.le_of_lt h.blk.lt) (fun b hb => by have := (h.lnk.2.lt b hb).1; omega)⟩
  obtain ⟨o, lt⟩ := h.rows i a l ha hl
  exact ⟨own_turned o ht (diff (by decide) o h.lnk) (by omega), lt⟩
theorem Bd.point (h : Bd w g top ptop L TL TS V M) {x : Bs} {A' : Option Addr} {c' : Nat}
    (hB : Blk7 w' g (.slice V.A0 V.n0 V.c0) (.slice A' (V.n1 + 1) c') (.slice V.A2 V.n2 V.c2) (.slice V.A3 V.n3 V.c3) (.slice V.A4 V.n4 V.c4) (.slice V.A5 V.n5 V.c5))
    (hO : Own sR w' ptop (.slice A' (V.n1 + 1) c') (V.n1 + 1) (L.points ++ [x])) (ht : Turned w w' g (.slice V.A1 V.n1 V.c1)) :
    Bd w' g top ptop { L with points := L.points ++ [x] } TL TS { V with A1 := A', n1 := V.n1 + 1, c1 := c' } M ∧ KeepI w w' g ∧ Below g w w' := by
  refine ⟨⟨hB, own_turned h.st ht (apart (R := sR) (L := L.stations) (b1 := 0) (n := 0) h.st2 h.pt (Nat.le_refl _)) (by omega), h.st2, hO, own_turned h.sec ht (diff (by decide) h.sec h.pt) (by omega), own_turned h.lnk ht (diff (by decide) h.lnk h.pt) (by omega), own_turned h.tr ht (diff (by decide) h.tr h.pt) (by omega), h.tr2,
    own_turned h.bw ht (diff (by decide) h.bw h.pt) h.gp, h.rl, fun i a l ha hl => ?_, h.gp, Nat.le_trans h.pz (turned_size ht), h.gt, Nat.le_trans h.tz (turned_size ht)⟩, fun base v n l hb ho => own_turned ho ht (diff (by decide) ho h.pt) hb, turned_below ht (Nat.le_of_lt h.blk.lt) (fun b hb => by have := (h.pt.2.lt b hb).1; have := h.gp; omega)⟩
  obtain ⟨o, lt⟩ := h.rows i a l ha hl
  exact ⟨own_turned o ht (diff (by decide) o h.pt) (by omega), lt⟩
/-- what else may change: a block before the builder, or the row of numbers that is being made -/
theorem Bd.grown {row : Option Nat} (h : Bd w g top ptop L TL TS V M) (hg : w.grownBy w' row) (hr : ∀ b, row = some b → b < g ∨ ∃ v n l, v.ownBlock = some b ∧ Own iR w top v n l) : Bd w' g top ptop L TL TS V M := by
  have hne : ∀ {α : Type} {R : Rec α} {base n : Nat} {v : Value} {l : List α}, R.e ≠ iR.e → Own R w base v n l → g < base → v.ownBlock = none ∨ v.ownBlock ≠ row := by
    intro α R base n v l he ho hb
    cases hv : v.ownBlock with
    | none => exact .inl rfl
    | some b =>
      refine .inr (fun e => ?_)
      rcases hr b e.symm with h1 | ⟨u, m, k, hu, ou⟩
      · have := (ho.2.lt b hv).1; omega
      · exact ne_row he ho ou hu hv
  have hgr : some g ≠ row := fun e => by
    rcases hr g e.symm with h1 | ⟨u, m, k, hu, ou⟩
    · omega
    · have := (ou.2.lt g hu).1; have := h.gt; omega
  refine ⟨h.blk.same (hg.block g h.blk.lt hgr), h.st.grown hg (hne (by decide) h.st (by omega)), h.st2, h.pt.grown hg (hne (by decide) h.pt h.gp), h.sec.grown hg (hne (by decide) h.sec (by omega)), h.lnk.grown hg (hne (by decide) h.lnk (by omega)), h.tr.grown hg (hne (by decide) h.tr (by omega)), h.tr2,
    h.bw.grown hg (hne (by decide) h.bw h.gp), h.rl, fun i a l ha hl => ?_, h.gp, Nat.le_trans h.pz hg.size, h.gt, Nat.le_trans h.tz hg.size⟩
  obtain ⟨o, lt⟩ := h.rows i a l ha hl
  refine ⟨o.grown hg ?_, lt⟩
  cases hv : (Value.slice a.1 a.2.1 a.2.2).ownBlock with
  | none => exact .inl rfl
  | some b =>
    refine .inr (fun e => ?_)
    rcases hr b e.symm with h1 | ⟨u, m, k, hu, ou⟩
    · have := (o.2.lt b hv).1; omega
    · have := (ou.2.lt b hu).1; have := lt b hv; omega
end
end Go.Proofs.YtkfobijgjdgbgaaDoor.St
