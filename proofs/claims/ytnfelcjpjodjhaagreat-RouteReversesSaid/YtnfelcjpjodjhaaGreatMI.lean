/-
  The builder of generated layouts as it stands in memory, and what keeps it; joining a section to the tracks of a station.
  Contract of joining a section to the tracks of a station.
  What the maker of a row of stations does to the builder: a station, a row of tracks, a row of sections in between.
  Contract of the maker of a row of stations.
  Contract of the maker of generated layouts: it answers a valid layout.
-/
import Derived.Test.YtnfelcjpjodjhaaGreatMF
import Derived.StillTailTactics
namespace Go.Proofs.YtnfelcjpjodjhaaGreat.St
open Go.ChangeShapes Go.WideShapes Go.ChangeAt Go.RowKit Wd Small Mem Lay LayT LayG Recs Dec PNames PSecs PEnds RNames Src PHops Bld Bldr
set_option linter.unusedVariables false

/-- rows of numbers, as a slice of slices holds them -/
def tR : Rec (Option Addr × Nat × Nat) := ⟨34, 1, fun a => [.slice a.1 a.2.1 a.2.2], by decide, fun _ => rfl, fun _ => one_cell _ rfl⟩
theorem infoT : (Tryz.prog.info? 34).map (fun i => (i.zero, i.size, i.bytes)) = some (some (.slice none 0 0), 1, 24) := by kernel_rfl
theorem infoI : (Tryz.prog.info? 3).map (fun i => (i.zero, i.size, i.bytes)) = some (some (.int .i64 0), 1, 8) := by kernel_rfl

structure V6 where
  A0 : Option Addr
  n0 : Nat
  c0 : Nat
  A1 : Option Addr
  n1 : Nat
  c1 : Nat
  A2 : Option Addr
  n2 : Nat
  c2 : Nat
  A3 : Option Addr
  n3 : Nat
  c3 : Nat
  A4 : Option Addr
  n4 : Nat
  c4 : Nat
  A5 : Option Addr
  n5 : Nat
  c5 : Nat
/-- the builder lies in block g: the layout so far, the rows of tracks (finished ones below top), the lists that begin at ptop -/
structure Bd (w : World) (g top ptop : Nat) (L : Lay) (TL : List (Option Addr × Nat × Nat)) (TS : List (List Int)) (V : V6) (M : List (Option Addr × Nat × Nat)) : Prop where
  blk : Blk7 w g (.slice V.A0 V.n0 V.c0) (.slice V.A1 V.n1 V.c1) (.slice V.A2 V.n2 V.c2) (.slice V.A3 V.n3 V.c3) (.slice V.A4 V.n4 V.c4) (.slice V.A5 V.n5 V.c5)
  st : Own sR w (g + 1) (.slice V.A0 V.n0 V.c0) V.n0 L.stations
  st2 : ∀ b, (Value.slice V.A0 V.n0 V.c0).ownBlock = some b → b < ptop
  pt : Own sR w ptop (.slice V.A1 V.n1 V.c1) V.n1 L.points
  sec : Own secR w (g + 1) (.slice V.A2 V.n2 V.c2) V.n2 L.sections
  lnk : Own lnkR w (g + 1) (.slice V.A3 V.n3 V.c3) V.n3 L.links
  tr : Own tR w (g + 1) (.slice V.A4 V.n4 V.c4) V.n4 TL
  tr2 : ∀ b, (Value.slice V.A4 V.n4 V.c4).ownBlock = some b → b < ptop
  bw : Own tR w ptop (.slice V.A5 V.n5 V.c5) V.n5 M
  rl : TL.length = TS.length
  rows : ∀ (i : Nat) a l, TL[i]? = some a → TS[i]? = some l → Own iR w (g + 1) (.slice a.1 a.2.1 a.2.2) a.2.1 l ∧ ∀ b, (Value.slice a.1 a.2.1 a.2.2).ownBlock = some b → b < top
  gp : g < ptop
  pz : ptop ≤ w.heap.size
  gt : g < top
  tz : top ≤ w.heap.size
/-- every row of numbers of the call's own is kept -/
def KeepI (w w' : World) (g : Nat) : Prop := ∀ base v n l, g < base → Own iR w base v n l → Own iR w' base v n l
theorem KeepI.refl (w : World) (g : Nat) : KeepI w w g := fun _ _ _ _ _ h => h
theorem KeepI.trans {w w1 w2 : World} {g : Nat} (h : KeepI w w1 g) (h' : KeepI w1 w2 g) : KeepI w w2 g := fun b v n l hb ho => h' b v n l hb (h b v n l hb ho)
theorem diff {α β : Type} {R : Rec α} {S : Rec β} {w : World} {b1 b2 n m : Nat} {v u : Value} {L : List α} {M : List β} (he : R.e ≠ S.e) (h : Own R w b1 v n L) (h' : Own S w b2 u m M) : ∀ b, v.ownBlock = some b → u.ownBlock ≠ some b :=
  fun b hv hu => ne_row he h h' hu hv
theorem apart {α β : Type} {R : Rec α} {S : Rec β} {w : World} {b1 b2 n m p : Nat} {v u : Value} {L : List α} {M : List β} (h : ∀ b, v.ownBlock = some b → b < p) (h' : Own S w b2 u m M) (hp : p ≤ b2) : ∀ b, v.ownBlock = some b → u.ownBlock ≠ some b :=
  fun b hv hu => by have := h b hv; have := (h'.2.lt b hu).1; omega
theorem apart2 {α β : Type} {R : Rec α} {S : Rec β} {w : World} {b1 b2 n m p : Nat} {v u : Value} {L : List α} {M : List β} (h : ∀ b, v.ownBlock = some b → b < p) (h' : Own S w b2 u m M) (hp : p ≤ b2) : ∀ b, u.ownBlock = some b → v.ownBlock ≠ some b :=
  fun b hu hv => by have := h b hv; have := (h'.2.lt b hu).1; omega
theorem turned_size {w w' : World} {g : Nat} {u : Value} (ht : Turned w w' g u) : w.heap.size ≤ w'.heap.size := by
  obtain ⟨wm, h1, h2⟩ := ht
  exact Nat.le_trans h1.size h2.size
section
variable {w w' : World} {g top ptop : Nat} {L : Lay} {TL M : List (Option Addr × Nat × Nat)} {TS : List (List Int)} {V : V6}
theorem Bd.add (h : Bd w g top ptop L TL TS V M) {x : Sec} {A' : Option Addr} {c' : Nat}
    (hB : Blk7 w' g (.slice V.A0 V.n0 V.c0) (.slice V.A1 V.n1 V.c1) (.slice A' (V.n2 + 1) c') (.slice V.A3 V.n3 V.c3) (.slice V.A4 V.n4 V.c4) (.slice V.A5 V.n5 V.c5))
    (hO : Own secR w' (g + 1) (.slice A' (V.n2 + 1) c') (V.n2 + 1) (L.sections ++ [x])) (ht : Turned w w' g (.slice V.A2 V.n2 V.c2)) :
    Bd w' g top ptop { L with sections := L.sections ++ [x] } TL TS { V with A2 := A', n2 := V.n2 + 1, c2 := c' } M ∧ KeepI w w' g ∧ Below g w w' := by
  refine ⟨⟨hB, own_turned h.st ht (diff (by decide) h.st h.sec) (by omega), h.st2, own_turned h.pt ht (diff (by decide) h.pt h.sec) h.gp, hO, own_turned h.lnk ht (diff (by decide) h.lnk h.sec) (by omega), own_turned h.tr ht (diff (by decide) h.tr h.sec) (by omega), h.tr2,
    own_turned h.bw ht (diff (by decide) h.bw h.sec) h.gp, h.rl, fun i a l ha hl => ?_, h.gp, Nat.le_trans h.pz (turned_size ht), h.gt, Nat.le_trans h.tz (turned_size ht)⟩, fun base v n l hb ho => own_turned ho ht (diff (by decide) ho h.sec) hb, turned_below ht (Nat.le_of_lt h.blk.lt) (fun b hb => by have := (h.sec.2.lt b hb).1; omega)⟩
  obtain ⟨o, lt⟩ := h.rows i a l ha hl
  exact ⟨own_turned o ht (diff (by decide) o h.sec) (by omega), lt⟩
theorem Bd.link (h : Bd w g top ptop L TL TS V M) {x : Lnk} {A' : Option Addr} {c' : Nat}
    (hB : Blk7 w' g (.slice V.A0 V.n0 V.c0) (.slice V.A1 V.n1 V.c1) (.slice V.A2 V.n2 V.c2) (.slice A' (V.n3 + 1) c') (.slice V.A4 V.n4 V.c4) (.slice V.A5 V.n5 V.c5))
    (hO : Own lnkR w' (g + 1) (.slice A' (V.n3 + 1) c') (V.n3 + 1) (L.links ++ [x])) (ht : Turned w w' g (.slice V.A3 V.n3 V.c3)) :
    Bd w' g top ptop { L with links := L.links ++ [x] } TL TS { V with A3 := A', n3 := V.n3 + 1, c3 := c' } M ∧ KeepI w w' g ∧ Below g w w' := by
  refine ⟨⟨hB, own_turned h.st ht (diff (by decide) h.st h.lnk) (by omega), h.st2, own_turned h.pt ht (diff (by decide) h.pt h.lnk) h.gp, own_turned h.sec ht (diff (by decide) h.sec h.lnk) (by omega), hO, own_turned h.tr ht (diff (by decide) h.tr h.lnk) (by omega), h.tr2,
    own_turned h.bw ht (diff (by decide) h.bw h.lnk) h.gp, h.rl, fun i a l ha hl => ?_, h.gp, Nat.le_trans h.pz (turned_size ht), h.gt, Nat.le_trans h.tz (turned_size ht)⟩, fun base v n l hb ho => own_turned ho ht (diff (by decide) ho h.lnk) hb, turned_below ht (Nat.le_of_lt h.blk.lt) (fun b hb => by have := (h.lnk.2.lt b hb).1; omega)⟩
  obtain ⟨o, lt⟩ := h.rows i a l ha hl
  exact ⟨own_turned o ht (diff (by decide) o h.lnk) (by omega), lt⟩
theorem Bd.point (h : Bd w g top ptop L TL TS V M) {x : Bs} {A' : Option Addr} {c' : Nat}
    (hB : Blk7 w' g (.slice V.A0 V.n0 V.c0) (.slice A' (V.n1 + 1) c') (.slice V.A2 V.n2 V.c2) (.slice V.A3 V.n3 V.c3) (.slice V.A4 V.n4 V.c4) (.slice V.A5 V.n5 V.c5))
    (hO : Own sR w' ptop (.slice A' (V.n1 + 1) c') (V.n1 + 1) (L.points ++ [x])) (ht : Turned w w' g (.slice V.A1 V.n1 V.c1)) :
    Bd w' g top ptop { L with points := L.points ++ [x] } TL TS { V with A1 := A', n1 := V.n1 + 1, c1 := c' } M ∧ KeepI w w' g ∧ Below g w w' := by
  refine ⟨⟨hB, own_turned h.st ht (apart (R := sR) (L := L.stations) (b1 := 0) (n := 0) h.st2 h.pt (Nat.le_refl _)) (by omega), h.st2, hO, own_turned h.sec ht (diff (by decide) h.sec h.pt) (by omega), own_turned h.lnk ht (diff (by decide) h.lnk h.pt) (by omega), own_turned h.tr ht (diff (by decide) h.tr h.pt) (by omega), h.tr2,
    own_turned h.bw ht (diff (by decide) h.bw h.pt) h.gp, h.rl, fun i a l ha hl => ?_, h.gp, Nat.le_trans h.pz (turned_size ht), h.gt, Nat.le_trans h.tz (turned_size ht)⟩, fun base v n l hb ho => own_turned ho ht (diff (by decide) ho h.pt) hb, turned_below ht (Nat.le_of_lt h.blk.lt) (fun b hb => by have := (h.pt.2.lt b hb).1; have := h.gp; omega)⟩
  obtain ⟨o, lt⟩ := h.rows i a l ha hl
  exact ⟨own_turned o ht (diff (by decide) o h.pt) (by omega), lt⟩
/-- what else may change: a block before the builder, or the row of numbers that is being made -/
theorem Bd.grown {row : Option Nat} (h : Bd w g top ptop L TL TS V M) (hg : w.grownBy w' row) (hr : ∀ b, row = some b → b < g ∨ ∃ v n l, v.ownBlock = some b ∧ Own iR w top v n l) : Bd w' g top ptop L TL TS V M := by
  have hne : ∀ {α : Type} {R : Rec α} {base n : Nat} {v : Value} {l : List α}, R.e ≠ iR.e → Own R w base v n l → g < base → v.ownBlock = none ∨ v.ownBlock ≠ row := by
    intro α R base n v l he ho hb
    cases hv : v.ownBlock with
    | none => exact .inl rfl
    | some b =>
      refine .inr (fun e => ?_)
      rcases hr b e.symm with h1 | ⟨u, m, k, hu, ou⟩
      · have := (ho.2.lt b hv).1; omega
      · exact ne_row he ho ou hu hv
  have hgr : some g ≠ row := fun e => by
    rcases hr g e.symm with h1 | ⟨u, m, k, hu, ou⟩
    · omega
    · have := (ou.2.lt g hu).1; have := h.gt; omega
  refine ⟨h.blk.same (hg.block g h.blk.lt hgr), h.st.grown hg (hne (by decide) h.st (by omega)), h.st2, h.pt.grown hg (hne (by decide) h.pt h.gp), h.sec.grown hg (hne (by decide) h.sec (by omega)), h.lnk.grown hg (hne (by decide) h.lnk (by omega)), h.tr.grown hg (hne (by decide) h.tr (by omega)), h.tr2,
    h.bw.grown hg (hne (by decide) h.bw h.gp), h.rl, fun i a l ha hl => ?_, h.gp, Nat.le_trans h.pz hg.size, h.gt, Nat.le_trans h.tz hg.size⟩
  obtain ⟨o, lt⟩ := h.rows i a l ha hl
  refine ⟨o.grown hg ?_, lt⟩
  cases hv : (Value.slice a.1 a.2.1 a.2.2).ownBlock with
  | none => exact .inl rfl
  | some b =>
    refine .inr (fun e => ?_)
    rcases hr b e.symm with h1 | ⟨u, m, k, hu, ou⟩
    · have := (o.2.lt b hv).1; omega
    · have := (ou.2.lt b hu).1; have := lt b hv; omega
end
end Go.Proofs.YtnfelcjpjodjhaaGreat.St

namespace Go.Proofs.YtnfelcjpjodjhaaGreat.Fan
open Go.ChangeShapes Go.WideShapes Go.ChangeAt Go.RowKit Wd Small Mem Lay LayT LayG Recs Dec PNames PSecs PEnds RNames Src PHops Bld Bldr St
set_option linter.unusedVariables false

/-- the shape of a layout -/
def skOf (L : Lay) : Skel := ⟨L.stations, L.points, L.sections.map (fun s => (s.name, s.st)), L.links⟩
/-- what a call leaves that has put points and links to the builder -/
def FanPost (K : Skel) (g top ptop : Nat) (L : Lay) (TL : List (Option Addr × Nat × Nat)) (TS : List (List Int)) (M : List (Option Addr × Nat × Nat)) (k : Nat) (w : World) (e : Ending) (w' : World) : Prop :=
  e = .returned (.tuple #[]) ∧ ∃ L' V', Bd w' g top ptop L' TL TS V' M ∧ skOf L' = K ∧ L'.sections = L.sections ∧ L'.points.length ≤ L.points.length + 1 ∧ L'.links.length = L.links.length + k ∧ KeepI w w' g ∧ Below g w w'
theorem fan_step {x : Int} {east : Bool} {p : Int} {j : Nat} {T : List Int} {t : Int} {K : Skel} (h : T[j]? = some t) :
    fanLoop x east p j (T.drop j) K = fanLoop x east p ((j + 1 : Nat) : Int) (T.drop (j + 1)) (if east then addLink K x t p j else addLink K t x p j) := by
  have hj : j < T.length := (List.getElem?_eq_some_iff.1 h).1
  rw [List.drop_eq_getElem_cons hj]
  have e : T[j] = t := (List.getElem?_eq_some_iff.1 h).2
  rw [e]
  rfl
theorem fan_end {x : Int} {east : Bool} {p : Int} {j : Nat} {T : List Int} {K : Skel} (h : T.length ≤ j) : fanLoop x east p j (T.drop j) K = K := by
  rw [List.drop_eq_nil_of_le h]; rfl
theorem sk_link (L : Lay) (x : Lnk) : skOf { L with links := L.links ++ [x] } = { skOf L with links := (skOf L).links ++ [x] } := rfl
theorem sk_point (L : Lay) (x : Bs) : skOf { L with points := L.points ++ [x] } = { skOf L with points := (skOf L).points ++ [x] } := rfl

set_option maxRecDepth 100000 in
set_option maxHeartbeats 1000000 in
theorem fan_any (g top ptop : Nat) (L : Lay) (TL M : List (Option Addr × Nat × Nat)) (TS : List (List Int)) (V : V6) (x : Int) (T : List Int) (A : Option Addr) (n c baseT : Nat) (east : Bool) (w : World)
    (hB : Bd w g top ptop L TL TS V M) (hT : Own iR w baseT (.slice A n c) n T) (hbT : g < baseT) (hn : n ≤ 100) (hp : L.points.length ≤ 1000) (hl : L.links.length ≤ 1000) :
    Calls Tryz.prog 48 #[.pointer (some ⟨g, 0, none⟩), .int .i64 x, .slice A n c, .bool east] w (FanPost (fan x T east (skOf L)) g top ptop L TL TS M n w) := by
  have hTn := hT.1
  have HT := Lib.hid hT
  have HBd := Lib.hid hB
  clear hT hB
  go_enter Tryz.func48, Tryz.ntmps48
  by_cases h1 : 1 < n
  · have hg1 : (1 : Int) < (n : Int) := by omega
    have HF : Hid (fanLoop x east L.points.length (0 : Nat) (T.drop 0) { skOf L with points := (skOf L).points ++ [nm [80] L.points.length] } = fan x T east (skOf L)) := by
      rw [Hid]; unfold fan; rw [if_pos (by omega)]; rfl
    have hpn : L.points.length = V.n1 := HBd.out.pt.1
    go_wp2_with fail
    refine (add_point g ptop V.n1 V.c1 V.A1 _ _ _ _ _ L.points w HBd.out.blk HBd.out.pt HBd.out.gp HBd.out.pz (by omega)).mono ?_
    rintro e w1 ⟨A', c', rfl, hB1, hO1, ht1⟩
    obtain ⟨hbd, hk, hbw⟩ := HBd.out.point hB1 hO1 ht1
    rw [hpn] at HF
    obtain ⟨L1, hL1⟩ : ∃ L1, { L with points := L.points ++ [nm [80] V.n1] } = L1 := ⟨_, rfl⟩
    obtain ⟨V1, hV1⟩ : ∃ V1, { V with A1 := A', n1 := V.n1 + 1, c1 := c' } = V1 := ⟨_, rfl⟩
    have HB1 : Hid (Bd w1 g top ptop L1 TL TS V1 M) := by rw [Hid, ← hL1, ← hV1]; exact hbd
    have HK1 := Lib.hid hk
    have HW1 := Lib.hid hbw
    have HS1 : Hid (L1.sections = L.sections) := by rw [Hid, ← hL1]
    have HPn : Hid (L1.points.length ≤ L.points.length + 1) := by rw [Hid, ← hL1]; simp
    have HLn : Hid (L1.links.length = L.links.length + 0) := by rw [Hid, ← hL1]; rfl
    have hsk : { skOf L with points := (skOf L).points ++ [nm [80] (V.n1 : Int)] } = skOf L1 := by rw [← hL1]; rfl
    rw [hsk] at HF
    clear hB1 hO1 ht1 hbd hk hbw hL1 hV1 hsk hpn
    go_wp2_with fail
    go_loopw [17, 9] (fun i _ wr => ∃ (j : Nat) (L2 : Lay) (V2 : V6), j ≤ n ∧ i = .int .i64 j ∧ Bd wr g top ptop L2 TL TS V2 M ∧ KeepI w wr g ∧ Below g w wr ∧ L2.sections = L.sections ∧ L2.points.length ≤ L.points.length + 1 ∧ L2.links.length = L.links.length + j ∧ Hid (fanLoop x east ((V.n1 : Int)) j (T.drop j) (skOf L2) = fan x T east (skOf L))) (fun i _ _ => n - (intOf i).toNat)
    case atStart => exact ⟨0, L1, V1, Nat.zero_le _, rfl, HB1.out, HK1.out, HW1.out, HS1.out, HPn.out, HLn.out, HF⟩
    case round =>
      obtain ⟨j, L2, V2, hj, rfl, hbd2, hk2, hbw2, hs2, hp2, hl2, HF2⟩ := hrel
      have HB2 := Lib.hid hbd2
      have HK2 := Lib.hid hk2
      have HW2 := Lib.hid hbw2
      have HS2 := Lib.hid hs2
      have hgs := hbd2.gt
      have htz := hbd2.tz
      have hln : L2.links.length = V2.n3 := hbd2.lnk.1
      have hT2 := hk2 _ _ _ _ hbT HT.out
      clear HF HB1 HK1 HW1 HS1 HPn HLn hbd2 hk2 hbw2 hs2
      by_cases hlt : j < n
      · obtain ⟨ad, t, rfl, hab, ht, e0⟩ := loadI hT2.rd hlt
        have HN := Lib.hid (fan_step (x := x) (east := east) (p := (V.n1 : Int)) (K := skOf L2) ht)
        have hjn : (j : Int) < (n : Int) := by omega
        clear hT2 ht
        cases heast : east with
        | true =>
          subst heast
          go_wp2_with fail
          refine (add_link g (g + 1) V2.n3 V2.c3 V2.A3 _ _ _ _ _ L2.links x t ((V.n1 : Int)) j wr HB2.out.blk HB2.out.lnk (by omega) (by omega) (by omega)).mono ?_
          rintro e w3 ⟨A', c', rfl, hB3, hO3, ht3⟩
          obtain ⟨hbd3, hk3, hbw3⟩ := HB2.out.link hB3 hO3 ht3
          have HB3 := Lib.hid hbd3
          have HK3 := Lib.hid (HK2.out.trans hk3)
          have HW3 := Lib.hid (HW2.out.trans hbw3)
          have HF3 := HN.out.symm.trans HF2.out
          simp only [if_true] at HF3
          have HF4 := Lib.hid HF3
          clear hB3 hO3 ht3 hbd3 hk3 hbw3 HF2 HN HF3 e0
          go_wp2_with fail
          go_roundw
          case rel => exact ⟨j + 1, _, _, by omega, by go_num, HB3.out, HK3.out, HW3.out, HS2.out, hp2, by simp; omega, HF4⟩
          case measure => simp [intOf]; omega
        | false =>
          subst heast
          go_wp2_with fail
          refine (add_link g (g + 1) V2.n3 V2.c3 V2.A3 _ _ _ _ _ L2.links t x ((V.n1 : Int)) j wr HB2.out.blk HB2.out.lnk (by omega) (by omega) (by omega)).mono ?_
          rintro e w3 ⟨A', c', rfl, hB3, hO3, ht3⟩
          obtain ⟨hbd3, hk3, hbw3⟩ := HB2.out.link hB3 hO3 ht3
          have HB3 := Lib.hid hbd3
          have HK3 := Lib.hid (HK2.out.trans hk3)
          have HW3 := Lib.hid (HW2.out.trans hbw3)
          have HF3 := HN.out.symm.trans HF2.out
          simp only [Bool.false_eq_true, if_false] at HF3
          have HF4 := Lib.hid HF3
          clear hB3 hO3 ht3 hbd3 hk3 hbw3 HF2 HN HF3 e0
          go_wp2_with fail
          go_roundw
          case rel => exact ⟨j + 1, _, _, by omega, by go_num, HB3.out, HK3.out, HW3.out, HS2.out, hp2, by simp; omega, HF4⟩
          case measure => simp [intOf]; omega
      · obtain rfl : j = n := by omega
        have hF := HF2.out
        rw [fan_end (by omega)] at hF
        have HF3 := Lib.hid hF
        clear hF HF2 hT2
        go_wp2_with fail
        go_end0
        exact ⟨rfl, L2, V2, HB2.out, HF3.out, HS2.out, hp2, hl2, HK2.out, HW2.out⟩
  · have HF : Hid (fanLoop x east (-1) (0 : Nat) (T.drop 0) (skOf L) = fan x T east (skOf L)) := by
      rw [Hid]; unfold fan; rw [if_neg (by omega)]; rfl
    obtain ⟨L1, hL1⟩ : ∃ L1, L = L1 := ⟨_, rfl⟩
    obtain ⟨V1, hV1⟩ : ∃ V1, V = V1 := ⟨_, rfl⟩
    have HB1 : Hid (Bd w g top ptop L1 TL TS V1 M) := by rw [Hid, ← hL1, ← hV1]; exact HBd.out
    have HK1 := Lib.hid (KeepI.refl w g)
    have HW1 := Lib.hid (Below.refl g w)
    have HS1 : Hid (L1.sections = L.sections) := by rw [Hid, ← hL1]
    have HPn : Hid (L1.points.length ≤ L.points.length + 1) := by rw [Hid, ← hL1]; omega
    have HLn : Hid (L1.links.length = L.links.length + 0) := by rw [Hid, ← hL1]; rfl
    have HF0 : Hid (fanLoop x east (-1) (0 : Nat) (T.drop 0) (skOf L1) = fan x T east (skOf L)) := by rw [Hid, ← hL1]; exact HF.out
    clear HF hL1 hV1
    have HF := HF0
    go_wp2_with fail
    go_loopw [17, 9] (fun i _ wr => ∃ (j : Nat) (L2 : Lay) (V2 : V6), j ≤ n ∧ i = .int .i64 j ∧ Bd wr g top ptop L2 TL TS V2 M ∧ KeepI w wr g ∧ Below g w wr ∧ L2.sections = L.sections ∧ L2.points.length ≤ L.points.length + 1 ∧ L2.links.length = L.links.length + j ∧ Hid (fanLoop x east ((-1)) j (T.drop j) (skOf L2) = fan x T east (skOf L))) (fun i _ _ => n - (intOf i).toNat)
    case atStart => exact ⟨0, L1, V1, Nat.zero_le _, rfl, HB1.out, HK1.out, HW1.out, HS1.out, HPn.out, HLn.out, HF⟩
    case round =>
      obtain ⟨j, L2, V2, hj, rfl, hbd2, hk2, hbw2, hs2, hp2, hl2, HF2⟩ := hrel
      have HB2 := Lib.hid hbd2
      have HK2 := Lib.hid hk2
      have HW2 := Lib.hid hbw2
      have HS2 := Lib.hid hs2
      have hgs := hbd2.gt
      have htz := hbd2.tz
      have hln : L2.links.length = V2.n3 := hbd2.lnk.1
      have hT2 := hk2 _ _ _ _ hbT HT.out
      clear HF HB1 HK1 HW1 HS1 HPn HLn hbd2 hk2 hbw2 hs2
      by_cases hlt : j < n
      · obtain ⟨ad, t, rfl, hab, ht, e0⟩ := loadI hT2.rd hlt
        have HN := Lib.hid (fan_step (x := x) (east := east) (p := (-1)) (K := skOf L2) ht)
        have hjn : (j : Int) < (n : Int) := by omega
        clear hT2 ht
        cases heast : east with
        | true =>
          subst heast
          go_wp2_with fail
          refine (add_link g (g + 1) V2.n3 V2.c3 V2.A3 _ _ _ _ _ L2.links x t ((-1)) j wr HB2.out.blk HB2.out.lnk (by omega) (by omega) (by omega)).mono ?_
          rintro e w3 ⟨A', c', rfl, hB3, hO3, ht3⟩
          obtain ⟨hbd3, hk3, hbw3⟩ := HB2.out.link hB3 hO3 ht3
          have HB3 := Lib.hid hbd3
          have HK3 := Lib.hid (HK2.out.trans hk3)
          have HW3 := Lib.hid (HW2.out.trans hbw3)
          have HF3 := HN.out.symm.trans HF2.out
          simp only [if_true] at HF3
          have HF4 := Lib.hid HF3
          clear hB3 hO3 ht3 hbd3 hk3 hbw3 HF2 HN HF3 e0
          go_wp2_with fail
          go_roundw
          case rel => exact ⟨j + 1, _, _, by omega, by go_num, HB3.out, HK3.out, HW3.out, HS2.out, hp2, by simp; omega, HF4⟩
          case measure => simp [intOf]; omega
        | false =>
          subst heast
          go_wp2_with fail
          refine (add_link g (g + 1) V2.n3 V2.c3 V2.A3 _ _ _ _ _ L2.links t x ((-1)) j wr HB2.out.blk HB2.out.lnk (by omega) (by omega) (by omega)).mono ?_
          rintro e w3 ⟨A', c', rfl, hB3, hO3, ht3⟩
          obtain ⟨hbd3, hk3, hbw3⟩ := HB2.out.link hB3 hO3 ht3
          have HB3 := Lib.hid hbd3
          have HK3 := Lib.hid (HK2.out.trans hk3)
          have HW3 := Lib.hid (HW2.out.trans hbw3)
          have HF3 := HN.out.symm.trans HF2.out
          simp only [Bool.false_eq_true, if_false] at HF3
          have HF4 := Lib.hid HF3
          clear hB3 hO3 ht3 hbd3 hk3 hbw3 HF2 HN HF3 e0
          go_wp2_with fail
          go_roundw
          case rel => exact ⟨j + 1, _, _, by omega, by go_num, HB3.out, HK3.out, HW3.out, HS2.out, hp2, by simp; omega, HF4⟩
          case measure => simp [intOf]; omega
      · obtain rfl : j = n := by omega
        have hF := HF2.out
        rw [fan_end (by omega)] at hF
        have HF3 := Lib.hid hF
        clear hF HF2 hT2
        go_wp2_with fail
        go_end0
        exact ⟨rfl, L2, V2, HB2.out, HF3.out, HS2.out, hp2, hl2, HK2.out, HW2.out⟩
end Go.Proofs.YtnfelcjpjodjhaaGreat.Fan

namespace Go.Proofs.YtnfelcjpjodjhaaGreat.RowA
open Go.ChangeShapes Go.WideShapes Go.ChangeAt Go.RowKit Wd Small Mem Lay LayT LayG Recs Dec PNames PSecs PEnds RNames Src PHops Bld Bldr St Fan
set_option linter.unusedVariables false

/-- no points and no sections in between yet -/
def Bare (V : V6) : Prop := V.A1 = none ∧ V.n1 = 0 ∧ V.c1 = 0 ∧ V.A5 = none ∧ V.n5 = 0 ∧ V.c5 = 0
section
variable {w w' : World} {g top ptop : Nat} {L : Lay} {TL M : List (Option Addr × Nat × Nat)} {TS : List (List Int)} {V : V6}
theorem own_lt {α : Type} {R : Rec α} {base n : Nat} {v : Value} {l : List α} (h : Own R w base v n l) : ∀ b, v.ownBlock = some b → b < w.heap.size := fun b hb => (h.2.lt b hb).2
theorem own_zero {α : Type} {R : Rec α} {base : Nat} {l : List α} (h : Own R w base (.slice none 0 0) 0 l) (base' : Nat) (W : World) : Own R W base' (.slice none 0 0) 0 l := by
  have := h.1
  obtain rfl : l = [] := List.length_eq_zero_iff.1 this
  exact Own.nil _ _
theorem Bd.keepsI (h : Bd w g top ptop L TL TS V M) {u : Value} (ht : Turned w w' g u) (hne : ∀ {base n : Nat} {v : Value} {l : List Int}, Own iR w base v n l → ∀ b, v.ownBlock = some b → u.ownBlock ≠ some b) : KeepI w w' g :=
  fun base v n l hb ho => own_turned ho ht (hne ho) hb
theorem Bd.station (h : Bd w g top ptop L TL TS V M) (hz : Bare V) {x : Bs} {A' : Option Addr} {c' : Nat}
    (hB : Blk7 w' g (.slice A' (V.n0 + 1) c') (.slice V.A1 V.n1 V.c1) (.slice V.A2 V.n2 V.c2) (.slice V.A3 V.n3 V.c3) (.slice V.A4 V.n4 V.c4) (.slice V.A5 V.n5 V.c5))
    (hO : Own sR w' (g + 1) (.slice A' (V.n0 + 1) c') (V.n0 + 1) (L.stations ++ [x])) (ht : Turned w w' g (.slice V.A0 V.n0 V.c0)) :
    Bd w' g top w'.heap.size { L with stations := L.stations ++ [x] } TL TS { V with A0 := A', n0 := V.n0 + 1, c0 := c' } M ∧ Below g w w' := by
  obtain ⟨z1, z2, z3, z4, z5, z6⟩ := hz
  have hp := h.pt
  have hb := h.bw
  rw [z1, z2, z3] at hp
  rw [z4, z5, z6] at hb
  have hs := turned_size ht
  have htr := own_turned h.tr ht (diff (by decide) h.tr h.st) (by omega)
  refine ⟨⟨hB, hO, own_lt hO, by rw [z1, z2, z3]; exact own_zero hp _ _, own_turned h.sec ht (diff (by decide) h.sec h.st) (by omega), own_turned h.lnk ht (diff (by decide) h.lnk h.st) (by omega), htr, own_lt htr,
    by rw [z4, z5, z6]; exact own_zero hb _ _, h.rl, fun i a l ha hl => ?_, by have := h.blk.lt; omega, Nat.le_refl _, h.gt, Nat.le_trans h.tz hs⟩, turned_below ht (Nat.le_of_lt h.blk.lt) (fun b hb => by have := (h.st.2.lt b hb).1; omega)⟩
  obtain ⟨o, lt⟩ := h.rows i a l ha hl
  exact ⟨own_turned o ht (diff (by decide) o h.st) (by omega), lt⟩
theorem Bd.raise (h : Bd w g top ptop L TL TS V M) {top' : Nat} (h1 : top ≤ top') (h2 : top' ≤ w.heap.size) : Bd w g top' ptop L TL TS V M :=
  ⟨h.blk, h.st, h.st2, h.pt, h.sec, h.lnk, h.tr, h.tr2, h.bw, h.rl, fun i a l ha hl => ⟨(h.rows i a l ha hl).1, fun b hb => Nat.lt_of_lt_of_le ((h.rows i a l ha hl).2 b hb) h1⟩, h.gp, h.pz, Nat.lt_of_lt_of_le h.gt h1, h2⟩
theorem Bd.track (h : Bd w g top ptop L TL TS V M) (hz : Bare V) {a : Option Addr × Nat × Nat} {l : List Int} {A' : Option Addr} {c' : Nat} (ha : Own iR w top (.slice a.1 a.2.1 a.2.2) a.2.1 l)
    (hB : Blk7 w' g (.slice V.A0 V.n0 V.c0) (.slice V.A1 V.n1 V.c1) (.slice V.A2 V.n2 V.c2) (.slice V.A3 V.n3 V.c3) (.slice A' (V.n4 + 1) c') (.slice V.A5 V.n5 V.c5))
    (hO : Own tR w' (g + 1) (.slice A' (V.n4 + 1) c') (V.n4 + 1) (TL ++ [a])) (ht : Turned w w' g (.slice V.A4 V.n4 V.c4)) :
    Bd w' g w'.heap.size w'.heap.size L (TL ++ [a]) (TS ++ [l]) { V with A4 := A', n4 := V.n4 + 1, c4 := c' } M ∧ Below g w w' := by
  obtain ⟨z1, z2, z3, z4, z5, z6⟩ := hz
  have hp := h.pt
  have hb := h.bw
  rw [z1, z2, z3] at hp
  rw [z4, z5, z6] at hb
  have hs := turned_size ht
  have hst := own_turned h.st ht (diff (by decide) h.st h.tr) (by omega)
  refine ⟨⟨hB, hst, own_lt hst, by rw [z1, z2, z3]; exact own_zero hp _ _, own_turned h.sec ht (diff (by decide) h.sec h.tr) (by omega), own_turned h.lnk ht (diff (by decide) h.lnk h.tr) (by omega), hO, own_lt hO,
    by rw [z4, z5, z6]; exact own_zero hb _ _, by simp [h.rl], fun i b k hb hk => ?_, by have := h.blk.lt; omega, Nat.le_refl _, by have := h.blk.lt; omega, Nat.le_refl _⟩, turned_below ht (Nat.le_of_lt h.blk.lt) (fun b hb => by have := (h.tr.2.lt b hb).1; omega)⟩
  by_cases hi : i < TL.length
  · rw [List.getElem?_append_left hi] at hb
    rw [List.getElem?_append_left (by rw [← h.rl]; exact hi)] at hk
    obtain ⟨o, lt⟩ := h.rows i b k hb hk
    have o' := own_turned o ht (diff (by decide) o h.tr) (by omega)
    exact ⟨o', own_lt o'⟩
  · rw [List.getElem?_append_right (by omega)] at hb
    rw [List.getElem?_append_right (by rw [← h.rl]; omega)] at hk
    have hi0 : i - TL.length = 0 := by
      have := (List.getElem?_eq_some_iff.1 hb).1
      simp at this; omega
    rw [hi0] at hb
    rw [← h.rl, hi0] at hk
    simp at hb hk
    subst hb hk
    have o' := own_turned (ha.base_ (show g + 1 ≤ top by have := h.gt; omega)) ht (diff (by decide) ha h.tr) (by omega)
    exact ⟨o', own_lt o'⟩
theorem Bd.betw (h : Bd w g top ptop L TL TS V M) {a : Option Addr × Nat × Nat} {A' : Option Addr} {c' : Nat}
    (hB : Blk7 w' g (.slice V.A0 V.n0 V.c0) (.slice V.A1 V.n1 V.c1) (.slice V.A2 V.n2 V.c2) (.slice V.A3 V.n3 V.c3) (.slice V.A4 V.n4 V.c4) (.slice A' (V.n5 + 1) c'))
    (hO : Own tR w' ptop (.slice A' (V.n5 + 1) c') (V.n5 + 1) (M ++ [a])) (ht : Turned w w' g (.slice V.A5 V.n5 V.c5)) :
    Bd w' g top ptop L TL TS { V with A5 := A', n5 := V.n5 + 1, c5 := c' } (M ++ [a]) ∧ KeepI w w' g ∧ Below g w w' := by
  have hs := turned_size ht
  refine ⟨⟨hB, own_turned h.st ht (diff (by decide) h.st h.bw) (by omega), h.st2, own_turned h.pt ht (diff (by decide) h.pt h.bw) h.gp, own_turned h.sec ht (diff (by decide) h.sec h.bw) (by omega), own_turned h.lnk ht (diff (by decide) h.lnk h.bw) (by omega), own_turned h.tr ht (apart (R := tR) (L := TL) (b1 := 0) (n := 0) h.tr2 h.bw (Nat.le_refl _)) (by omega), h.tr2,
    hO, h.rl, fun i b k hb hk => ?_, h.gp, Nat.le_trans h.pz hs, h.gt, Nat.le_trans h.tz hs⟩, fun base v n l hb ho => own_turned ho ht (diff (by decide) ho h.bw) hb, turned_below ht (Nat.le_of_lt h.blk.lt) (fun b hb => by have := (h.bw.2.lt b hb).1; have := h.gp; omega)⟩
  obtain ⟨o, lt⟩ := h.rows i b k hb hk
  exact ⟨own_turned o ht (diff (by decide) o h.bw) (by omega), lt⟩
end

/-! ### the shapes, one more at a time -/
theorem stations_snoc (n : Nat) : ∀ (ts : List Nat) (i : Int) (b : Bld), stationsOf i (ts ++ [n]) b = addStation (stationsOf i ts b) (i + ts.length) n
  | [], i, b => by simp [stationsOf]
  | t :: r, i, b => by
    simp only [List.cons_append, stationsOf, List.length_cons]
    rw [stations_snoc n r (i + 1) _, show i + 1 + (r.length : Int) = i + ((r.length + 1 : Nat) : Int) by omega]
theorem between_snoc (n : Nat) : ∀ (ts : List Nat) (i : Int) (b : Bld), betweensOf i (ts ++ [n]) b = addBetween (betweensOf i ts b) (i + ts.length) n
  | [], i, b => by simp [betweensOf]
  | t :: r, i, b => by
    simp only [List.cons_append, betweensOf, List.length_cons]
    rw [between_snoc n r (i + 1) _, show i + 1 + (r.length : Int) = i + ((r.length + 1 : Nat) : Int) by omega]
theorem sk_sec (L : Lay) (x : Sec) : skOf { L with sections := L.sections ++ [x] } = addSec (skOf L) (x.name, x.st) := by simp [skOf, addSec]
theorem sk_len (L : Lay) : (skOf L).secs.length = L.sections.length := by simp [skOf]
end Go.Proofs.YtnfelcjpjodjhaaGreat.RowA

namespace Go.Proofs.YtnfelcjpjodjhaaGreat.Row
open Go.ChangeShapes Go.WideShapes Go.ChangeAt Go.RowKit Wd Small Mem Lay LayT LayG Recs Dec PNames PSecs PEnds RNames Src PHops Bld Bldr St Fan RowA
set_option linter.unusedVariables false

/-- all sections' numbers lie within the limits -/
def Nums (L : Lay) : Prop := ∀ s ∈ L.sections, numsOK s
theorem Nums.add {L : Lay} {x : Sec} (h : Nums L) (hx : numsOK x) : Nums { L with sections := L.sections ++ [x] } := by
  intro s hs
  simp only [List.mem_append, List.mem_singleton] at hs
  rcases hs with hs | rfl
  · exact h s hs
  · exact hx
/-- what the first loop keeps: i stations are made -/
structure One (w : World) (g : Nat) (i : Nat) (ts : List Nat) (L : Lay) (TS : List (List Int)) (V : V6) : Prop where
  bare : Bare V
  bd : ∃ top ptop TL, Bd w g top ptop L TL TS V []
  len : ts.length = i
  cnt : ∀ x ∈ ts, x = 1 ∨ x = 2
  sk : stationsOf 0 ts LayG.start = ⟨skOf L, TS, []⟩
  num : Nums L
  few : L.sections.length ≤ 2 * i
  stn : L.stations.length = i
  lnk : L.links = []
  trk : TS.length = i
  wid : ∀ t ∈ TS, 1 ≤ t.length ∧ t.length ≤ 2
/-- what the second loop keeps: p rows of sections in between are made -/
structure Thr (w : World) (g : Nat) (p : Nat) (ts ms : List Nat) (L : Lay) (TS : List (List Int)) (V : V6) : Prop where
  bd : ∃ top ptop TL M, Bd w g top ptop L TL TS V M ∧ M.length ≤ p
  len : ms.length = p
  cnt : ∀ x ∈ ms, x = 1 ∨ x = 2
  sk : ∃ bt, betweensOf 0 ms (stationsOf 0 ts LayG.start) = ⟨skOf L, TS, bt⟩
  num : Nums L
  few : L.sections.length ≤ 6 + 2 * p
  fewp : L.points.length ≤ 2 * p
  fewl : L.links.length ≤ 10 * p
theorem chain_step {a b : Int} {q : Nat} {T : List Int} {K : Skel} (h : T[q]? = some a) (h2 : T[q + 1]? = some b) : chain (T.drop q) K = chain (T.drop (q + 1)) (addLink K a b (-1) 0) := by
  have hq : q < T.length := (List.getElem?_eq_some_iff.1 h).1
  have hq2 : q + 1 < T.length := (List.getElem?_eq_some_iff.1 h2).1
  rw [List.drop_eq_getElem_cons hq, List.drop_eq_getElem_cons hq2]
  rw [(List.getElem?_eq_some_iff.1 h).2, (List.getElem?_eq_some_iff.1 h2).2]
  rfl
theorem chain_end {q : Nat} {T : List Int} {K : Skel} (h : T.length ≤ q + 1) : chain (T.drop q) K = K := by
  match hd : T.drop q with
  | [] => rfl
  | [_] => rfl
  | _ :: _ :: _ => have := congrArg List.length hd; simp at this; omega
theorem between_next (ms : List Nat) (b0 : LayG.Bld) {K2 K3 K4 K5 K6 : Skel} {TS bt : List (List Int)} {tl T0 T1 : List Int} {p k1 : Nat} {x0 xl : Int} (hsk : betweensOf 0 ms b0 = ⟨K2, TS, bt⟩) (len : ms.length = p) (hR : addLoop (nm [76] p) (-1) k1 K2 [] = (K3, tl))
    (hC : K4 = chain tl K3) (h0 : tl[0]? = some x0) (hl : tl[tl.length - 1]? = some xl) (t0 : TS[p]? = some T0) (t1 : TS[p + 1]? = some T1) (h5 : K5 = fan x0 T0 false K4) (h6 : K6 = fan xl T1 true K5) : betweensOf 0 (ms ++ [k1]) b0 = ⟨K6, TS, bt ++ [tl]⟩ := by
  have e0 : tl.headD 0 = x0 := by cases tl with
    | nil => simp at h0
    | cons a r => simpa using h0
  have el : tl.getLastD 0 = xl := by rw [← List.getLast?_eq_getElem?] at hl; rw [List.getLastD_eq_getLast?, hl]; rfl
  rw [between_snoc, hsk, len]
  unfold addBetween
  simp only [Int.zero_add, hR, Int.toNat_natCast, t0, t1, Option.getD_some, e0, el, ← hC, ← h5, ← h6]
theorem loadT {w : World} {B n : Nat} {A : Option Addr} {L : List (Option Addr × Nat × Nat)} {i : Nat} (h : Rd tR w B A n L) (hi : i < n) : ∃ ad s, A = some ad ∧ ad.block < B ∧ L[i]? = some s ∧ w.cell? (ad.add i) = some (.slice s.1 s.2.1 s.2.2) := by
  obtain ⟨ad, a, e1, hb, e, hc⟩ := h.at_ hi
  refine ⟨ad, a, e1, hb, e, ?_⟩
  have := hc 0 (.slice a.1 a.2.1 a.2.2) rfl
  rw [show i * tR.k + 0 = i by show i * 1 + 0 = i; omega] at this
  exact this
/-- the element at i of a row of the call's own, and where the row begins -/
theorem rowI {w : World} {base n c : Nat} {A : Option Addr} {L : List Int} {i : Nat} (h : Own iR w base (.slice A n c) n L) (hi : i < n) : ∃ b x, A = some ⟨b, 0, none⟩ ∧ L[i]? = some x ∧ w.cell? ⟨b, i, none⟩ = some (.int .i64 x) := by
  obtain ⟨b, hA, _⟩ := h.ne_nil (by omega)
  obtain ⟨ad, x, e, _, hx, hc⟩ := loadI h.rd hi
  rw [hA] at e
  cases e
  exact ⟨b, x, hA, hx, by cases i with
    | zero => simpa [Addr.add] using hc
    | succ i => simpa [Addr.add] using hc⟩
theorem rowT {w : World} {base n c : Nat} {A : Option Addr} {L : List (Option Addr × Nat × Nat)} {i : Nat} (h : Own tR w base (.slice A n c) n L) (hi : i < n) : ∃ b x, A = some ⟨b, 0, none⟩ ∧ L[i]? = some x ∧ w.cell? ⟨b, i, none⟩ = some (.slice x.1 x.2.1 x.2.2) := by
  obtain ⟨b, hA, _⟩ := h.ne_nil (by omega)
  obtain ⟨ad, x, e, _, hx, hc⟩ := loadT h.rd hi
  rw [hA] at e
  cases e
  exact ⟨b, x, hA, hx, by cases i with
    | zero => simpa [Addr.add] using hc
    | succ i => simpa [Addr.add] using hc⟩
/-- a row of tracks: k more are to come, R is how it ends -/
structure Two (w : World) (g top : Nat) (st : Int) (f : Bs) (k : Nat) (A : Option Addr) (n c : Nat) (t : List Int) (L : Lay) (TS : List (List Int)) (V : V6) (M : List (Option Addr × Nat × Nat)) (R : Skel × List Int) (q : Nat) : Prop where
  bd : ∃ ptop TL, Bd w g top ptop L TL TS V M
  own : Own iR w top (.slice A n c) n t
  loop : addLoop f st k (skOf L) t = R
  num : Nums L
  few : L.sections.length + k ≤ q
  nk : n + k ≤ 2
  pos : 1 ≤ n + k
theorem loop_step {f : Bs} {st : Int} {k : Nat} {L : Lay} {t : List Int} {R : Skel × List Int} {x : Sec} (h : addLoop f st (k + 1) (skOf L) t = R) (hn : x.name = nm f ((k : Int) + 1)) (hs : x.st = st) :
    addLoop f st k (skOf { L with sections := L.sections ++ [x] }) (t ++ [(L.sections.length : Int)]) = R := by
  rw [sk_sec, hn, hs, ← sk_len L]
  exact h

/-- what a call leaves that has made a row of stations, given a source in block gs -/
def RowPost (gs : Nat) (w : World) (e : Ending) (w' : World) : Prop := ∃ g top ptop L TL TS V M ts ms, e = .returned (.pointer (some ⟨g, 0, none⟩)) ∧ Bd w' g top ptop L TL TS V M ∧ Nums L ∧ (ts.length = 2 ∨ ts.length = 3) ∧ ms.length + 1 = ts.length ∧ (∀ x ∈ ts, x = 1 ∨ x = 2) ∧ (∀ x ∈ ms, x = 1 ∨ x = 2) ∧ skOf L = (LayG.row ts ms).sk ∧ w.heap.size ≤ g ∧ w.heap.size ≤ w'.heap.size ∧ Below gs w w'
set_option maxRecDepth 100000 in
set_option maxHeartbeats 40000000 in
theorem row_any (gs : Nat) (A : Option Addr) (l c B : Nat) (w : World) (hs : Src w gs A l c 0) (hl : l ≤ 9223372036854775807) (hI : Ints w B A l) (hgB : B ≤ gs) :
    Calls Tryz.prog 27 #[.pointer (some ⟨gs, 0, none⟩)] w (RowPost gs w) := by
  have hgs := hs.lt
  obtain ⟨ihS, hihS, hS0, hS1, hS2⟩ := info_parts infoS
  obtain ⟨ihT, hihT, hT0, hT1, hT2⟩ := info_parts infoT
  obtain ⟨ihI, hihI, hI0, hI1, hI2⟩ := info_parts infoI
  obtain ⟨W, hW⟩ : ∃ W, w.alloc (.cells #[.slice none 0 0, .slice none 0 0, .slice none 0 0, .slice none 0 0, .slice none 0 0, .slice none 0 0, .slice none 0 0] 61) = W := ⟨_, rfl⟩
  have hbW : Below w.heap.size w W := by rw [← hW]; exact (Below.refl _ _).alloc (Nat.le_refl _) _
  have hzW : W.heap.size = w.heap.size + 1 := by rw [← hW]; simp
  have hblk : Blk7 W w.heap.size (.slice none 0 0) (.slice none 0 0) (.slice none 0 0) (.slice none 0 0) (.slice none 0 0) (.slice none 0 0) := by rw [← hW]; exact heap_alloc_new _ _
  have hbd : Bd W w.heap.size W.heap.size W.heap.size ⟨[], [], [], []⟩ [] [] ⟨none, 0, 0, none, 0, 0, none, 0, 0, none, 0, 0, none, 0, 0, none, 0, 0⟩ [] :=
    ⟨hblk, Own.nil _ _, nofun, Own.nil _ _, Own.nil _ _, Own.nil _ _, Own.nil _ _, nofun, Own.nil _ _, rfl, fun i a l ha _ => by simp at ha, by omega, Nat.le_refl _, by omega, Nat.le_refl _⟩
  have HS := Lib.hid (hs.below hbW hgs)
  have HI := Lib.hid (hI.below (hbW.mono (by omega)))
  have HBd := Lib.hid hbd
  have HBW := Lib.hid hbW
  have HZ := Lib.hid hzW
  clear hs hI hbd hblk hbW hzW
  go_enter Tryz.func27, Tryz.ntmps27
  go_upto_region 2 with fail
  try rw [hW]
  clear hW
  go_wp2_with fail
  refine (next_any gs A l c 0 B 2 W HS.out (Nat.zero_le _) hl HI.out hgB (by decide) (by decide)).mono ?_
  rintro e w1 ⟨r0, i0, ra, rb, rfl, hi0, hS1', hg1⟩
  obtain ⟨r, rfl⟩ : ∃ r : Nat, r0 = r := ⟨r0.toNat, by omega⟩
  have hr1 : r ≤ 1 := by omega
  have HB1 := Lib.hid (HBd.out.grown hg1 (fun b hb => by injection hb with hb; omega))
  have HI1 := Lib.hid (HI.out.below (below_only (Below.refl _ _) hg1 (by have := HZ.out; omega) hgB))
  have HS1 := Lib.hid hS1'
  have HW1 := Lib.hid (below_only (B := gs) (HBW.out.mono (by omega)) hg1 (by have := HZ.out; omega) (Nat.le_refl _))
  have HZ1 : Hid (w.heap.size < w1.heap.size) := by rw [Hid]; have := hg1.size; have := HZ.out; omega
  clear ra rb hS1' hg1 HBd HI HS
  go_upto_region 3 with fail
  obtain ⟨n, hn⟩ : ∃ n : Nat, (2 : Int) + r = n := ⟨2 + r, by omega⟩
  try rw [hn]
  have hn23 : n = 2 ∨ n = 3 := by omega
  clear hn
  go_wp2_with fail
  go_loopw [5, 6, 7, 8] (fun i _ _ _ wr => ∃ (j isrc : Nat) (ts : List Nat) (L : Lay) (TS : List (List Int)) (V : V6), j ≤ n ∧ i = .int .i64 j ∧ isrc ≤ l ∧ One wr w.heap.size j ts L TS V ∧ Src wr gs A l c isrc ∧ Ints wr B A l ∧ Below gs w wr) (fun i _ _ _ _ => n - (intOf i).toNat)
  case atStart => exact ⟨0, i0, [], _, _, _, Nat.zero_le _, rfl, hi0, ⟨⟨rfl, rfl, rfl, rfl, rfl, rfl⟩, ⟨_, _, _, HB1.out⟩, rfl, by simp, rfl, by intro s hs; simp at hs, by simp, rfl, rfl, rfl, by simp⟩, HS1.out, HI1.out, HW1.out⟩
  case round =>
    obtain ⟨j, isrc, ts, L, TS, V, hj, rfl, hisrc, hone, hsr, hir, hbr⟩ := hrel
    clear HB1 HI1 HS1 HW1
    by_cases hlt : j < n
    · obtain ⟨bare, ⟨top, ptop, TL, bd⟩, len, cnt, sk, num, few, stn, lnk, trk, wid⟩ := hone
      have HB2 := Lib.hid bd
      have HSr := Lib.hid hsr
      have HIr := Lib.hid hir
      have HWr := Lib.hid hbr
      have HNum := Lib.hid num
      have HSk := Lib.hid sk
      have hjn : (j : Int) < (n : Int) := by omega
      have hgr := bd.blk.lt
      have hst0 := bd.st.1
      have htop := bd.gt
      have htz := bd.tz
      have k0 := bd.blk.c0
      clear bd hsr hir hbr num sk
      go_upto_region 6 with fail
      go_cut [23] (fun v wx => ∃ A' c', v = .pointer (some ⟨w.heap.size, 0, none⟩) ∧ Blk7 wx w.heap.size (.slice A' (V.n0 + 1) c') (.slice V.A1 V.n1 V.c1) (.slice V.A2 V.n2 V.c2) (.slice V.A3 V.n3 V.c3) (.slice V.A4 V.n4 V.c4) (.slice V.A5 V.n5 V.c5) ∧ Own sR wx (w.heap.size + 1) (.slice A' (V.n0 + 1) c') (V.n0 + 1) (L.stations ++ [nm [83] j]) ∧ Turned wr wx w.heap.size (.slice V.A0 V.n0 V.c0))
      case first =>
        have hn63 : V.n0 + 1 ≤ maxLen := by unfold maxLen; omega
        have hby : (V.n0 + 1) * 16 ≤ 140737488355328 := by omega
        go_region_law (first | (refine step_append_lies _ (by rfl) _ _ _ (by rfl) (w.heap.size + 1) 9 ihS _ 1 16 Tryz.underlying22 hihS hS0 hS1 hS2 rfl (by omega) (.slice V.A0 V.n0 V.c0) V.n0 (sR.cs L.stations) (by rfl) (HB2.out.st.2.alloc _) ⟨wr.heap.size, 0, none⟩ 1 1 [.string (str (nm [83] j))] (by rfl) (by rfl) (World.news_of_block (cs := #[.string (str (nm [83] j))]) (t := 9) (fr := (0, 0)) (heap_alloc_new wr _)) (by simp [Value.oneCell']) (by omega) hn63 hby (by simp; omega) (wr.heap.size + 1) (by simp) ?_; intro gg cap w7 hown7 hgrow7 hat7 hlt7; have hgl : ∀ b, (Value.slice V.A0 V.n0 V.c0).ownBlock = some b → w.heap.size + 1 ≤ b := fun b hb => (HB2.out.st.2.lt b hb).1; have hg7 : w7.heap[w.heap.size]? = wr.heap[w.heap.size]? := (hgrow7.block w.heap.size (by simp; omega) (fun e => by have := hgl _ e.symm; omega)).trans (((Below.refl wr.heap.size wr).alloc (Nat.le_refl _) _).block w.heap.size (by omega)); have HB7 := Lib.hid (HB2.out.blk.same hg7); have k7 := HB7.out.c0; have f7 := HB7.out.f 0) | (go_simp; go_at_call 44; refine (named_any [83] j _ (by omega) (by omega) (by decide)).mono ?_; rintro e wq ⟨rfl, rfl⟩))
        all_goals
          have HO7 := Lib.hid (Own.push (R := sR) (a := nm [83] j) HB2.out.st.1 hown7)
          have HT : Hid (Turned wr (w7.setCell ⟨w.heap.size, 0, none⟩ (.slice (some ⟨gg, 0, none⟩) (V.n0 + 1) cap)) w.heap.size (.slice V.A0 V.n0 V.c0)) := ⟨w7, (grown_drew (World.grownBy_alloc wr _ _)).trans hgrow7, grown_set (World.grownBy.refl w7 _) _⟩
          clear hown7 hgrow7 hat7 hlt7 hg7 hgl
          go_wp2_with fail
          go_meet
          exact ⟨_, _, rfl, HB7.out.put0 _, own_set HO7.out (by omega), HT.out⟩
      case rest =>
        obtain ⟨A', c', rfl, hB', hO', ht'⟩ := hcut
        obtain ⟨bd1, hbw1⟩ := RowA.Bd.station HB2.out bare hB' hO' ht'
        have hbare1 : Bare { V with A0 := A', n0 := V.n0 + 1, c0 := c' } := bare
        obtain ⟨V1, hV1⟩ : ∃ V1, { V with A0 := A', n0 := V.n0 + 1, c0 := c' } = V1 := ⟨_, rfl⟩
        obtain ⟨L1, hL1⟩ : ∃ L1, { L with stations := L.stations ++ [nm [83] j] } = L1 := ⟨_, rfl⟩
        rw [hV1] at bd1 hbare1
        rw [hL1] at bd1
        have e1 : L1.stations = L.stations ++ [nm [83] j] := by rw [← hL1]
        have e2 : skOf L1 = { skOf L with stations := (skOf L).stations ++ [nm [83] j] } := by rw [← hL1]; rfl
        have e3 : L1.sections = L.sections := by rw [← hL1]
        have e4 : L1.links = L.links := by rw [← hL1]
        clear hV1 hL1 hB' hO' ht' HB2 k0
        have HS2 := Lib.hid (HSr.out.below hbw1 hgs)
        have HI2 := Lib.hid (HIr.out.below (hbw1.mono (by omega)))
        have HW2 := Lib.hid (HWr.out.trans (hbw1.mono (by omega)))
        clear HSr HIr HWr hbw1
        have HB2 := Lib.hid bd1
        have hgc := bd1.blk.lt
        clear bd1
        go_wp2_with fail
        refine (next_any gs A l c isrc B 2 wc HS2.out hisrc hl HI2.out hgB (by decide) (by decide)).mono ?_
        rintro e w3 ⟨r1, i3, ra, rb, rfl, hi3, hS3', hg3⟩
        obtain ⟨k1, hk1⟩ : ∃ k1 : Nat, (1 : Int) + r1 = k1 := ⟨(1 + r1).toNat, by omega⟩
        have hk12 : k1 = 1 ∨ k1 = 2 := by omega
        have hz3 := hg3.size
        have hb3 := HB2.out.grown hg3 (fun b hb => by injection hb with hb; omega)
        have HB3 := Lib.hid (RowA.Bd.raise hb3 hb3.tz (Nat.le_refl _))
        have HI3 := Lib.hid (HI2.out.below (below_only (Below.refl _ _) hg3 (by omega) hgB))
        have HS3 := Lib.hid hS3'
        have HW3 := Lib.hid (below_only (B := gs) HW2.out hg3 (by omega) (Nat.le_refl _))
        clear hS3' hg3 HB2 HI2 HS2 HW2 hb3
        go_upto_region 9 with fail
        obtain ⟨R, hR⟩ : ∃ R, addLoop (nm [84] j) j k1 (skOf L1) [] = R := ⟨_, rfl⟩
        have HR := Lib.hid hR
        have HN1 : Hid (Nums L1) := by rw [Hid]; intro s hs; rw [e3] at hs; exact HNum.out s hs
        have hq : L1.sections.length ≤ 2 * j := by rw [e3]; exact few
        have htop0 : w.heap.size < w3.heap.size := by omega
        clear hR
        go_loopw [6, 7, 8] (fun t k _ wr => ∃ (kk nn cc i4 : Nat) (At : Option Addr) (tl : List Int) (L2 : Lay) (V2 : V6), k = .int .i64 kk ∧ t = .slice At nn cc ∧ Two wr w.heap.size w3.heap.size j (nm [84] j) kk At nn cc tl L2 TS V2 [] R (2 * j + 2) ∧ Bare V2 ∧ L2.stations = L1.stations ∧ L2.links = L1.links ∧ i4 ≤ l ∧ Src wr gs A l c i4 ∧ Ints wr B A l ∧ Below gs w wr ∧ w3.heap.size ≤ wr.heap.size) (fun _ k _ _ => (intOf k).toNat)
        case atStart => exact ⟨k1, 0, 0, i3, none, [], L1, V1, rfl, rfl, ⟨⟨_, _, HB3.out⟩, Own.nil _ _, HR.out, HN1.out, by omega, by omega, by omega⟩, hbare1, rfl, rfl, hi3, HS3.out, HI3.out, HW3.out, Nat.le_refl _⟩
        case round =>
          obtain ⟨kk, nn, cc, i4, At, tl, L2, V2, rfl, rfl, htwo, hbare2, f1, f2, hi4, hs4, hI4, hW4, hz4⟩ := hrel
          clear HB3 HS3 HI3 HW3
          obtain ⟨⟨ptop2, TL2, bd2⟩, own2, loop2, num2, few2, nk2, pos2⟩ := htwo
          have HB4 := Lib.hid bd2
          have HO4 := Lib.hid own2
          have HL4 := Lib.hid loop2
          have HNu4 := Lib.hid num2
          have HS4 := Lib.hid hs4
          have HI4 := Lib.hid hI4
          have HW4 := Lib.hid hW4
          have hg4 := bd2.blk.lt
          have hsz4 := hs4.lt
          clear bd2 own2 loop2 num2 hs4 hI4 hW4
          by_cases hk0 : 0 < kk
          · obtain ⟨m, rfl⟩ : ∃ m, kk = m + 1 := ⟨kk - 1, by omega⟩
            have hm0 : (0 : Int) < ((m + 1 : Nat) : Int) := by omega
            go_wp2_with fail
            refine (named_any [84] j _ (by omega) (by omega) (by decide)).mono ?_
            rintro e wq ⟨rfl, rfl⟩
            go_wp2_with fail
            refine (named_any (nm [84] j) ((m : Int) + 1) _ (by omega) (by omega) (by simp [nm])).mono ?_
            rintro e wq ⟨rfl, rfl⟩
            go_wp2_with fail
            refine (section_any (nm (nm [84] j) ((m : Int) + 1)) j gs A l c i4 B wr HS4.out hi4 hl HI4.out hgB ⟨by omega, by omega⟩).mono ?_
            rintro e ws ⟨x, i5, hxn, hxs, hxnum, hxlen, rfl, hi5, hS5, hg5⟩
            have hz5 := hg5.size
            have hb5 := HB4.out.grown hg5 (fun b hb => by injection hb with hb; omega)
            have ho5 : Own iR ws w3.heap.size (.slice At nn cc) nn tl := HO4.out.grown hg5 (by
              cases hv : (Value.slice At nn cc).ownBlock with
              | none => exact .inl rfl
              | some b => exact .inr (fun e => by have := (HO4.out.2.lt b hv).1; injection e; omega))
            obtain ⟨wx, hwx⟩ : ∃ wx, ws.alloc (.cells #[.string (str (nm (nm [84] j) ((m : Int) + 1))), .int .i64 (x.len + 2), .int .i64 x.lim, .int .i64 x.grade, .int .i64 j] 81) = wx := ⟨_, rfl⟩
            have hbx : Below ws.heap.size ws wx := by rw [← hwx]; exact (Below.refl _ _).alloc (Nat.le_refl _) _
            have hzx : wx.heap.size = ws.heap.size + 1 := by rw [← hwx]; simp
            have hx : wx.heap[ws.heap.size]? = some (.cells #[.string (str (nm (nm [84] j) ((m : Int) + 1))), .int .i64 (x.len + 2), .int .i64 x.lim, .int .i64 x.grade, .int .i64 j] 81) := by rw [← hwx]; exact heap_alloc_new _ _
            have d0 : wx.cell? ⟨ws.heap.size, 0, none⟩ = some (.string (str (nm (nm [84] j) ((m : Int) + 1)))) := by simp [World.cell?, hx]
            have d1 : wx.cell? ⟨ws.heap.size, 1, none⟩ = some (.int .i64 (x.len + 2)) := by simp [World.cell?, hx]
            have d2 : wx.cell? ⟨ws.heap.size, 2, none⟩ = some (.int .i64 x.lim) := by simp [World.cell?, hx]
            have d3 : wx.cell? ⟨ws.heap.size, 3, none⟩ = some (.int .i64 x.grade) := by simp [World.cell?, hx]
            have d4 : wx.cell? ⟨ws.heap.size, 4, none⟩ = some (.int .i64 j) := by simp [World.cell?, hx]
            have hg0x : ws.grownBy wx none := ⟨hbx.os, hbx.tape, hbx.output, hbx.size, fun k hk _ => hbx.block k hk⟩
            have HB6 := Lib.hid (hb5.grown hg0x (fun b hb => by cases hb))
            have HO6 := Lib.hid (ho5.below hbx (Nat.le_refl _))
            have HS6 := Lib.hid (hS5.below hbx hS5.lt)
            have HI6 := Lib.hid (HI4.out.below ((below_only (Below.refl _ _) hg5 (by omega) hgB).trans (hbx.mono (by omega))))
            have HW6 := Lib.hid ((below_only (B := gs) HW4.out hg5 (by omega) (Nat.le_refl _)).trans (hbx.mono (by omega)))
            have HX := Lib.hid hwx
            have hxl : -9223372036854775808 ≤ x.len + 2 ∧ x.len + 2 ≤ 9223372036854775807 := by have := hxnum.1; omega
            clear hwx hbx hx hb5 ho5 hS5 hg5 hg0x HB4 HO4 HS4 HI4 HW4
            go_upto_region 13 with fail
            rw [HX.out]
            clear HX
            have hsl : L2.sections.length = V2.n2 := HB6.out.sec.1
            have hbase : w.heap.size + 1 ≤ wx.heap.size := by omega
            go_wp2_with fail
            refine (add_sec w.heap.size (w.heap.size + 1) V2.n2 V2.c2 V2.A2 _ _ _ _ _ L2.sections ⟨nm (nm [84] j) ((m : Int) + 1), x.len + 2, x.lim, x.grade, j⟩ wx HB6.out.blk HB6.out.sec (by omega) hbase (by omega)).mono ?_
            rintro e wy ⟨A'', c'', rfl, hBy, hOy, hty⟩
            obtain ⟨bdy, hky, hby⟩ := HB6.out.add hBy hOy hty
            have ho7 := hky _ _ _ _ htop0 HO6.out
            have HL7 : Hid (addLoop (nm [84] j) j m (skOf { L2 with sections := L2.sections ++ [⟨nm (nm [84] j) ((m : Int) + 1), x.len + 2, x.lim, x.grade, j⟩] }) (tl ++ [(V2.n2 : Int)]) = R) := by
              rw [Hid, ← hsl]; exact loop_step HL4.out rfl rfl
            have HNu7 : Hid (Nums { L2 with sections := L2.sections ++ [⟨nm (nm [84] j) ((m : Int) + 1), x.len + 2, x.lim, x.grade, j⟩] }) := HNu4.out.add (by
              obtain ⟨q1, q2, q3, q4, q5, q6⟩ := hxnum
              exact ⟨by show 1 ≤ x.len + 2; omega, by show x.len + 2 ≤ 400; omega, q3, q4, q5, q6⟩)
            have HB7 := Lib.hid bdy
            have HO7 := Lib.hid ho7
            have HS7 := Lib.hid (HS6.out.below hby (by omega))
            have HI7 := Lib.hid (HI6.out.below (hby.mono (by omega)))
            have HW7 := Lib.hid (HW6.out.trans (hby.mono (by omega)))
            have hzy := hby.size
            clear hBy hOy hty bdy hky hby ho7 HL4 HNu4 HB6 HO6 HS6 HI6 HW6 d0 d1 d2 d3 d4
            have hn63 : nn + 1 ≤ maxLen := by unfold maxLen; omega
            have hbyt : (nn + 1) * 8 ≤ 140737488355328 := by omega
            have hgsy := HS7.out.lt
            go_wp2_with (at_builtin; refine wpList_append_own _ rfl _ _ 34 rfl w3.heap.size 3 ihI _ 1 8 Tryz.underlying34 hihI hI0 hI1 hI2 rfl (by omega) (.slice At nn cc) nn (iR.cs tl) rfl (HO7.out.2.alloc _) ⟨wy.heap.size, 0, none⟩ 1 1 [.int .i64 V2.n2] rfl rfl (cell_one_new _ _ _) (one_cell _ rfl) hn63 hbyt (by simp; omega) ?_)
            intro v wz hownz hgrowz _
            have hO8 := Own.push (R := iR) (a := (V2.n2 : Int)) HO7.out.1 hownz
            obtain ⟨At', cc', rfl, _⟩ := hO8.form
            have HO8 := Lib.hid hO8
            have hgl : ∀ b, (Value.slice At nn cc).ownBlock = some b → w3.heap.size ≤ b := fun b hb => (HO7.out.2.lt b hb).1
            have hgz : wy.grownBy wz (Value.slice At nn cc).ownBlock := (World.grownBy_alloc wy _ _).trans hgrowz
            have HB8 := Lib.hid (HB7.out.grown hgz (fun b hb => .inr ⟨_, _, _, hb, HO7.out⟩))
            have hbz : Below w.heap.size wy wz := (Below.refl _ _).grown hgz (by omega) (fun b hb => by have := hgl b hb; omega)
            have HS8 := Lib.hid (HS7.out.below hbz hgs)
            have HI8 := Lib.hid (HI7.out.below (hbz.mono (by omega)))
            have HW8 := Lib.hid (HW7.out.trans (hbz.mono (by omega)))
            have hzz := hbz.size
            clear hO8 hgl hgz hownz hgrowz hbz HO7 HB7 HS7 HI7 HW7
            go_wp2_with fail
            go_roundw
            case rel => exact ⟨m, nn + 1, cc', i5, At', _, _, _, by go_num, rfl, ⟨⟨_, _, HB8.out⟩, HO8.out, HL7.out, HNu7.out, by simp; omega, by omega, by omega⟩, hbare2, f1, f2, hi5, HS8.out, HI8.out, HW8.out, by omega⟩
            case measure => simp [intOf]
          · obtain rfl : kk = 0 := by omega
            have hz0' : (((0 : Nat) : Int)) = 0 := rfl
            have k4 := HB4.out.blk.c4
            have htl4 : TL2.length = V2.n4 := HB4.out.tr.1
            have hrl4 : TL2.length = TS.length := HB4.out.rl
            go_upto_region 14 with fail
            have hn63 : V2.n4 + 1 ≤ maxLen := by unfold maxLen; omega
            have hby : (V2.n4 + 1) * 24 ≤ 140737488355328 := by omega
            go_wp2_with (at_builtin; refine wpList_append_own _ rfl _ _ 59 rfl (w.heap.size + 1) 34 ihT _ 1 24 Tryz.underlying59 hihT hT0 hT1 hT2 rfl (by omega) (.slice V2.A4 V2.n4 V2.c4) V2.n4 (tR.cs TL2) rfl (HB4.out.tr.2.alloc _) ⟨wr.heap.size, 0, none⟩ 1 1 [.slice At nn cc] rfl rfl (cell_one_new _ _ _) (one_cell _ rfl) hn63 hby (by simp; omega) ?_)
            intro v w7 hown7 hgrow7 _
            have hO7 := Own.push (R := tR) (a := (At, nn, cc)) HB4.out.tr.1 hown7
            obtain ⟨A', c', rfl, _⟩ := hO7.form
            have HO7 := Lib.hid hO7
            have hgl : ∀ b, (Value.slice V2.A4 V2.n4 V2.c4).ownBlock = some b → w.heap.size + 1 ≤ b := fun b hb => (HB4.out.tr.2.lt b hb).1
            have hg7 : w7.heap[w.heap.size]? = wr.heap[w.heap.size]? := (hgrow7.block w.heap.size (by simp; omega) (fun e => by have := hgl _ e.symm; omega)).trans (((Below.refl wr.heap.size wr).alloc (Nat.le_refl _) _).block w.heap.size (by omega))
            have HB7 := Lib.hid (HB4.out.blk.same hg7)
            have k7 := HB7.out.c4
            have f7 := HB7.out.f 4
            have HT : Hid (Turned wr (w7.setCell ⟨w.heap.size, 4, none⟩ (.slice A' (V2.n4 + 1) c')) w.heap.size (.slice V2.A4 V2.n4 V2.c4)) := ⟨w7, (World.grownBy_alloc wr _ _).trans hgrow7, grown_set (World.grownBy.refl w7 _) _⟩
            clear hO7 hown7 hgrow7 hg7 hgl
            obtain ⟨bd5, hbw5⟩ := RowA.Bd.track HB4.out hbare2 HO4.out (HB7.out.put4 _) (own_set HO7.out (by omega)) HT.out
            have HOL : tl.length = nn := HO4.out.1
            have hL := HL4.out
            simp only [addLoop] at hL
            have hsk5 : stationsOf 0 (ts ++ [k1]) LayG.start = ⟨skOf L2, TS ++ [tl], []⟩ := by
              rw [stations_snoc, HSk.out, len]
              unfold addStation
              simp only [Int.zero_add]
              have e5 : { skOf L with stations := (skOf L).stations ++ [nm [83] (j : Int)] } = skOf L1 := e2.symm
              rw [e5, HR.out, ← hL]
            have HSk5 := Lib.hid hsk5
            have HB5 := Lib.hid bd5
            have HS5 := Lib.hid (HS4.out.below hbw5 hgs)
            have HI5 := Lib.hid (HI4.out.below (hbw5.mono (by omega)))
            have HW5 := Lib.hid (HW4.out.trans (hbw5.mono (by omega)))
            clear HB7 HO7 HT bd5 hbw5 hL hsk5 HB4 HO4 HL4 HS4 HI4 HW4 HSk k4
            go_wp2_with fail
            go_roundw
            case rel => exact ⟨j + 1, i4, ts ++ [k1], L2, TS ++ [tl], { V2 with A4 := A', n4 := V2.n4 + 1, c4 := c' }, by omega, by go_num, hi4, ⟨hbare2, ⟨_, _, _, HB5.out⟩, by simp [len], by
              intro y hy
              simp only [List.mem_append, List.mem_singleton] at hy
              rcases hy with hy | rfl
              · exact cnt y hy
              · exact hk12, HSk5.out, HNu4.out, by omega, by rw [f1, e1]; simp [stn], by rw [f2, e4]; exact lnk, by simp [trk], by
              intro y hy
              simp only [List.mem_append, List.mem_singleton] at hy
              rcases hy with hy | rfl
              · exact wid y hy
              · have := HOL; omega⟩, HS5.out, HI5.out, HW5.out⟩
            case measure => simp [intOf]; omega
    · obtain rfl : j = n := by omega
      obtain ⟨bare, ⟨top, ptop, TL, bd⟩, len, cnt, sk, num, few, stn, lnk, trk, wid⟩ := hone
      have HB2 := Lib.hid bd
      have HSr := Lib.hid hsr
      have HIr := Lib.hid hir
      have HWr := Lib.hid hbr
      have HNum := Lib.hid num
      have HSk := Lib.hid sk
      have hpt0 : L.points = [] := by
        have h1 := bd.pt.1
        rw [bare.2.1] at h1
        exact List.length_eq_zero_iff.1 h1
      have HP0 : Hid (L.points.length ≤ 2 * 0) := by rw [Hid, hpt0]; simp
      have HL0 : Hid (L.links.length ≤ 10 * 0) := by rw [Hid, lnk]; simp
      have HF0 : Hid (L.sections.length ≤ 6 + 2 * 0) := by rw [Hid]; omega
      clear bd hsr hir hbr num sk hpt0 lnk
      go_upto_region 16 with fail
      go_loopw [9, 10, 11, 12] (fun i _ _ _ wr => ∃ (p isrc : Nat) (ms : List Nat) (L2 : Lay) (V2 : V6), p + 1 ≤ j ∧ i = .int .i64 p ∧ isrc ≤ l ∧ Thr wr w.heap.size p ts ms L2 TS V2 ∧ Src wr gs A l c isrc ∧ Ints wr B A l ∧ Below gs w wr) (fun i _ _ _ _ => j - (intOf i).toNat)
      case atStart => exact ⟨0, isrc, [], L, V, by omega, rfl, hisrc, ⟨⟨_, _, _, _, HB2.out, by simp⟩, rfl, by simp, ⟨_, HSk.out⟩, HNum.out, HF0.out, HP0.out, HL0.out⟩, HSr.out, HIr.out, HWr.out⟩
      case round =>
        obtain ⟨p, isrc2, ms, L2, V2, hp, rfl, hisrc2, hthr, hsr, hir, hbr⟩ := hrel
        clear HB2 HSr HIr HWr HNum HSk HP0 HL0 HF0
        obtain ⟨⟨top2, ptop2, TL2, M2, bd2, hM2⟩, len2, cnt2, ⟨bt, sk2⟩, num2, few2, fewp2, fewl2⟩ := hthr
        have HB2 := Lib.hid bd2
        have HSr := Lib.hid hsr
        have HIr := Lib.hid hir
        have HWr := Lib.hid hbr
        have HNum := Lib.hid num2
        have HSk := Lib.hid sk2
        have hgr := bd2.blk.lt
        have hwz := hbr.size
        clear bd2 hsr hir hbr num2 sk2
        by_cases hlt : p + 1 < j
        · have hpj : (p : Int) + 1 < (j : Int) := by omega
          go_wp2_with fail
          refine (next_any gs A l c isrc2 B 2 wr HSr.out hisrc2 hl HIr.out hgB (by decide) (by decide)).mono ?_
          rintro e w3 ⟨r1, i3, ra, rb, rfl, hi3, hS3', hg3⟩
          obtain ⟨k1, hk1⟩ : ∃ k1 : Nat, (1 : Int) + r1 = k1 := ⟨(1 + r1).toNat, by omega⟩
          have hk12 : k1 = 1 ∨ k1 = 2 := by omega
          have hz3 := hg3.size
          have hb3 := HB2.out.grown hg3 (fun b hb => by injection hb with hb; omega)
          have HB3 := Lib.hid (RowA.Bd.raise hb3 hb3.tz (Nat.le_refl _))
          have HI3 := Lib.hid (HIr.out.below (below_only (Below.refl _ _) hg3 (by omega) hgB))
          have HS3 := Lib.hid hS3'
          have HW3 := Lib.hid (below_only (B := gs) HWr.out hg3 (by omega) (Nat.le_refl _))
          clear hS3' hg3 HB2 HIr HSr HWr hb3
          go_upto_region 20 with fail
          obtain ⟨R, hR⟩ : ∃ R, addLoop (nm [76] p) (-1) k1 (skOf L2) [] = R := ⟨_, rfl⟩
          have HR := Lib.hid hR
          have htop0 : w.heap.size < w3.heap.size := by omega
          clear hR
          go_loopw [10, 11] (fun t k wr => ∃ (kk nn cc i4 : Nat) (At : Option Addr) (tl : List Int) (L3 : Lay) (V3 : V6) (M3 : List (Option Addr × Nat × Nat)), k = .int .i64 kk ∧ t = .slice At nn cc ∧ Two wr w.heap.size w3.heap.size (-1) (nm [76] p) kk At nn cc tl L3 TS V3 M3 R (8 + 2 * p) ∧ M3.length ≤ p ∧ L3.points = L2.points ∧ L3.links = L2.links ∧ i4 ≤ l ∧ Src wr gs A l c i4 ∧ Ints wr B A l ∧ Below gs w wr ∧ w3.heap.size ≤ wr.heap.size) (fun _ k _ => (intOf k).toNat)
          case atStart => exact ⟨k1, 0, 0, i3, none, [], L2, V2, M2, rfl, rfl, ⟨⟨_, _, HB3.out⟩, Own.nil _ _, HR.out, HNum.out, by omega, by omega, by omega⟩, hM2, rfl, rfl, hi3, HS3.out, HI3.out, HW3.out, Nat.le_refl _⟩
          case round =>
            obtain ⟨kk, nn, cc, i4, At, tl, L3, V3, M3, rfl, rfl, htwo, hM3, f1, f2, hi4, hs4, hI4, hW4, hz4⟩ := hrel
            clear HB3 HS3 HI3 HW3 HNum
            obtain ⟨⟨ptop2, TL2, bd2⟩, own2, loop2, num2, few2, nk2, pos2⟩ := htwo
            have HB4 := Lib.hid bd2
            have HO4 := Lib.hid own2
            have HL4 := Lib.hid loop2
            have HNu4 := Lib.hid num2
            have HS4 := Lib.hid hs4
            have HI4 := Lib.hid hI4
            have HW4 := Lib.hid hW4
            have hg4 := bd2.blk.lt
            have hsz4 := hs4.lt
            clear bd2 own2 loop2 num2 hs4 hI4 hW4
            by_cases hk0 : 0 < kk
            · obtain ⟨m, rfl⟩ : ∃ m, kk = m + 1 := ⟨kk - 1, by omega⟩
              have hm0 : (0 : Int) < ((m + 1 : Nat) : Int) := by omega
              go_wp2_with fail
              refine (named_any [76] p _ (by omega) (by omega) (by decide)).mono ?_
              rintro e wq ⟨rfl, rfl⟩
              go_wp2_with fail
              refine (named_any (nm [76] p) ((m : Int) + 1) _ (by omega) (by omega) (by simp [nm])).mono ?_
              rintro e wq ⟨rfl, rfl⟩
              go_wp2_with fail
              refine (section_any (nm (nm [76] p) ((m : Int) + 1)) (-1) gs A l c i4 B wr HS4.out hi4 hl HI4.out hgB ⟨by omega, by omega⟩).mono ?_
              rintro e ws ⟨x, i5, hxn, hxs, hxnum, hxlen, rfl, hi5, hS5, hg5⟩
              have hz5 := hg5.size
              have hb5 := HB4.out.grown hg5 (fun b hb => by injection hb with hb; omega)
              have ho5 : Own iR ws w3.heap.size (.slice At nn cc) nn tl := HO4.out.grown hg5 (by
                cases hv : (Value.slice At nn cc).ownBlock with
                | none => exact .inl rfl
                | some b => exact .inr (fun e => by have := (HO4.out.2.lt b hv).1; injection e; omega))
              have HB6 := Lib.hid hb5
              have HO6 := Lib.hid ho5
              have HS6 := Lib.hid hS5
              have HI6 := Lib.hid (HI4.out.below (below_only (Below.refl _ _) hg5 (by omega) hgB))
              have HW6 := Lib.hid (below_only (B := gs) HW4.out hg5 (by omega) (Nat.le_refl _))
              clear hb5 ho5 hS5 hg5 HB4 HO4 HS4 HI4 HW4
              have hsl : L3.sections.length = V3.n2 := HB6.out.sec.1
              have hbase : w.heap.size + 1 ≤ ws.heap.size := by omega
              go_wp2_with fail
              refine (add_sec w.heap.size (w.heap.size + 1) V3.n2 V3.c2 V3.A2 _ _ _ _ _ L3.sections ⟨nm (nm [76] p) ((m : Int) + 1), x.len, x.lim, x.grade, -1⟩ ws HB6.out.blk HB6.out.sec (by omega) hbase (by omega)).mono ?_
              rintro e wy ⟨A'', c'', rfl, hBy, hOy, hty⟩
              obtain ⟨bdy, hky, hby⟩ := HB6.out.add hBy hOy hty
              have ho7 := hky _ _ _ _ htop0 HO6.out
              have HL7 : Hid (addLoop (nm [76] p) (-1) m (skOf { L3 with sections := L3.sections ++ [⟨nm (nm [76] p) ((m : Int) + 1), x.len, x.lim, x.grade, -1⟩] }) (tl ++ [(V3.n2 : Int)]) = R) := by
                rw [Hid, ← hsl]; exact loop_step HL4.out rfl rfl
              have HNu7 : Hid (Nums { L3 with sections := L3.sections ++ [⟨nm (nm [76] p) ((m : Int) + 1), x.len, x.lim, x.grade, -1⟩] }) := HNu4.out.add hxnum
              have HB7 := Lib.hid bdy
              have HO7 := Lib.hid ho7
              have HS7 := Lib.hid (HS6.out.below hby (by omega))
              have HI7 := Lib.hid (HI6.out.below (hby.mono (by omega)))
              have HW7 := Lib.hid (HW6.out.trans (hby.mono (by omega)))
              have hzy := hby.size
              clear hBy hOy hty bdy hky hby ho7 HL4 HNu4 HB6 HO6 HS6 HI6 HW6
              have hn63 : nn + 1 ≤ maxLen := by unfold maxLen; omega
              have hbyt : (nn + 1) * 8 ≤ 140737488355328 := by omega
              have hgsy := HS7.out.lt
              go_wp2_with (at_builtin; refine wpList_append_own _ rfl _ _ 34 rfl w3.heap.size 3 ihI _ 1 8 Tryz.underlying34 hihI hI0 hI1 hI2 rfl (by omega) (.slice At nn cc) nn (iR.cs tl) rfl (HO7.out.2.alloc _) ⟨wy.heap.size, 0, none⟩ 1 1 [.int .i64 V3.n2] rfl rfl (cell_one_new _ _ _) (one_cell _ rfl) hn63 hbyt (by simp; omega) ?_)
              intro v wz hownz hgrowz _
              have hO8 := Own.push (R := iR) (a := (V3.n2 : Int)) HO7.out.1 hownz
              obtain ⟨At', cc', rfl, _⟩ := hO8.form
              have HO8 := Lib.hid hO8
              have hgl : ∀ b, (Value.slice At nn cc).ownBlock = some b → w3.heap.size ≤ b := fun b hb => (HO7.out.2.lt b hb).1
              have hgz : wy.grownBy wz (Value.slice At nn cc).ownBlock := (World.grownBy_alloc wy _ _).trans hgrowz
              have HB8 := Lib.hid (HB7.out.grown hgz (fun b hb => .inr ⟨_, _, _, hb, HO7.out⟩))
              have hbz : Below w.heap.size wy wz := (Below.refl _ _).grown hgz (by omega) (fun b hb => by have := hgl b hb; omega)
              have HS8 := Lib.hid (HS7.out.below hbz hgs)
              have HI8 := Lib.hid (HI7.out.below (hbz.mono (by omega)))
              have HW8 := Lib.hid (HW7.out.trans (hbz.mono (by omega)))
              have hzz := hbz.size
              clear hO8 hgl hgz hownz hgrowz hbz HO7 HB7 HS7 HI7 HW7
              go_wp2_with fail
              go_roundw
              case rel => exact ⟨m, nn + 1, cc', i5, At', _, _, _, _, by go_num, rfl, ⟨⟨_, _, HB8.out⟩, HO8.out, HL7.out, HNu7.out, by simp; omega, by omega, by omega⟩, hM3, f1, f2, hi5, HS8.out, HI8.out, HW8.out, by omega⟩
              case measure => simp [intOf]
            · have hkk : kk = 0 := by omega
              have hkz : (kk : Int) = 0 := by omega
              have hL4 := HL4.out
              rw [hkk] at hL4
              have HOL : tl.length = nn := HO4.out.1
              have f2l : L3.links.length = L2.links.length := by rw [f2]
              have f1l : L3.points.length = L2.points.length := by rw [f1]
              have hR0 : (skOf L3, tl) = R := hL4
              have HRx := Lib.hid hR0
              clear HL4 hR0 hL4
              go_upto_region 24 with fail
              clear hkz hkk
              go_loopw [12] (fun qv wr => ∃ (q : Nat) (L4 : Lay) (V4 : V6), q + 1 ≤ nn ∧ qv = .int .i64 q ∧ Bd wr w.heap.size w3.heap.size ptop2 L4 TL2 TS V4 M3 ∧ Own iR wr w3.heap.size (.slice At nn cc) nn tl ∧ Hid (chain (tl.drop q) (skOf L4) = chain (tl.drop 0) (skOf L3)) ∧ L4.sections = L3.sections ∧ L4.points = L3.points ∧ L4.links.length ≤ L3.links.length + q ∧ Src wr gs A l c i4 ∧ Ints wr B A l ∧ Below gs w wr ∧ w3.heap.size ≤ wr.heap.size) (fun qv _ => nn - (intOf qv).toNat)
              case atStart => exact ⟨0, L3, V3, by omega, rfl, HB4.out, HO4.out, rfl, rfl, rfl, by omega, HS4.out, HI4.out, HW4.out, by omega⟩
              case round =>
                obtain ⟨q, L4, V4, hq, rfl, bd5, own5, HC5, g1, g2, g3, hs5, hI5, hW5, hz5⟩ := hrel
                clear HB4 HO4 HS4 HI4 HW4
                have HB5 := Lib.hid bd5
                have HO5 := Lib.hid own5
                have HS5 := Lib.hid hs5
                have HI5 := Lib.hid hI5
                have HW5 := Lib.hid hW5
                have hg5 := bd5.blk.lt
                clear bd5 own5 hs5 hI5 hW5
                by_cases hq1 : q + 1 < nn
                · obtain ⟨ad, ta, rfl, hab, hta, d0⟩ := loadI HO5.out.rd (show q < nn by omega)
                  obtain ⟨ad', tb, ha', hab', htb, d1⟩ := loadI HO5.out.rd hq1
                  cases ha'
                  have HCS := Lib.hid ((chain_step (K := skOf L4) hta htb).symm.trans HC5.out)
                  have hqn : (q : Int) + 1 < (nn : Int) := by omega
                  have hqn2 : (q : Int) < (nn : Int) := by omega
                  have hq0 : (0 : Int) ≤ (q : Int) := by omega
                  have hq01 : (0 : Int) ≤ (q : Int) + 1 := by omega
                  have hqt : ((q : Int) + 1).toNat = q + 1 := by omega
                  have hqw : IntKind.i64.wrap ((q : Int) + 1) = (q : Int) + 1 := IntWalk.i64_in _ (by omega)
                  have hll : L4.links.length = V4.n3 := HB5.out.lnk.1
                  have hgd : wr.grownBy wr.drew none := grown_drew (World.grownBy.refl wr none)
                  have HB6 := Lib.hid (HB5.out.grown hgd (fun b hb => by cases hb))
                  have hO6 : Own iR wr.drew w3.heap.size (.slice (some ad) nn cc) nn tl := HO5.out.grown hgd (by
                    cases (Value.slice (some ad) nn cc).ownBlock with
                    | none => exact .inl rfl
                    | some b => exact .inr (by simp))
                  have HO6 := Lib.hid hO6
                  have d1b : wr.cell? ⟨ad.block, ad.off + (q + 1), none⟩ = some (.int .i64 tb) := by have h9 := d1; simpa [Addr.add] using h9
                  clear hta htb hgd hO6
                  go_upto_region 26 with fail
                  go_still_tail 10, (by kernel_rfl)
                  change wpList _ _ _ _ _ wr.drew
                  go_wp2_with fail
                  refine (add_link w.heap.size (w.heap.size + 1) V4.n3 V4.c3 V4.A3 _ _ _ _ _ L4.links ta tb (-1) 0 wr.drew HB6.out.blk HB6.out.lnk (by omega) (by show w.heap.size + 1 ≤ wr.heap.size; omega) (by omega)).mono ?_
                  rintro e wy ⟨A7, c7, rfl, hB7, hO7, ht7⟩
                  obtain ⟨bd7, hk7, hb7⟩ := HB6.out.link hB7 hO7 ht7
                  have HB7 := Lib.hid bd7
                  have HO7 := Lib.hid (hk7 _ _ _ _ (by omega) HO6.out)
                  have hdw : Below w.heap.size wr wy := (Below.refl w.heap.size wr).drew.trans hb7
                  have HS7 := Lib.hid (HS5.out.below hdw hgs)
                  have HI7 := Lib.hid (HI5.out.below (hdw.mono (by omega)))
                  have HW7 := Lib.hid (HW5.out.trans (hdw.mono (by omega)))
                  have hz7 : w3.heap.size ≤ wy.heap.size := by have := hdw.size; omega
                  clear hB7 hO7 ht7 bd7 hk7 hb7 hdw HB5 HO5 HS5 HI5 HW5 HB6 HO6 HC5 d0 d1 d1b
                  go_wp2_with fail
                  go_roundw
                  case rel => exact ⟨q + 1, { L4 with links := L4.links ++ [⟨ta, 1, tb, 0, -1, 0⟩] }, { V4 with A3 := A7, n3 := V4.n3 + 1, c3 := c7 }, by omega, by go_num, HB7.out, HO7.out, HCS.out, g1, g2, by simp; omega, HS7.out, HI7.out, HW7.out, hz7⟩
                  case measure => simp [intOf]; omega
                · obtain rfl : nn = q + 1 := by omega
                  have hC := HC5.out
                  rw [chain_end (by omega)] at hC
                  have HC6 : Hid (skOf L4 = chain tl (skOf L3)) := hC
                  clear hC HC5
                  have hpj2 : p < TS.length := by omega
                  have hpj3 : p + 1 < TS.length := by omega
                  have t0 : TS[p]? = some TS[p] := List.getElem?_eq_getElem hpj2
                  have t1 : TS[p + 1]? = some TS[p + 1] := List.getElem?_eq_getElem hpj3
                  have wd0 := wid _ (List.getElem_mem hpj2)
                  have wd1 := wid _ (List.getElem_mem hpj3)
                  generalize TS[p] = T0 at *
                  generalize TS[p + 1] = T1 at *
                  obtain ⟨bt0, x0, hA0, hx0, e0⟩ := rowI HO5.out (show 0 < q + 1 by omega)
                  have htl4 : TL2.length = V4.n4 := HB5.out.tr.1
                  have hrl4 : TL2.length = TS.length := HB5.out.rl
                  obtain ⟨bT, a0, hAT, ha0, eT⟩ := rowT HB5.out.tr (show p < V4.n4 by omega)
                  obtain ⟨oa0, _⟩ := HB5.out.rows p a0 T0 ha0 t0
                  obtain ⟨aA, an, ac⟩ := a0
                  simp only at oa0 eT
                  obtain rfl : T0.length = an := oa0.1
                  have k4 := HB5.out.blk.c4
                  have hgd : wr.grownBy wr.drew none := grown_drew (World.grownBy.refl wr none)
                  have hdr : ∀ {α : Type} {R : Rec α} {base m : Nat} {v : Value} {k : List α}, Own R wr base v m k → Own R wr.drew base v m k := fun ho => ho.grown hgd (by
                    rename_i v _
                    cases v.ownBlock with
                    | none => exact .inl rfl
                    | some b => exact .inr (by simp))
                  have HB6 := Lib.hid (HB5.out.grown hgd (fun b hb => by cases hb))
                  have HO6 := Lib.hid (hdr HO5.out)
                  have HA6 := Lib.hid (hdr oa0)
                  have hpn : (p : Int) < (V4.n4 : Int) := by omega
                  have hp0 : (0 : Int) ≤ (p : Int) := by omega
                  have hq10 : (0 : Int) < ((q + 1 : Nat) : Int) := by omega
                  have hq10' : (0 : Int) < (q : Int) + 1 := by omega
                  have hll : L4.links.length ≤ 100 := by omega
                  have hpl : L4.points.length ≤ 100 := by rw [g2]; omega
                  subst hA0
                  rw [hAT] at k4
                  clear oa0 hgd hdr ha0
                  go_upto_region 27 with fail
                  go_still_tail 11, (by kernel_rfl)
                  change wpList _ _ _ _ _ wr.drew
                  go_wp2_with fail
                  refine (fan_any w.heap.size w3.heap.size ptop2 L4 TL2 M3 TS V4 x0 T0 aA T0.length ac (w.heap.size + 1) false wr.drew HB6.out HA6.out (by omega) (by omega) (by omega) (by omega)).mono ?_
                  rintro e wy ⟨rfl, L5, V5, bd5, sk5, s5, p5, l5, ki5, bl5⟩
                  have HB7 := Lib.hid bd5
                  have HO7 := Lib.hid (ki5 _ _ _ _ (by omega) HO6.out)
                  have hdw : Below w.heap.size wr wy := (Below.refl w.heap.size wr).drew.trans bl5
                  have HS7 := Lib.hid (HS5.out.below hdw hgs)
                  have HI7 := Lib.hid (HI5.out.below (hdw.mono (by omega)))
                  have HW7 := Lib.hid (HW5.out.trans (hdw.mono (by omega)))
                  have HK5 := Lib.hid sk5
                  have hz7 : w3.heap.size ≤ wy.heap.size := by have := hdw.size; omega
                  obtain ⟨bt1, x1, hA1, hx1, e1⟩ := rowI HO7.out (show q < q + 1 by omega)
                  cases hA1
                  have htl5 : TL2.length = V5.n4 := bd5.tr.1
                  obtain ⟨bT1, a1, hAT1, ha1, eT1⟩ := rowT bd5.tr (show p + 1 < V5.n4 by omega)
                  obtain ⟨oa1, _⟩ := bd5.rows (p + 1) a1 T1 ha1 t1
                  obtain ⟨bA, bn, bc⟩ := a1
                  simp only at oa1 eT1
                  obtain rfl : T1.length = bn := oa1.1
                  have k5 := bd5.blk.c4
                  rw [hAT1] at k5
                  have hgd : wy.grownBy wy.drew none := grown_drew (World.grownBy.refl wy none)
                  have hdr : ∀ {α : Type} {R : Rec α} {base m : Nat} {v : Value} {k : List α}, Own R wy base v m k → Own R wy.drew base v m k := fun ho => ho.grown hgd (by
                    rename_i v _
                    cases v.ownBlock with
                    | none => exact .inl rfl
                    | some b => exact .inr (by simp))
                  have HB8 := Lib.hid (HB7.out.grown hgd (fun b hb => by cases hb))
                  have HO8 := Lib.hid (hdr HO7.out)
                  have HA8 := Lib.hid (hdr oa1)
                  have hpn1 : (p : Int) + 1 < (V5.n4 : Int) := by omega
                  have hp01 : (0 : Int) ≤ (p : Int) + 1 := by omega
                  have hpw : IntKind.i64.wrap ((p : Int) + 1) = (p : Int) + 1 := IntWalk.i64_in _ (by omega)
                  have hqw : IntKind.i64.wrap (((q + 1 : Nat) : Int) - 1) = (q : Int) := by rw [show ((q + 1 : Nat) : Int) - 1 = (q : Int) by omega]; exact IntWalk.i64_in _ (by omega)
                  have hqw' : IntKind.i64.wrap ((q : Int) + 1 - 1) = (q : Int) := by rw [show (q : Int) + 1 - 1 = (q : Int) by omega]; exact IntWalk.i64_in _ (by omega)
                  have hqq : (q : Int) < (q : Int) + 1 := by omega
                  have hqw0 : IntKind.i64.wrap (q : Int) = (q : Int) := IntWalk.i64_in _ (by omega)
                  have hq0 : (0 : Int) ≤ (q : Int) := by omega
                  clear oa1 hgd hdr ha1 bd5 sk5 ki5 bl5 hdw e0 eT k4 HB5 HO5 HS5 HI5 HW5 HB6 HO6 HA6
                  go_upto_region 28 with fail
                  go_still_tail 15, (by kernel_rfl)
                  change wpList _ _ _ _ _ wy.drew
                  go_wp2_with fail
                  refine (fan_any w.heap.size w3.heap.size ptop2 L5 TL2 M3 TS V5 x1 T1 bA T1.length bc (w.heap.size + 1) true wy.drew HB8.out HA8.out (by omega) (by omega) (by omega) (by omega)).mono ?_
                  rintro e wz ⟨rfl, L6, V6', bd6, sk6, s6, p6, l6, ki6, bl6⟩
                  have HB9 := Lib.hid bd6
                  have HO9 := Lib.hid (ki6 _ _ _ _ (by omega) HO8.out)
                  have hdz : Below w.heap.size wy wz := (Below.refl w.heap.size wy).drew.trans bl6
                  have HS9 := Lib.hid (HS7.out.below hdz hgs)
                  have HI9 := Lib.hid (HI7.out.below (hdz.mono (by omega)))
                  have HW9 := Lib.hid (HW7.out.trans (hdz.mono (by omega)))
                  have hz9 : w3.heap.size ≤ wz.heap.size := by have := hdz.size; omega
                  have hg9 := bd6.blk.lt
                  have hpz9 := bd6.pz
                  have hgp9 := bd6.gp
                  have k5 := bd6.blk.c5
                  have hn5 : M3.length = V6'.n5 := bd6.bw.1
                  have HNB : Hid (betweensOf 0 (ms ++ [k1]) (stationsOf 0 ts LayG.start) = ⟨skOf L6, TS, bt ++ [tl]⟩) :=
                    between_next ms _ HSk.out len2 (HR.out.trans HRx.out.symm) HC6.out hx0 (by rw [HOL]; exact hx1) t0 t1 HK5.out sk6
                  clear bd6 sk6 ki6 bl6 hdz HB7 HO7 HS7 HI7 HW7 HB8 HO8 HA8 e1 eT1
                  have g2l : L4.points.length = L3.points.length := by rw [g2]
                  have hn63 : V6'.n5 + 1 ≤ maxLen := by unfold maxLen; omega
                  have hbyt : (V6'.n5 + 1) * 24 ≤ 140737488355328 := by omega
                  go_wp2_with (at_builtin; refine wpList_append_own _ rfl _ _ 59 rfl ptop2 34 ihT _ 1 24 Tryz.underlying59 hihT hT0 hT1 hT2 rfl (by omega) (.slice V6'.A5 V6'.n5 V6'.c5) V6'.n5 (tR.cs M3) rfl (HB9.out.bw.2.alloc _) ⟨wz.heap.size, 0, none⟩ 1 1 [.slice (some ⟨bt0, 0, none⟩) (q + 1) cc] rfl rfl (cell_one_new _ _ _) (one_cell _ rfl) hn63 hbyt (by simp; omega) ?_)
                  intro v w7 hown7 hgrow7 _
                  have hO7 := Own.push (R := tR) (a := (some ⟨bt0, 0, none⟩, q + 1, cc)) HB9.out.bw.1 hown7
                  obtain ⟨A7, c7, rfl, _⟩ := hO7.form
                  have HO7 := Lib.hid hO7
                  have hgl : ∀ b, (Value.slice V6'.A5 V6'.n5 V6'.c5).ownBlock = some b → ptop2 ≤ b := fun b hb => (HB9.out.bw.2.lt b hb).1
                  have hg7 : w7.heap[w.heap.size]? = wz.heap[w.heap.size]? := (hgrow7.block w.heap.size (by simp; omega) (fun e => by have := hgl _ e.symm; omega)).trans (((Below.refl wz.heap.size wz).alloc (Nat.le_refl _) _).block w.heap.size (by omega))
                  have HB7 := Lib.hid (HB9.out.blk.same hg7)
                  have k7 := HB7.out.c5
                  have f7 := HB7.out.f 5
                  have HT : Hid (Turned wz (w7.setCell ⟨w.heap.size, 5, none⟩ (.slice A7 (V6'.n5 + 1) c7)) w.heap.size (.slice V6'.A5 V6'.n5 V6'.c5)) := ⟨w7, (World.grownBy_alloc wz _ _).trans hgrow7, grown_set (World.grownBy.refl w7 _) _⟩
                  obtain ⟨bd8, ki8, bl8⟩ := RowA.Bd.betw HB9.out (HB7.out.put5 _) (own_set HO7.out hgp9) HT.out
                  have HBf := Lib.hid bd8
                  have HSf := Lib.hid (HS9.out.below bl8 hgs)
                  have HIf := Lib.hid (HI9.out.below (bl8.mono (by omega)))
                  have HWf := Lib.hid (HW9.out.trans (bl8.mono (by omega)))
                  have HNf : Hid (Nums L6) := by rw [Hid]; intro s hs; rw [s6, s5, g1] at hs; exact HNu4.out s hs
                  have hs6 : L6.sections.length = L3.sections.length := by rw [s6, s5, g1]
                  clear hO7 hown7 hgrow7 hg7 hgl bd8 ki8 bl8 HB9 HO9 HS9 HI9 HW9 HB7 HO7 HT k5
                  go_wp2_with fail
                  go_roundw
                  case rel => exact ⟨p + 1, i4, ms ++ [k1], L6, { V6' with A5 := A7, n5 := V6'.n5 + 1, c5 := c7 }, by omega, by go_num, hi4, ⟨⟨_, _, _, _, HBf.out, by simp; omega⟩, by simp [len2], by
                    intro y hy
                    simp only [List.mem_append, List.mem_singleton] at hy
                    rcases hy with hy | rfl
                    · exact cnt2 y hy
                    · exact hk12, ⟨_, HNB.out⟩, HNf.out, by omega, by omega, by omega⟩, HSf.out, HIf.out, HWf.out⟩
                  case measure => simp [intOf]; omega
        · have hpj : ¬ (p : Int) + 1 < (j : Int) := by omega
          have hX : skOf L2 = (LayG.row ts ms).sk := by unfold LayG.row; rw [HSk.out]
          have HX := Lib.hid hX
          clear hX
          go_wp2_with fail
          go_ret
          exact ⟨w.heap.size, top2, ptop2, L2, TL2, TS, V2, M2, ts, ms, rfl, HB2.out, HNum.out, by omega, by omega, cnt, cnt2, HX.out, Nat.le_refl _, by omega, HWr.out⟩
end Go.Proofs.YtnfelcjpjodjhaaGreat.Row

namespace Go.Proofs.YtnfelcjpjodjhaaGreat.Maker
open Go.ChangeShapes Go.WideShapes Go.ChangeAt Go.RowKit Wd Small Mem Lay LayT LayG Recs Dec PNames PSecs PEnds RNames Src PHops Bld Bldr St Fan RowA _root_.Go.Proofs.YtnfelcjpjodjhaaGreat.Row
set_option linter.unusedVariables false

/-- what a call leaves that answers a valid layout -/
def GenPost (w : World) (e : Ending) (w' : World) : Prop := ∃ v L, e = .returned (LV.val v) ∧ RdL w' w'.heap.size v L ∧ check L = 0 ∧ Below w.heap.size w w'
theorem name_len {s : Bs} (h : isName s = true) : s.length ≤ 9223372036854775807 := by
  cases s with
  | nil => simp
  | cons b r =>
    unfold isName at h
    simp only [Bool.and_eq_true, decide_eq_true_eq] at h
    simp only [List.length_cons]
    omega
theorem built {w : World} {g top ptop : Nat} {L : Lay} {TL M : List (Option Addr × Nat × Nat)} {TS : List (List Int)} {V : V6} (h : Bd w g top ptop L TL TS V M) (hv : check L = 0) : RdL w w.heap.size ⟨V.A0, V.n0, V.c0, V.A1, V.n1, V.c1, V.A2, V.n2, V.c2, V.A3, V.n3, V.c3⟩ L := by
  have hval := valid_of hv
  have b0 := h.st.1
  have b1 := h.pt.1
  have b2 := h.sec.1
  have b3 := h.lnk.1
  have big : L.stations.length ≤ 24 ∧ L.points.length ≤ 48 ∧ L.sections.length ≤ 96 ∧ L.links.length ≤ 192 := by
    unfold check at hv
    split at hv
    · cases hv
    · omega
  exact ⟨h.st.rd, h.pt.rd, h.sec.rd, h.lnk.rd, by show V.n0 ≤ _; omega, by show V.n1 ≤ _; omega, by show V.n2 ≤ _; omega, by show V.n3 ≤ _; omega, fun s hs => name_len (hval.st s hs), fun s hs => name_len (hval.pt s hs), fun s hs => name_len (hval.sec s hs).1⟩
theorem four_set {w : World} {b : Nat} {u0 u1 u2 u3 v0 v1 v2 v3 : Value} (c0 : w.cell? ⟨b, 0, none⟩ = some u0) (c1 : w.cell? ⟨b, 1, none⟩ = some u1) (c2 : w.cell? ⟨b, 2, none⟩ = some u2) (c3 : w.cell? ⟨b, 3, none⟩ = some u3) :
    let W := (((w.setCell ⟨b, 0, none⟩ v0).setCell ⟨b, 1, none⟩ v1).setCell ⟨b, 2, none⟩ v2).setCell ⟨b, 3, none⟩ v3
    W.cell? ⟨b, 0, none⟩ = some v0 ∧ W.cell? ⟨b, 1, none⟩ = some v1 ∧ W.cell? ⟨b, 2, none⟩ = some v2 ∧ W.cell? ⟨b, 3, none⟩ = some v3 := by
  refine ⟨?_, ?_, ?_, ?_⟩
  · rw [set_other (by omega), set_other (by omega), set_other (by omega)]; exact set_same c0
  · rw [set_other (by omega), set_other (by omega)]; exact set_same ((set_other (by omega)).trans c1)
  · rw [set_other (by omega)]; exact set_same ((set_other (by omega)).trans ((set_other (by omega)).trans c2))
  · exact set_same ((set_other (by omega)).trans ((set_other (by omega)).trans ((set_other (by omega)).trans c3)))
theorem blk7_set {w : World} {g b j : Nat} {u v0 v1 v2 v3 v4 v5 : Value} (h : Blk7 w g v0 v1 v2 v3 v4 v5) (hb : g ≠ b) : Blk7 (w.setCell ⟨b, j, none⟩ u) g v0 v1 v2 v3 v4 v5 := (Below.heap_setCell w ⟨b, j, none⟩ u g (fun e => hb e)).trans h
theorem Bd.setLow {w : World} {g top ptop b j : Nat} {u : Value} {L : Lay} {TL M : List (Option Addr × Nat × Nat)} {TS : List (List Int)} {V : V6} (h : Bd w g top ptop L TL TS V M) (hb : b < g) : Bd (w.setCell ⟨b, j, none⟩ u) g top ptop L TL TS V M :=
  h.grown (row := some b) (grown_set (World.grownBy.refl w _) _) (fun x hx => by injection hx with hx; omega)

set_option maxRecDepth 100000 in
set_option maxHeartbeats 1000000 in
theorem layout_any (A : Option Addr) (l c : Nat) (w : World) (hI : Ints w w.heap.size A l) (hl : l ≤ 9223372036854775807) : Calls Tryz.prog 11 #[.slice A l c] w (GenPost w) := by
  obtain ⟨W, hW⟩ : ∃ W, w.alloc (.cells #[.slice none 0 0, .slice none 0 0, .slice none 0 0, .slice none 0 0] 26) = W := ⟨_, rfl⟩
  have hbW : Below w.heap.size w W := by rw [← hW]; exact (Below.refl _ _).alloc (Nat.le_refl _) _
  have hzW : W.heap.size = w.heap.size + 1 := by rw [← hW]; simp
  have hx : W.heap[w.heap.size]? = some (.cells #[.slice none 0 0, .slice none 0 0, .slice none 0 0, .slice none 0 0] 26) := by rw [← hW]; exact heap_alloc_new _ _
  have hbS : Below W.heap.size W (W.alloc (.cells #[.slice A l c, .int .i64 0] 102)) := (Below.refl _ _).alloc (Nat.le_refl _) _
  have hS : Src (W.alloc (.cells #[.slice A l c, .int .i64 0] 102)) W.heap.size A l c 0 := heap_alloc_new _ _
  have HI := Lib.hid ((hI.below hbW).below (hbS.mono (show w.heap.size ≤ W.heap.size by omega)))
  have HS := Lib.hid hS
  have HX := Lib.hid ((hbS.block w.heap.size (by omega)).trans hx)
  have HB := Lib.hid (hbW.trans (hbS.mono (show w.heap.size ≤ W.heap.size by omega)))
  have HZ := Lib.hid hzW
  clear hI hbW hzW hx hbS hS
  go_enter Tryz.func11, Tryz.ntmps11
  go_upto_region 1 with fail
  try rw [hW]
  clear hW
  go_wp2_with fail
  refine (from_any A l c W).mono ?_
  rintro e wx ⟨rfl, rfl⟩
  go_wp2_with fail
  refine (row_any W.heap.size A l c w.heap.size _ HS.out hl HI.out (by have := HZ.out; omega)).mono ?_
  rintro e wy ⟨g, top, ptop, L, TL, TS, V, M, ts, ms, rfl, bd, num, h23, hms, n1, n2, sk, hg, hz, hb⟩
  have hz0 := HZ.out
  have hv : check L = 0 := row_valid ts ms h23 hms n1 n2 ⟨congrArg Skel.stations sk, congrArg Skel.points sk, congrArg Skel.secs sk, congrArg Skel.links sk, num⟩
  have hg2 : w.heap.size < g := by simp at hg; omega
  have hy : wy.heap[w.heap.size]? = some (.cells #[.slice none 0 0, .slice none 0 0, .slice none 0 0, .slice none 0 0] 26) := (hb.block w.heap.size (by omega)).trans HX.out
  have d0 : wy.cell? ⟨w.heap.size, 0, none⟩ = some (.slice none 0 0) := by simp [World.cell?, hy]
  have d1 : wy.cell? ⟨w.heap.size, 1, none⟩ = some (.slice none 0 0) := by simp [World.cell?, hy]
  have d2 : wy.cell? ⟨w.heap.size, 2, none⟩ = some (.slice none 0 0) := by simp [World.cell?, hy]
  have d3 : wy.cell? ⟨w.heap.size, 3, none⟩ = some (.slice none 0 0) := by simp [World.cell?, hy]
  have f0 : wy.frozen? ⟨w.heap.size, 0, none⟩ = false := by simp [World.frozen?, hy]
  have f1 : wy.frozen? ⟨w.heap.size, 1, none⟩ = false := by simp [World.frozen?, hy]
  have f2 : wy.frozen? ⟨w.heap.size, 2, none⟩ = false := by simp [World.frozen?, hy]
  have f3 : wy.frozen? ⟨w.heap.size, 3, none⟩ = false := by simp [World.frozen?, hy]
  have k0 := bd.blk.c0
  have k1 := bd.blk.c1
  have k2 := bd.blk.c2
  have k3 := bd.blk.c3
  have HBd := Lib.hid bd
  have HV := Lib.hid hv
  have HW := Lib.hid (HB.out.trans (hb.mono (show w.heap.size ≤ W.heap.size by omega)))
  clear bd hv hb hy num sk n1 n2 HS HI HX HB HZ
  go_wp2_with fail
  obtain ⟨e0, e1, e2, e3⟩ := four_set (v0 := .slice V.A0 V.n0 V.c0) (v1 := .slice V.A1 V.n1 V.c1) (v2 := .slice V.A2 V.n2 V.c2) (v3 := .slice V.A3 V.n3 V.c3) d0 d1 d2 d3
  refine bodyPost_ret (v := .agg #[.slice V.A0 V.n0 V.c0, .slice V.A1 V.n1 V.c1, .slice V.A2 V.n2 V.c2, .slice V.A3 V.n3 V.c3]) ?_ rfl ?_
  · simp [results, Tryz.results11, go_sem, e0, e1, e2, e3]
  · exact ⟨⟨V.A0, V.n0, V.c0, V.A1, V.n1, V.c1, V.A2, V.n2, V.c2, V.A3, V.n3, V.c3⟩, L, rfl, built (Bd.setLow (Bd.setLow (Bd.setLow (Bd.setLow HBd.out hg2) hg2) hg2) hg2) HV.out, HV.out, (((HW.out.setCell (Nat.le_refl _) _).setCell (Nat.le_refl _) _).setCell (Nat.le_refl _) _).setCell (Nat.le_refl _) _⟩
end Go.Proofs.YtnfelcjpjodjhaaGreat.Maker
