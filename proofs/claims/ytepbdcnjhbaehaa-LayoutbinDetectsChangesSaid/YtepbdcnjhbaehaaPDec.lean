/-
  Contracts of the program's reading of a layout, and of Decode.
-/
import Derived.Test.YtepbdcnjhbaehaaCurA
import Derived.Test.YtepbdcnjhbaehaaCrcA
import Derived.Test.YtepbdcnjhbaehaaPCheck
import Derived.Test.YtepbdcnjhbaehaaAwake
namespace Go.Proofs.Ytepbdcnjhbaehaa.PDec
open Go.ChangeShapes Go.WideShapes Go.ChangeAt Go.RowKit Wd Bin Lay LayT Recs PEnds _root_.Go.Proofs.Ytepbdcnjhbaehaa.Cur Crd _root_.Go.Proofs.Ytepbdcnjhbaehaa.Reach Crc CrcP PNames PSecs PCheck Bldr
set_option linter.unusedVariables false

theorem four_set {w : World} {g : Nat} {t : TypeId} {u0 u1 u2 u3 v0 v1 v2 v3 : Value} (h : w.heap[g]? = some (.cells #[u0, u1, u2, u3] t (0, 0))) :
    let W := (((w.setCell ⟨g, 0, none⟩ v0).setCell ⟨g, 1, none⟩ v1).setCell ⟨g, 2, none⟩ v2).setCell ⟨g, 3, none⟩ v3
    W.heap[g]? = some (.cells #[v0, v1, v2, v3] t (0, 0)) := by
  simp [World.setCell, Array.getElem?_modify, h]
/-- a layout of the call's own: four lists from block base on -/
structure OwnL (w : World) (base : Nat) (v : LV) (l : Lay) : Prop where
  st : Own sR w base (.slice v.A1 v.n1 v.c1) v.n1 l.stations
  pt : Own sR w base (.slice v.A2 v.n2 v.c2) v.n2 l.points
  sec : Own secR w base (.slice v.A3 v.n3 v.c3) v.n3 l.sections
  lnk : Own lnkR w base (.slice v.A4 v.n4 v.c4) v.n4 l.links
theorem OwnL.kept {w w' : World} {base b : Nat} {v : LV} {l : Lay} (h : OwnL w base v l) (hg : w.grownBy w' (some b)) (hb : b < base) : OwnL w' base v l :=
  ⟨h.st.grown hg (own_ne h.st hb), h.pt.grown hg (own_ne h.pt hb), h.sec.grown hg (own_ne h.sec hb), h.lnk.grown hg (own_ne h.lnk hb)⟩
theorem OwnL.grow {w w' : World} {base : Nat} {v : LV} {l : Lay} (h : OwnL w base v l) (hb : Below w.heap.size w w') : OwnL w' base v l :=
  ⟨h.st.below hb (Nat.le_refl _), h.pt.below hb (Nat.le_refl _), h.sec.below hb (Nat.le_refl _), h.lnk.below hb (Nat.le_refl _)⟩
theorem OwnL.rd {w : World} {base : Nat} {v : LV} {l : Lay} (h : OwnL w base v l) (m : v.n1 ≤ 100000 ∧ v.n2 ≤ 100000 ∧ v.n3 ≤ 100000 ∧ v.n4 ≤ 100000) (z1 : ∀ s ∈ l.stations, s.length ≤ 9223372036854775807) (z2 : ∀ s ∈ l.points, s.length ≤ 9223372036854775807) (z3 : ∀ s ∈ l.sections, s.name.length ≤ 9223372036854775807) : RdL w w.heap.size v l :=
  ⟨h.st.rd, h.pt.rd, h.sec.rd, h.lnk.rd, by omega, by omega, by omega, by omega, z1, z2, z3⟩
/-- no name that is read is long -/
theorem name_small (s : Bs) (c : Bin.Cur) : (rdName s c).1.length ≤ 256 := by
  unfold rdName
  simp only [List.length_drop]
  have : (item (size s c.1) s c).1.length ≤ size s c.1 := by
    unfold item; split
    · exact Nat.zero_le _
    · exact List.length_take_le _ _
  have h2 : size s c.1 ≤ 256 := by
    unfold size
    have := (((s[c.1]?).getD 0)).toNat_lt
    omega
  omega
theorem many_all {α : Type} {A : Rdr α} {p : α → Prop} (h : ∀ s c, p (A s c).1) (s : Bs) (c : Bin.Cur) : ∀ n, ∀ a ∈ (many A n s c).1, p a
  | 0, a, ha => by simp [many, ret] at ha
  | n + 1, a, ha => by
    rw [many_succ] at ha
    rcases List.mem_append.1 ha with ha | ha
    · exact many_all h s c n a ha
    · simp at ha; subst ha; exact h s _
theorem sec_small (s : Bs) (c : Bin.Cur) : (rdSec s c).1.name.length ≤ 256 := name_small s c

/-- what the call leaves that has read a layout -/
def LayPost (t : TypeId) (b : Nat) (s : ByteArray) (r : Lay × Bin.Cur) (w : World) (e : Ending) (w' : World) : Prop :=
  ∃ v : LV, e = .returned v.val ∧ OwnL w' w.heap.size v r.1 ∧ (v.n1 ≤ 255 ∧ v.n2 ≤ 255 ∧ v.n3 ≤ 255 ∧ v.n4 ≤ 255) ∧ Cu t b s r.2 w' ∧ w.grownBy w' (some b)

set_option maxRecDepth 100000 in
set_option maxHeartbeats 4000000 in
theorem layout_any (b : Nat) (s : ByteArray) (c : Bin.Cur) (w : World) (h : Cu 87 b s c w) (hc : c.1 ≤ (bs s).length) (hs : s.size ≤ 9223372036854775807) :
    Calls Try.prog 42 #[.pointer (some ⟨b, 0, none⟩)] w (LayPost 87 b s (rdLay (bs s) c) w) := by
  obtain ⟨⟨a1, k1⟩, h1⟩ : ∃ r, rdNum 1 (bs s) c = r := ⟨_, rfl⟩
  obtain ⟨⟨a2, k2⟩, h2⟩ : ∃ r, rdNum 1 (bs s) k1 = r := ⟨_, rfl⟩
  obtain ⟨⟨a3, k3⟩, h3⟩ : ∃ r, rdNum 1 (bs s) k2 = r := ⟨_, rfl⟩
  obtain ⟨⟨a4, k4⟩, h4⟩ : ∃ r, rdNum 1 (bs s) k3 = r := ⟨_, rfl⟩
  obtain ⟨⟨S, k5⟩, h5⟩ : ∃ r, many rdName a1 (bs s) k4 = r := ⟨_, rfl⟩
  obtain ⟨⟨P, k6⟩, h6⟩ : ∃ r, many rdName a2 (bs s) k5 = r := ⟨_, rfl⟩
  obtain ⟨⟨X, k7⟩, h7⟩ : ∃ r, many rdSec a3 (bs s) k6 = r := ⟨_, rfl⟩
  obtain ⟨⟨K, k8⟩, h8⟩ : ∃ r, many rdLnk a4 (bs s) k7 = r := ⟨_, rfl⟩
  have p1 := num_pos h1 hc
  have p2 := num_pos h2 p1
  have p3 := num_pos h3 p2
  have p4 := num_pos h4 p3
  have p5 : k5.1 ≤ (bs s).length := by have := many_pos pos_name (bs s) k4 p4 a1; rw [h5] at this; exact this
  have p6 : k6.1 ≤ (bs s).length := by have := many_pos pos_name (bs s) k5 p5 a2; rw [h6] at this; exact this
  have p7 : k7.1 ≤ (bs s).length := by have := many_pos pos_sec (bs s) k6 p6 a3; rw [h7] at this; exact this
  have p8 : k8.1 ≤ (bs s).length := by have := many_pos pos_lnk (bs s) k7 p7 a4; rw [h8] at this; exact this
  have l1 := num_lt h1
  have l2 := num_lt h2
  have l3 := num_lt h3
  have l4 := num_lt h4
  simp only at p1 p2 p3 p4 l1 l2 l3 l4
  have HE : Hid (rdLay (bs s) c = (⟨S, P, X, K⟩, k8)) := by
    simp only [Hid, rdLay, bnd, ret, h1, h2, h3, h4, h5, h6, h7, h8]
  have N1 := Lib.hid (fun wx hx => number_eq b 1 s c _ wx h1 hx hc (by omega) hs)
  have N2 := Lib.hid (fun wx hx => number_eq b 1 s k1 _ wx h2 hx p1 (by omega) hs)
  have N3 := Lib.hid (fun wx hx => number_eq b 1 s k2 _ wx h3 hx p2 (by omega) hs)
  have N4 := Lib.hid (fun wx hx => number_eq b 1 s k3 _ wx h4 hx p3 (by omega) hs)
  have M1 := Lib.hid (fun wx hx => each_name b a1 s k4 wx hx p4 (by omega) hs)
  have M2 := Lib.hid (fun wx hx => each_name b a2 s k5 wx hx p5 (by omega) hs)
  have M3 := Lib.hid (fun wx hx => each_sec b a3 s k6 wx hx p6 (by omega) hs)
  have M4 := Lib.hid (fun wx hx => each_lnk b a4 s k7 wx hx p7 (by omega) hs)
  rw [h5] at M1
  rw [h6] at M2
  rw [h7] at M3
  rw [h8] at M4
  clear h1 h2 h3 h4 h5 h6 h7 h8 p1 p2 p3 p4 p5 p6 p7 p8
  simp only at N1 N2 N3 N4
  have hmf : ∀ (fn : Fn) (first cap : Array Value) (w : World), (Instr.makeFunc fn first cap).run Try.prog w = .ok (.func fn first cap) w := fun _ _ _ _ => rfl
  have HMF := Lib.hid hmf
  clear hmf
  have hlt := h.lt
  obtain ⟨W, hW⟩ : ∃ W, w.alloc (.cells #[.slice none 0 0, .slice none 0 0, .slice none 0 0, .slice none 0 0] 29) = W := ⟨_, rfl⟩
  have HC0 : Hid (Cu 87 b s c W) := by rw [Hid, ← hW]; exact h.kept (row := none) (World.grownBy_alloc w _ none) (by simp)
  have HG0 : Hid (w.grownBy W (some b)) := by rw [Hid, ← hW]; exact World.grownBy_alloc w _ _
  have HB0 : Hid (W.heap[w.heap.size]? = some (.cells #[.slice none 0 0, .slice none 0 0, .slice none 0 0, .slice none 0 0] 29 (0, 0))) := by rw [Hid, ← hW]; exact heap_alloc_new _ _
  have hzW : w.heap.size < W.heap.size := by rw [← hW]; simp
  have hbg : b ≠ w.heap.size := by omega
  clear h
  go_enter Try.func42, Try.ntmps42
  go_upto_region 1 with fail
  try rw [hW]
  clear hW
  go_wp2_with fail
  refine (N1.out _ HC0.out).mono ?_
  rintro e w1 ⟨rfl, hc1, hg1⟩
  have HC1 := Lib.hid hc1
  have HG1 := Lib.hid (hg1)
  clear hc1 hg1 N1 HC0 
  go_wp2_with fail
  refine (N2.out _ HC1.out).mono ?_
  rintro e w2 ⟨rfl, hc2, hg2⟩
  have HC2 := Lib.hid hc2
  have HG2 := Lib.hid (HG1.out.trans hg2)
  clear hc2 hg2 N2 HC1 HG1
  go_wp2_with fail
  refine (N3.out _ HC2.out).mono ?_
  rintro e w3 ⟨rfl, hc3, hg3⟩
  have HC3 := Lib.hid hc3
  have HG3 := Lib.hid (HG2.out.trans hg3)
  clear hc3 hg3 N3 HC2 HG2
  go_wp2_with fail
  refine (N4.out _ HC3.out).mono ?_
  rintro e w4 ⟨rfl, hc4, hg4⟩
  have HC4 := Lib.hid hc4
  have HG4 := Lib.hid (HG3.out.trans hg4)
  clear hc4 hg4 N4 HC3 HG3
  have hmf := HMF.out
  go_wp2_with fail
  refine (M1.out _ HC4.out).mono ?_
  rintro e w5 ⟨A1, c1, rfl, ho1, hc5, hg5⟩
  have hz5 := HG4.out.size
  have HO1_5 := Lib.hid (ho1.base_ (base' := W.heap.size) (by omega))
  have HC5 := Lib.hid hc5
  have HG5 := Lib.hid (HG4.out.trans hg5)
  clear hc5 hg5 ho1 M1 HC4 HG4 
  simp only at HO1_5 HC5
  go_wp2_with fail
  refine (M2.out _ HC5.out).mono ?_
  rintro e w6 ⟨A2, c2, rfl, ho2, hc6, hg6⟩
  have hz6 := HG5.out.size
  have HO1_6 := Lib.hid (HO1_5.out.grown hg6 (own_ne HO1_5.out (by omega)))
  have HO2_6 := Lib.hid (ho2.base_ (base' := W.heap.size) (by omega))
  have HC6 := Lib.hid hc6
  have HG6 := Lib.hid (HG5.out.trans hg6)
  clear hc6 hg6 ho2 M2 HC5 HG5 HO1_5
  simp only at HO2_6 HC6
  go_wp2_with fail
  refine (M3.out _ HC6.out).mono ?_
  rintro e w7 ⟨A3, c3, rfl, ho3, hc7, hg7⟩
  have hz7 := HG6.out.size
  have HO1_7 := Lib.hid (HO1_6.out.grown hg7 (own_ne HO1_6.out (by omega)))
  have HO2_7 := Lib.hid (HO2_6.out.grown hg7 (own_ne HO2_6.out (by omega)))
  have HO3_7 := Lib.hid (ho3.base_ (base' := W.heap.size) (by omega))
  have HC7 := Lib.hid hc7
  have HG7 := Lib.hid (HG6.out.trans hg7)
  clear hc7 hg7 ho3 M3 HC6 HG6 HO1_6 HO2_6
  simp only at HO3_7 HC7
  go_wp2_with fail
  refine (M4.out _ HC7.out).mono ?_
  rintro e w8 ⟨A4, c4, rfl, ho4, hc8, hg8⟩
  have hz8 := HG7.out.size
  have HO1_8 := Lib.hid (HO1_7.out.grown hg8 (own_ne HO1_7.out (by omega)))
  have HO2_8 := Lib.hid (HO2_7.out.grown hg8 (own_ne HO2_7.out (by omega)))
  have HO3_8 := Lib.hid (HO3_7.out.grown hg8 (own_ne HO3_7.out (by omega)))
  have HO4_8 := Lib.hid (ho4.base_ (base' := W.heap.size) (by omega))
  have HC8 := Lib.hid hc8
  have HG8 := Lib.hid (HG7.out.trans hg8)
  clear hc8 hg8 ho4 M4 HC7 HG7 HO1_7 HO2_7 HO3_7
  simp only at HO4_8 HC8
  have hblk : w8.heap[w.heap.size]? = some (.cells #[.slice none 0 0, .slice none 0 0, .slice none 0 0, .slice none 0 0] 29 (0, 0)) := (HG8.out.block _ hzW (fun e => hbg (by injection e with e; exact e.symm))).trans HB0.out
  have HG9 := Lib.hid (HG0.out.trans HG8.out)
  have HBK := Lib.hid hblk
  have d0 : w8.cell? ⟨w.heap.size, 0, none⟩ = some (.slice none 0 0) := by simp [World.cell?, hblk]
  have d1 : w8.cell? ⟨w.heap.size, 1, none⟩ = some (.slice none 0 0) := by simp [World.cell?, hblk]
  have d2 : w8.cell? ⟨w.heap.size, 2, none⟩ = some (.slice none 0 0) := by simp [World.cell?, hblk]
  have d3 : w8.cell? ⟨w.heap.size, 3, none⟩ = some (.slice none 0 0) := by simp [World.cell?, hblk]
  have f0 : w8.frozen? ⟨w.heap.size, 0, none⟩ = false := by simp [World.frozen?, hblk]
  have f1 : w8.frozen? ⟨w.heap.size, 1, none⟩ = false := by simp [World.frozen?, hblk]
  have f2 : w8.frozen? ⟨w.heap.size, 2, none⟩ = false := by simp [World.frozen?, hblk]
  have f3 : w8.frozen? ⟨w.heap.size, 3, none⟩ = false := by simp [World.frozen?, hblk]
  clear hblk HG8 HG0 HB0 HMF hmf
  go_wp2_with fail
  have hfin := four_set (v0 := .slice A1 a1 c1) (v1 := .slice A2 a2 c2) (v2 := .slice A3 a3 c3) (v3 := .slice A4 a4 c4) HBK.out
  have hcx : Cu 87 b s k8 ((((w8.setCell ⟨w.heap.size, 0, none⟩ (.slice A1 a1 c1)).setCell ⟨w.heap.size, 1, none⟩ (.slice A2 a2 c2)).setCell ⟨w.heap.size, 2, none⟩ (.slice A3 a3 c3)).setCell ⟨w.heap.size, 3, none⟩ (.slice A4 a4 c4)) := (Cu.past (Cu.past (Cu.past (Cu.past HC8.out hbg _) hbg _) hbg _) hbg _)
  have hgx : w.grownBy ((((w8.setCell ⟨w.heap.size, 0, none⟩ (.slice A1 a1 c1)).setCell ⟨w.heap.size, 1, none⟩ (.slice A2 a2 c2)).setCell ⟨w.heap.size, 2, none⟩ (.slice A3 a3 c3)).setCell ⟨w.heap.size, 3, none⟩ (.slice A4 a4 c4)) (some b) := (grown_new (grown_new (grown_new (grown_new HG9.out (Nat.le_refl _) _) (Nat.le_refl _) _) (Nat.le_refl _) _) (Nat.le_refl _) _)
  have HCX := Lib.hid hcx
  have HGX := Lib.hid hgx
  have HP1 := Lib.hid (own_set (own_set (own_set (own_set HO1_8.out hzW (j := 0) (u := .slice A1 a1 c1)) hzW (j := 1) (u := .slice A2 a2 c2)) hzW (j := 2) (u := .slice A3 a3 c3)) hzW (j := 3) (u := .slice A4 a4 c4))
  have HP2 := Lib.hid (own_set (own_set (own_set (own_set HO2_8.out hzW (j := 0) (u := .slice A1 a1 c1)) hzW (j := 1) (u := .slice A2 a2 c2)) hzW (j := 2) (u := .slice A3 a3 c3)) hzW (j := 3) (u := .slice A4 a4 c4))
  have HP3 := Lib.hid (own_set (own_set (own_set (own_set HO3_8.out hzW (j := 0) (u := .slice A1 a1 c1)) hzW (j := 1) (u := .slice A2 a2 c2)) hzW (j := 2) (u := .slice A3 a3 c3)) hzW (j := 3) (u := .slice A4 a4 c4))
  have HP4 := Lib.hid (own_set (own_set (own_set (own_set HO4_8.out hzW (j := 0) (u := .slice A1 a1 c1)) hzW (j := 1) (u := .slice A2 a2 c2)) hzW (j := 2) (u := .slice A3 a3 c3)) hzW (j := 3) (u := .slice A4 a4 c4))

  clear hcx hgx d0 d1 d2 d3 f0 f1 f2 f3 HC8 HG9 HBK HO1_8 HO2_8 HO3_8 HO4_8
  generalize ((((w8.setCell ⟨w.heap.size, 0, none⟩ (.slice A1 a1 c1)).setCell ⟨w.heap.size, 1, none⟩ (.slice A2 a2 c2)).setCell ⟨w.heap.size, 2, none⟩ (.slice A3 a3 c3)).setCell ⟨w.heap.size, 3, none⟩ (.slice A4 a4 c4)) = Z at *
  have e0 : Z.cell? ⟨w.heap.size, 0, none⟩ = some (.slice A1 a1 c1) := Lib.cell_of_heap hfin 0
  have e1 : Z.cell? ⟨w.heap.size, 1, none⟩ = some (.slice A2 a2 c2) := Lib.cell_of_heap hfin 1
  have e2 : Z.cell? ⟨w.heap.size, 2, none⟩ = some (.slice A3 a3 c3) := Lib.cell_of_heap hfin 2
  have e3 : Z.cell? ⟨w.heap.size, 3, none⟩ = some (.slice A4 a4 c4) := Lib.cell_of_heap hfin 3
  clear hfin
  refine bodyPost_ret (v := .agg #[.slice A1 a1 c1, .slice A2 a2 c2, .slice A3 a3 c3, .slice A4 a4 c4]) ?_ rfl ?_
  · simp [results, Try.results42, go_sem, e0, e1, e2, e3]
  · exact ⟨⟨A1, a1, c1, A2, a2, c2, A3, a3, c3, A4, a4, c4⟩, rfl, by rw [HE.out]; exact ⟨HP1.out.base_ (by omega), HP2.out.base_ (by omega), HP3.out.base_ (by omega), HP4.out.base_ (by omega)⟩, ⟨by show a1 ≤ 255; omega, by show a2 ≤ 255; omega, by show a3 ≤ 255; omega, by show a4 ≤ 255; omega⟩, by rw [HE.out]; exact HCX.out, HGX.out⟩
/-! ### Decode -/

/-- what a call leaves that has decoded a text -/
def DecPost (r : Lay × Nat × Int) (w : World) (e : Ending) (w' : World) : Prop := ∃ v : LV, e = .returned (.tuple #[v.val, .int .i64 r.2.1, .int .i64 r.2.2]) ∧ RdL w' w'.heap.size v r.1 ∧ Below w.heap.size w w'
theorem lay_small (s : Bs) (c : Bin.Cur) : (∀ x ∈ (rdLay s c).1.stations, x.length ≤ 256) ∧ (∀ x ∈ (rdLay s c).1.points, x.length ≤ 256) ∧ (∀ x ∈ (rdLay s c).1.sections, x.name.length ≤ 256) := by
  unfold rdLay
  simp only [bnd, ret]
  exact ⟨many_all (p := fun x : Bs => x.length ≤ 256) name_small s _ _, many_all (p := fun x : Bs => x.length ≤ 256) name_small s _ _, many_all (p := fun x : Sec => x.name.length ≤ 256) sec_small s _ _⟩
theorem pos_many {α : Type} {A : Rdr α} (hA : ∀ s c, c.1 ≤ s.length → (A s c).2.1 ≤ s.length) (n : Nat) (s : Bs) (c : Bin.Cur) (h : c.1 ≤ s.length) : (many A n s c).2.1 ≤ s.length := many_pos hA s c h n
theorem pos_lay (s : Bs) (c : Bin.Cur) (h : c.1 ≤ s.length) : (rdLay s c).2.1 ≤ s.length :=
  pos_bnd (pos_num _) (fun _ => pos_bnd (pos_num _) (fun _ => pos_bnd (pos_num _) (fun _ => pos_bnd (pos_num _) (fun _ => pos_bnd (pos_many pos_name _) (fun _ => pos_bnd (pos_many pos_name _) (fun _ => pos_bnd (pos_many pos_sec _) (fun _ => pos_bnd (pos_many pos_lnk _) (fun _ => pos_ret _)))))))) s c h
theorem head_item (s : Bs) : item 4 s (0, false) = if 4 ≤ s.length then (s.take 4, 4, false) else ([], 0, true) := by
  unfold item
  by_cases h : 4 ≤ s.length
  · rw [if_pos h, if_neg (by simp; omega)]; simp
  · rw [if_neg h, if_pos (.inr (by simp; omega))]
/-- the ways of decoding -/
theorem dec_form {s : Bs} (h : 4 ≤ s.length) (hs : s.take 4 ≠ sig) : Bin.decode s = (zero, 0, 2) := by unfold Bin.decode; rw [if_pos ⟨h, hs⟩]
theorem dec_go {s : Bs} {L : Lay} {k0 k1 k2 : Bin.Cur} {x : Nat} (h : ¬ (4 ≤ s.length ∧ s.take 4 ≠ sig)) (h0 : (item 4 s (0, false)).2 = k0) (h1 : rdLay s k0 = (L, k1)) (h2 : rdNum 4 s k1 = (x, k2)) :
    Bin.decode s = if k2.2 = true then (zero, k2.1, 10) else if x ≠ crc (s.take k1.1) then (zero, k1.1, 9) else if k2.1 ≠ s.length then (zero, k2.1, 2) else if check L ≠ 0 then (zero, 0, check L) else (L, 0, 0) := by
  unfold Bin.decode
  rw [if_neg h]
  unfold whole
  rw [h0]
  simp only [h1, h2]

theorem str_sig (s : Bs) : ((str s).toList == [82, 80, 76, 49]) = decide (s = sig) := by
  rw [show (str s).toList = s from by rw [Lib.toList_data]; simp [str]]
  by_cases h : s = sig
  · subst h; rfl
  · rw [decide_eq_false h, beq_eq_false_iff_ne]; exact h
/-- no layout, stored into the result -/
theorem zero_fin {w w' : World} {g : Nat} (hg : w.heap.size ≤ g) (h : w'.heap[g]? = some (.cells #[.slice none 0 0, .slice none 0 0, .slice none 0 0, .slice none 0 0] 29 (0, 0))) (hb : Below w.heap.size w w') :
    ∃ X, (((w'.setCell ⟨g, 0, none⟩ (.slice none 0 0)).setCell ⟨g, 1, none⟩ (.slice none 0 0)).setCell ⟨g, 2, none⟩ (.slice none 0 0)).setCell ⟨g, 3, none⟩ (.slice none 0 0) = X ∧ (X.cell? ⟨g, 0, none⟩ = some (.slice none 0 0) ∧ X.cell? ⟨g, 1, none⟩ = some (.slice none 0 0) ∧ X.cell? ⟨g, 2, none⟩ = some (.slice none 0 0) ∧ X.cell? ⟨g, 3, none⟩ = some (.slice none 0 0)) ∧ Below w.heap.size w X := by
  refine ⟨_, rfl, ?_, (((hb.setCell hg _).setCell hg _).setCell hg _).setCell hg _⟩
  have hfin := four_set (v0 := (.slice none 0 0)) (v1 := (.slice none 0 0)) (v2 := (.slice none 0 0)) (v3 := (.slice none 0 0)) h
  exact ⟨Lib.cell_of_heap hfin 0, Lib.cell_of_heap hfin 1, Lib.cell_of_heap hfin 2, Lib.cell_of_heap hfin 3⟩
theorem OwnL.put {w : World} {base g j : Nat} {u : Value} {v : LV} {l : Lay} (h : OwnL w base v l) (hg : g < base) : OwnL (w.setCell ⟨g, j, none⟩ u) base v l := ⟨own_set h.st hg, own_set h.pt hg, own_set h.sec hg, own_set h.lnk hg⟩
theorem res_cells {w : World} {g : Nat} {t : TypeId} (h : w.heap[g]? = some (.cells #[.slice none 0 0, .slice none 0 0, .slice none 0 0, .slice none 0 0] t (0, 0))) : (w.cell? ⟨g, 0, none⟩ = some (.slice none 0 0) ∧ w.cell? ⟨g, 1, none⟩ = some (.slice none 0 0) ∧ w.cell? ⟨g, 2, none⟩ = some (.slice none 0 0) ∧ w.cell? ⟨g, 3, none⟩ = some (.slice none 0 0)) ∧
    (w.frozen? ⟨g, 0, none⟩ = false ∧ w.frozen? ⟨g, 1, none⟩ = false ∧ w.frozen? ⟨g, 2, none⟩ = false ∧ w.frozen? ⟨g, 3, none⟩ = false) := by simp [World.cell?, World.frozen?, h]
theorem dec_zero {r : Lay × Nat × Int} {w X : World} {i : Nat} {e : Int} (h : r = (zero, i, e)) (hb : Below w.heap.size w X) : DecPost r w (.returned (.tuple #[.agg #[.slice none 0 0, .slice none 0 0, .slice none 0 0, .slice none 0 0], .int .i64 i, .int .i64 e])) X := by
  subst h; exact ⟨Awake.nilL, rfl, Awake.nil_rd _ _, hb⟩

set_option maxRecDepth 100000 in
set_option maxHeartbeats 8000000 in
theorem p_decode (s : ByteArray) (w : World) (hs : s.size ≤ 9223372036854775807) : Calls Try.prog 22 #[.string s] w (DecPost (Bin.decode (bs s)) w) := by
  obtain ⟨⟨it, k0⟩, h0⟩ : ∃ r, item 4 (bs s) (0, false) = r := ⟨_, rfl⟩
  obtain ⟨⟨L, k1⟩, h1⟩ : ∃ r, rdLay (bs s) k0 = r := ⟨_, rfl⟩
  obtain ⟨⟨x, k2⟩, h2⟩ : ∃ r, rdNum 4 (bs s) k1 = r := ⟨_, rfl⟩
  have p0 : k0.1 ≤ (bs s).length := by have := item_pos (n := 4) (s := bs s) (c := (0, false)) (Nat.zero_le _); rw [h0] at this; exact this
  have p1 : k1.1 ≤ (bs s).length := by have := pos_lay (bs s) k0 p0; rw [h1] at this; exact this
  have p2 : k2.1 ≤ (bs s).length := num_pos h2 p1
  have hx := num_lt h2
  simp only at hx
  have hsm := lay_small (bs s) k0
  rw [h1] at hsm
  have hhd := head_item (bs s)
  rw [h0] at hhd
  have HI := Lib.hid (fun (b : Nat) wx hx => item_any b 4 s (0, false) wx hx (Nat.zero_le _) (by omega) hs)
  rw [h0] at HI
  have HLY := Lib.hid (fun b wx hx => layout_any b s k0 wx hx p0 hs)
  rw [h1] at HLY
  have HN := Lib.hid (fun b wx hx => number_eq b 4 s k1 _ wx h2 hx p1 (by omega) hs)
  simp only at HI HN HLY
  have HG := Lib.hid (fun (hf : ¬ (4 ≤ (bs s).length ∧ (bs s).take 4 ≠ sig)) => dec_go hf (by rw [h0]) h1 h2)
  have HSM := Lib.hid hsm
  have HHD := Lib.hid hhd
  clear h0 h1 h2 hsm hhd
  rw [bs_length] at p0 p1 p2
  -- the block of the result, and the cursor
  obtain ⟨W0, hW0⟩ : ∃ W0, w.alloc (.cells #[.slice none 0 0, .slice none 0 0, .slice none 0 0, .slice none 0 0] 29) = W0 := ⟨_, rfl⟩
  have hzW0 : W0.heap.size = w.heap.size + 1 := by rw [← hW0]; simp
  have hbW0 : Below w.heap.size w W0 := by rw [← hW0]; exact (Below.refl _ _).alloc (Nat.le_refl _) _
  have hB00 : W0.heap[w.heap.size]? = some (.cells #[.slice none 0 0, .slice none 0 0, .slice none 0 0, .slice none 0 0] 29 (0, 0)) := by rw [← hW0]; exact heap_alloc_new w _
  obtain ⟨W, hW⟩ : ∃ W, W0.alloc (.cells #[.string s, .int .i64 0, .bool false] 87) = W := ⟨_, rfl⟩
  have HC0 : Hid (Cu 87 W0.heap.size s (0, false) W) := by rw [Hid, ← hW]; exact heap_alloc_new _ _
  have hbW : Below W0.heap.size W0 W := by rw [← hW]; exact (Below.refl _ _).alloc (Nat.le_refl _) _
  have HB0 : Hid (W.heap[w.heap.size]? = some (.cells #[.slice none 0 0, .slice none 0 0, .slice none 0 0, .slice none 0 0] 29 (0, 0))) := (hbW.block w.heap.size (by omega)).trans hB00
  have HBW : Hid (Below w.heap.size w W) := hbW0.trans (hbW.mono hbW0.size)
  have hzW : W.heap.size = W0.heap.size + 1 := by rw [← hW]; simp
  have HZ0 := Lib.hid hzW0
  have HZ := Lib.hid hzW
  clear hzW0 hzW hbW0 hB00 hbW
  go_enter Try.func22, Try.ntmps22
  go_upto_region 1 with fail
  try rw [hW0]
  clear hW0
  have HW := Lib.hid hW
  clear hW
  go_upto_region 2 with fail
  rw [HW.out]
  clear HW
  go_wp2_with fail
  refine (HI.out W0.heap.size W HC0.out).mono ?_
  rintro e w1 ⟨rfl, hc1, hg1⟩
  have hgB : ∀ X : World, W.grownBy X (some W0.heap.size) → X.heap[w.heap.size]? = some (.cells #[.slice none 0 0, .slice none 0 0, .slice none 0 0, .slice none 0 0] 29 (0, 0)) := fun X hg => by
    have h1 := HZ0.out; have h2 := HZ.out
    exact (hg.block w.heap.size (by omega) (fun e => by injection e with e; omega)).trans HB0.out
  have HGB := Lib.hid hgB
  have hbB : ∀ X : World, W.grownBy X (some W0.heap.size) → Below w.heap.size w X := fun X hg => by
    have h1 := HZ0.out
    exact HBW.out.grown hg HBW.out.size (fun k hk => by injection hk with hk; omega)
  have HBB := Lib.hid hbB
  have HC1 := Lib.hid hc1
  have HG1 := Lib.hid hg1
  clear hc1 hg1 HI HC0 hgB hbB
  obtain ⟨c0, c1, c2⟩ := HC1.out.cells
  have HTK := Lib.hid (str_sig it)
  by_cases hbad : k0.2 = false ∧ it ≠ sig
  · obtain ⟨hk0, hit⟩ := hbad
    have HD : Hid (Bin.decode (bs s) = (zero, 0, 2)) := by
      have h := HHD.out
      by_cases h4 : 4 ≤ (bs s).length
      · rw [if_pos h4] at h
        injection h with h1 h2
        exact dec_form h4 (by rw [← h1]; exact hit)
      · rw [if_neg h4] at h
        injection h with h1 h2
        rw [h2] at hk0; cases hk0
    have htl : ((str it).toList == [82, 80, 76, 49]) = false := by rw [HTK.out]; exact decide_eq_false hit
    rw [hk0] at c2
    obtain ⟨X, hX, ⟨e0, e1, e2, e3⟩, hbX⟩ := zero_fin (Nat.le_refl w.heap.size) (HGB.out _ HG1.out) (HBB.out _ HG1.out)
    obtain ⟨⟨d0, d1, d2, d3⟩, f0, f1, f2, f3⟩ := res_cells (HGB.out _ HG1.out)
    have HX := Lib.hid hX
    have HBX := Lib.hid hbX
    clear hX hbX hk0 hit
    go_wp2_with fail
    try rw [HX.out]
    refine bodyPost_ret (v := .tuple #[.agg #[.slice none 0 0, .slice none 0 0, .slice none 0 0, .slice none 0 0], .int .i64 0, .int .i64 2]) (by simp [results, Try.results22, go_sem, e0, e1, e2, e3]) rfl (dec_zero HD.out HBX.out)
  · have HD := Lib.hid (HG.out (fun hf => hbad (by
      have h := HHD.out
      rw [if_pos hf.1] at h
      injection h with h1 h2
      exact ⟨by rw [h2], by rw [h1]; exact hf.2⟩)))
    obtain ⟨tf, htf, hgo⟩ : ∃ tf : Bool, k0.2 = tf ∧ (tf = false → ((str it).toList == [82, 80, 76, 49]) = true) := ⟨_, rfl, fun e => by rw [HTK.out]; exact decide_eq_true (Classical.byContradiction fun h => hbad ⟨e, h⟩)⟩
    rw [htf] at c2
    have HTF := Lib.hid htf
    clear hbad htf HG HHD HTK
    have step : True := trivial
    cases tf with
    | true =>
      clear hgo
      go_wp2_with fail
      refine (HLY.out W0.heap.size w1 HC1.out).mono ?_
      rintro e w2 ⟨v, rfl, hol, ⟨m1, m2, m3, m4⟩, hc2, hg2⟩
      obtain ⟨A1, n1, q1, A2, n2, q2, A3, n3, q3, A4, n4, q4⟩ := v
      simp only [LV.val] at m1 m2 m3 m4 ⊢
      simp only at hc2 hol
      have hw1z : w.heap.size < w1.heap.size := by have := HG1.out.size; have := HZ.out; have := HZ0.out; omega
      have hw1b : W0.heap.size < w1.heap.size := by have := HG1.out.size; have := HZ.out; omega
      have HG2 := Lib.hid (HG1.out.trans hg2)
      obtain ⟨W3, hW3⟩ : ∃ W3, w2.alloc (.cells #[.slice A1 n1 q1, .slice A2 n2 q2, .slice A3 n3 q3, .slice A4 n4 q4] 29) = W3 := ⟨_, rfl⟩
      have hb3 : Below w2.heap.size w2 W3 := by rw [← hW3]; exact (Below.refl _ _).alloc (Nat.le_refl _) _
      have hz3 : w2.heap.size < W3.heap.size := by rw [← hW3]; simp
      have HOL3 := Lib.hid (hol.grow hb3)
      have HC3 := Lib.hid (hc2.kept (row := none) (below_grown hb3) (by simp))
      have HG3 := Lib.hid (HG2.out.trans (below_grown hb3))
      have hbx : W3.heap[w2.heap.size]? = some (.cells #[.slice A1 n1 q1, .slice A2 n2 q2, .slice A3 n3 q3, .slice A4 n4 q4] 29 (0, 0)) := by rw [← hW3]; exact heap_alloc_new _ _
      have HBX3 := Lib.hid hbx
      have hz12 := hg2.size
      have h2b : W0.heap.size ≠ w2.heap.size := by have := hg2.size; omega
      have h2g : w.heap.size ≠ w2.heap.size := by have := hg2.size; omega
      have HW3 := Lib.hid hW3
      clear hol hc2 hg2 hb3 hbx hW3 c0 c1 c2 HC1 HG1 HG2 HLY
      go_upto_region 6 with fail
      rw [HW3.out]
      clear HW3
      obtain ⟨c0, c1, c2⟩ := HC3.out.cells
      go_wp2_with fail
      refine (HN.out W0.heap.size W3 HC3.out).mono ?_
      rintro e w4 ⟨rfl, hc4, hg4⟩
      have hz4 := hg4.size
      have HOL4 := Lib.hid (HOL3.out.kept hg4 hw1b)
      have HC4 := Lib.hid hc4
      have HG4 := Lib.hid (HG3.out.trans hg4)
      have hbx4 : w4.heap[w2.heap.size]? = some (.cells #[.slice A1 n1 q1, .slice A2 n2 q2, .slice A3 n3 q3, .slice A4 n4 q4] 29 (0, 0)) := (hg4.block _ hz3 (fun e => h2b (by injection e with e; exact e.symm))).trans HBX3.out
      have HBX4 := Lib.hid hbx4
      clear hc4 hg4 hbx4 c0 c1 c2 HN HC3 HG3 HOL3 HBX3
      obtain ⟨c0, c1, c2⟩ := HC4.out.cells
      obtain ⟨p2', t2⟩ := k2
      obtain ⟨p1', t1⟩ := k1
      simp only at c1 c2 p1 p2
      cases t2 with
      | true =>
        have HD2 : Hid (Bin.decode (bs s) = (zero, p2', 10)) := by rw [Hid, HD.out, if_pos rfl]
        obtain ⟨⟨d0, d1, d2, d3⟩, f0, f1, f2, f3⟩ := res_cells (HGB.out _ HG4.out)
        obtain ⟨X, hX, ⟨e0, e1, e2, e3⟩, hbX⟩ := zero_fin (Nat.le_refl w.heap.size) (HGB.out _ HG4.out) (HBB.out _ HG4.out)
        have hne : W0.heap.size ≠ w.heap.size := by have := HZ0.out; omega
        have hq := (Cu.past (g := w.heap.size) (j := 3) (Cu.past (g := w.heap.size) (j := 2) (Cu.past (g := w.heap.size) (j := 1) (Cu.past (g := w.heap.size) (j := 0) HC4.out hne (.slice none 0 0)) hne (.slice none 0 0)) hne (.slice none 0 0)) hne (.slice none 0 0)).cells.2.1
        simp only at hq
        have HX := Lib.hid hX
        have HBX := Lib.hid hbX
        clear hX hbX
        go_upto_region 9 with fail
        go_region
        all_goals (
          go_wp2_with fail
          try rw [HX.out]
          refine bodyPost_ret (v := .tuple #[.agg #[.slice none 0 0, .slice none 0 0, .slice none 0 0, .slice none 0 0], .int .i64 p2', .int .i64 10]) (by simp [results, Try.results22, go_sem, e0, e1, e2, e3]) rfl (dec_zero HD2.out HBX.out.drew))
      | false =>
        obtain ⟨Y, hY⟩ : ∃ Y, s.extract 0 p1' = Y := ⟨_, rfl⟩
        have hYb : bs Y = (bs s).take p1' := by rw [← hY, bs_extract, List.drop_zero, Nat.sub_zero]
        have hYz : Y.size ≤ 9223372036854775807 := by rw [← hY, ByteArray.size_extract]; omega
        have HSU := Lib.hid (fun wx => sum_any Y wx hYz)
        rw [hYb] at HSU
        obtain ⟨cs, hcs⟩ : ∃ cs, crc ((bs s).take p1') = cs := ⟨_, rfl⟩
        have hcl : cs < 4294967296 := by rw [← hcs]; exact crc_lt _
        rw [hcs] at HSU
        have g0 : (0 : Int) ≤ p1' := by omega
        have g1 : (p1' : Int) ≤ (s.size : Int) := by omega
        have HD2 : Hid (Bin.decode (bs s) = if x ≠ cs then (zero, p1', 9) else if p2' ≠ s.size then (zero, p2', 2) else if check L ≠ 0 then (zero, 0, check L) else (L, 0, 0)) := by
          rw [Hid, HD.out, if_neg (by simp)]; simp only [hcs, bs_length]
        clear hYb hcs HD
        go_upto_region 10 with fail
        go_wp2_with fail
        refine (HSU.out _).mono ?_
        rintro e w5 ⟨rfl, rfl⟩
        clear HSU hY
        by_cases hxc : x = cs
        · have hx1 : ((x : Int) != (cs : Int)) = false := by simp [hxc]
          have hx2 : ((x : Int) == (cs : Int)) = true := by simp [hxc]
          rw [if_neg (by simpa using hxc)] at HD2
          clear hxc
          by_cases hpz : p2' = s.size
          · have hp1 : ((p2' : Int) != (s.size : Int)) = false := by simp [hpz]
            have hp2 : ((p2' : Int) == (s.size : Int)) = true := by simp [hpz]
            rw [if_neg (by simpa using hpz)] at HD2
            clear hpz
            obtain ⟨b0, b1, b2, b3⟩ : w4.cell? ⟨w2.heap.size, 0, none⟩ = some (.slice A1 n1 q1) ∧ w4.cell? ⟨w2.heap.size, 1, none⟩ = some (.slice A2 n2 q2) ∧ w4.cell? ⟨w2.heap.size, 2, none⟩ = some (.slice A3 n3 q3) ∧ w4.cell? ⟨w2.heap.size, 3, none⟩ = some (.slice A4 n4 q4) := by simp [World.cell?, HBX4.out]
            have HCK := Lib.hid (p_check ⟨A1, n1, q1, A2, n2, q2, A3, n3, q3, A4, n4, q4⟩ L w4 (HOL4.out.rd ⟨by show n1 ≤ 100000; omega, by show n2 ≤ 100000; omega, by show n3 ≤ 100000; omega, by show n4 ≤ 100000; omega⟩ (fun a ha => Nat.le_trans (HSM.out.1 a ha) (by omega)) (fun a ha => Nat.le_trans (HSM.out.2.1 a ha) (by omega)) (fun a ha => Nat.le_trans (HSM.out.2.2 a ha) (by omega))))
            simp only [LV.val] at HCK
            go_wp2_with fail
            refine HCK.out.mono ?_
            rintro e w6 ⟨rfl, hb6⟩
            have hz6 := hb6.size
            have HOL6 := Lib.hid (HOL4.out.grow hb6)
            have hg6 := (hb6.block w.heap.size (by omega)).trans (HGB.out _ HG4.out)
            have HB6 := Lib.hid ((HBB.out _ HG4.out).trans (hb6.mono (HBB.out _ HG4.out).size))
            have hbx6 : w6.heap[w2.heap.size]? = some (.cells #[.slice A1 n1 q1, .slice A2 n2 q2, .slice A3 n3 q3, .slice A4 n4 q4] 29 (0, 0)) := (hb6.block _ (by omega)).trans HBX4.out
            clear hb6
            obtain ⟨⟨d0, d1, d2, d3⟩, f0, f1, f2, f3⟩ := res_cells hg6
            by_cases hck : check L = 0
            · have hk1 : (check L != 0) = false := by simp [hck]
              have hk2 : (check L == 0) = true := by simp [hck]
              rw [if_neg (by simpa using hck)] at HD2
              clear hck b0 b1 b2 b3
              obtain ⟨b0, b1, b2, b3⟩ : w6.cell? ⟨w2.heap.size, 0, none⟩ = some (.slice A1 n1 q1) ∧ w6.cell? ⟨w2.heap.size, 1, none⟩ = some (.slice A2 n2 q2) ∧ w6.cell? ⟨w2.heap.size, 2, none⟩ = some (.slice A3 n3 q3) ∧ w6.cell? ⟨w2.heap.size, 3, none⟩ = some (.slice A4 n4 q4) := by simp [World.cell?, hbx6]
              have hfin := four_set (v0 := .slice A1 n1 q1) (v1 := .slice A2 n2 q2) (v2 := .slice A3 n3 q3) (v3 := .slice A4 n4 q4) hg6
              have hbf := ((((HB6.out.setCell (p := ⟨w.heap.size, 0, none⟩) (Nat.le_refl _) (.slice A1 n1 q1)).setCell (p := ⟨w.heap.size, 1, none⟩) (Nat.le_refl _) (.slice A2 n2 q2)).setCell (p := ⟨w.heap.size, 2, none⟩) (Nat.le_refl _) (.slice A3 n3 q3)).setCell (p := ⟨w.heap.size, 3, none⟩) (Nat.le_refl _) (.slice A4 n4 q4))
              have hof := OwnL.put (OwnL.put (OwnL.put (OwnL.put HOL6.out hw1z (j := 0) (u := .slice A1 n1 q1)) hw1z (j := 1) (u := .slice A2 n2 q2)) hw1z (j := 2) (u := .slice A3 n3 q3)) hw1z (j := 3) (u := .slice A4 n4 q4)
              obtain ⟨X, hX, e0, e1, e2, e3, hbX, hoX⟩ : ∃ X, (((w6.setCell ⟨w.heap.size, 0, none⟩ (.slice A1 n1 q1)).setCell ⟨w.heap.size, 1, none⟩ (.slice A2 n2 q2)).setCell ⟨w.heap.size, 2, none⟩ (.slice A3 n3 q3)).setCell ⟨w.heap.size, 3, none⟩ (.slice A4 n4 q4) = X ∧ X.cell? ⟨w.heap.size, 0, none⟩ = some (.slice A1 n1 q1) ∧ X.cell? ⟨w.heap.size, 1, none⟩ = some (.slice A2 n2 q2) ∧ X.cell? ⟨w.heap.size, 2, none⟩ = some (.slice A3 n3 q3) ∧ X.cell? ⟨w.heap.size, 3, none⟩ = some (.slice A4 n4 q4) ∧ Below w.heap.size w X ∧ OwnL X w1.heap.size ⟨A1, n1, q1, A2, n2, q2, A3, n3, q3, A4, n4, q4⟩ L :=
                ⟨_, rfl, Lib.cell_of_heap hfin 0, Lib.cell_of_heap hfin 1, Lib.cell_of_heap hfin 2, Lib.cell_of_heap hfin 3, hbf, hof⟩
              have HX := Lib.hid hX
              have HBX := Lib.hid hbX
              have HOX := Lib.hid hoX
              clear hX hbX hoX hfin hbf hof hbx6 hg6
              go_wp2_with fail
              try rw [HX.out]
              refine bodyPost_ret (v := .tuple #[.agg #[.slice A1 n1 q1, .slice A2 n2 q2, .slice A3 n3 q3, .slice A4 n4 q4], .int .i64 0, .int .i64 0]) (by simp [results, Try.results22, go_sem, e0, e1, e2, e3]) rfl ?_
              rw [HD2.out]
              exact ⟨⟨A1, n1, q1, A2, n2, q2, A3, n3, q3, A4, n4, q4⟩, rfl, HOX.out.rd ⟨by show n1 ≤ 100000; omega, by show n2 ≤ 100000; omega, by show n3 ≤ 100000; omega, by show n4 ≤ 100000; omega⟩ (fun a ha => Nat.le_trans (HSM.out.1 a ha) (by omega)) (fun a ha => Nat.le_trans (HSM.out.2.1 a ha) (by omega)) (fun a ha => Nat.le_trans (HSM.out.2.2 a ha) (by omega)), HBX.out⟩
            · have hk1 : (check L != 0) = true := by simp [hck]
              have hk2 : (check L == 0) = false := by simp [hck]
              rw [if_pos (by simpa using hck)] at HD2
              clear hck
              obtain ⟨X, hX, ⟨e0, e1, e2, e3⟩, hbX⟩ := zero_fin (Nat.le_refl w.heap.size) hg6 HB6.out
              have HX := Lib.hid hX
              have HBX := Lib.hid hbX
              clear hX hbX hbx6 hg6
              go_wp2_with fail
              try rw [HX.out]
              refine bodyPost_ret (v := .tuple #[.agg #[.slice none 0 0, .slice none 0 0, .slice none 0 0, .slice none 0 0], .int .i64 0, .int .i64 (check L)]) (by simp [results, Try.results22, go_sem, e0, e1, e2, e3]) rfl (dec_zero HD2.out HBX.out)
          · have hp1 : ((p2' : Int) != (s.size : Int)) = true := by simp; omega
            have hp2 : ((p2' : Int) == (s.size : Int)) = false := by simp; omega
            rw [if_pos hpz] at HD2
            clear hpz
            obtain ⟨⟨d0, d1, d2, d3⟩, f0, f1, f2, f3⟩ := res_cells (HGB.out _ HG4.out)
            obtain ⟨X, hX, ⟨e0, e1, e2, e3⟩, hbX⟩ := zero_fin (Nat.le_refl w.heap.size) (HGB.out _ HG4.out) (HBB.out _ HG4.out)
            have hne : W0.heap.size ≠ w.heap.size := by have := HZ0.out; omega
            have hq := (Cu.past (g := w.heap.size) (j := 3) (Cu.past (g := w.heap.size) (j := 2) (Cu.past (g := w.heap.size) (j := 1) (Cu.past (g := w.heap.size) (j := 0) HC4.out hne (.slice none 0 0)) hne (.slice none 0 0)) hne (.slice none 0 0)) hne (.slice none 0 0)).cells.2.1
            simp only at hq
            have HX := Lib.hid hX
            have HBX := Lib.hid hbX
            clear hX hbX
            go_upto_region 13 with fail
            go_region
            all_goals (
              go_wp2_with fail
              try rw [HX.out]
              refine bodyPost_ret (v := .tuple #[.agg #[.slice none 0 0, .slice none 0 0, .slice none 0 0, .slice none 0 0], .int .i64 p2', .int .i64 2]) (by simp [results, Try.results22, go_sem, e0, e1, e2, e3]) rfl (dec_zero HD2.out HBX.out.drew))
        · have hx1 : ((x : Int) != (cs : Int)) = true := by simp; omega
          have hx2 : ((x : Int) == (cs : Int)) = false := by simp; omega
          rw [if_pos hxc] at HD2
          clear hxc
          obtain ⟨⟨d0, d1, d2, d3⟩, f0, f1, f2, f3⟩ := res_cells (HGB.out _ HG4.out)
          obtain ⟨X, hX, ⟨e0, e1, e2, e3⟩, hbX⟩ := zero_fin (Nat.le_refl w.heap.size) (HGB.out _ HG4.out) (HBB.out _ HG4.out)
          have HX := Lib.hid hX
          have HBX := Lib.hid hbX
          clear hX hbX
          go_wp2_with fail
          try rw [HX.out]
          refine bodyPost_ret (v := .tuple #[.agg #[.slice none 0 0, .slice none 0 0, .slice none 0 0, .slice none 0 0], .int .i64 p1', .int .i64 9]) (by simp [results, Try.results22, go_sem, e0, e1, e2, e3]) rfl (dec_zero HD2.out HBX.out)
    | false =>
      have htl := hgo rfl
      clear hgo
      go_wp2_with fail
      refine (HLY.out W0.heap.size w1 HC1.out).mono ?_
      rintro e w2 ⟨v, rfl, hol, ⟨m1, m2, m3, m4⟩, hc2, hg2⟩
      obtain ⟨A1, n1, q1, A2, n2, q2, A3, n3, q3, A4, n4, q4⟩ := v
      simp only [LV.val] at m1 m2 m3 m4 ⊢
      simp only at hc2 hol
      have hw1z : w.heap.size < w1.heap.size := by have := HG1.out.size; have := HZ.out; have := HZ0.out; omega
      have hw1b : W0.heap.size < w1.heap.size := by have := HG1.out.size; have := HZ.out; omega
      have HG2 := Lib.hid (HG1.out.trans hg2)
      obtain ⟨W3, hW3⟩ : ∃ W3, w2.alloc (.cells #[.slice A1 n1 q1, .slice A2 n2 q2, .slice A3 n3 q3, .slice A4 n4 q4] 29) = W3 := ⟨_, rfl⟩
      have hb3 : Below w2.heap.size w2 W3 := by rw [← hW3]; exact (Below.refl _ _).alloc (Nat.le_refl _) _
      have hz3 : w2.heap.size < W3.heap.size := by rw [← hW3]; simp
      have HOL3 := Lib.hid (hol.grow hb3)
      have HC3 := Lib.hid (hc2.kept (row := none) (below_grown hb3) (by simp))
      have HG3 := Lib.hid (HG2.out.trans (below_grown hb3))
      have hbx : W3.heap[w2.heap.size]? = some (.cells #[.slice A1 n1 q1, .slice A2 n2 q2, .slice A3 n3 q3, .slice A4 n4 q4] 29 (0, 0)) := by rw [← hW3]; exact heap_alloc_new _ _
      have HBX3 := Lib.hid hbx
      have hz12 := hg2.size
      have h2b : W0.heap.size ≠ w2.heap.size := by have := hg2.size; omega
      have h2g : w.heap.size ≠ w2.heap.size := by have := hg2.size; omega
      have HW3 := Lib.hid hW3
      clear hol hc2 hg2 hb3 hbx hW3 c0 c1 c2 HC1 HG1 HG2 HLY
      go_upto_region 6 with fail
      rw [HW3.out]
      clear HW3
      obtain ⟨c0, c1, c2⟩ := HC3.out.cells
      go_wp2_with fail
      refine (HN.out W0.heap.size W3 HC3.out).mono ?_
      rintro e w4 ⟨rfl, hc4, hg4⟩
      have hz4 := hg4.size
      have HOL4 := Lib.hid (HOL3.out.kept hg4 hw1b)
      have HC4 := Lib.hid hc4
      have HG4 := Lib.hid (HG3.out.trans hg4)
      have hbx4 : w4.heap[w2.heap.size]? = some (.cells #[.slice A1 n1 q1, .slice A2 n2 q2, .slice A3 n3 q3, .slice A4 n4 q4] 29 (0, 0)) := (hg4.block _ hz3 (fun e => h2b (by injection e with e; exact e.symm))).trans HBX3.out
      have HBX4 := Lib.hid hbx4
      clear hc4 hg4 hbx4 c0 c1 c2 HN HC3 HG3 HOL3 HBX3
      obtain ⟨c0, c1, c2⟩ := HC4.out.cells
      obtain ⟨p2', t2⟩ := k2
      obtain ⟨p1', t1⟩ := k1
      simp only at c1 c2 p1 p2
      cases t2 with
      | true =>
        have HD2 : Hid (Bin.decode (bs s) = (zero, p2', 10)) := by rw [Hid, HD.out, if_pos rfl]
        obtain ⟨⟨d0, d1, d2, d3⟩, f0, f1, f2, f3⟩ := res_cells (HGB.out _ HG4.out)
        obtain ⟨X, hX, ⟨e0, e1, e2, e3⟩, hbX⟩ := zero_fin (Nat.le_refl w.heap.size) (HGB.out _ HG4.out) (HBB.out _ HG4.out)
        have hne : W0.heap.size ≠ w.heap.size := by have := HZ0.out; omega
        have hq := (Cu.past (g := w.heap.size) (j := 3) (Cu.past (g := w.heap.size) (j := 2) (Cu.past (g := w.heap.size) (j := 1) (Cu.past (g := w.heap.size) (j := 0) HC4.out hne (.slice none 0 0)) hne (.slice none 0 0)) hne (.slice none 0 0)) hne (.slice none 0 0)).cells.2.1
        simp only at hq
        have HX := Lib.hid hX
        have HBX := Lib.hid hbX
        clear hX hbX
        go_upto_region 9 with fail
        go_region
        all_goals (
          go_wp2_with fail
          try rw [HX.out]
          refine bodyPost_ret (v := .tuple #[.agg #[.slice none 0 0, .slice none 0 0, .slice none 0 0, .slice none 0 0], .int .i64 p2', .int .i64 10]) (by simp [results, Try.results22, go_sem, e0, e1, e2, e3]) rfl (dec_zero HD2.out HBX.out.drew))
      | false =>
        obtain ⟨Y, hY⟩ : ∃ Y, s.extract 0 p1' = Y := ⟨_, rfl⟩
        have hYb : bs Y = (bs s).take p1' := by rw [← hY, bs_extract, List.drop_zero, Nat.sub_zero]
        have hYz : Y.size ≤ 9223372036854775807 := by rw [← hY, ByteArray.size_extract]; omega
        have HSU := Lib.hid (fun wx => sum_any Y wx hYz)
        rw [hYb] at HSU
        obtain ⟨cs, hcs⟩ : ∃ cs, crc ((bs s).take p1') = cs := ⟨_, rfl⟩
        have hcl : cs < 4294967296 := by rw [← hcs]; exact crc_lt _
        rw [hcs] at HSU
        have g0 : (0 : Int) ≤ p1' := by omega
        have g1 : (p1' : Int) ≤ (s.size : Int) := by omega
        have HD2 : Hid (Bin.decode (bs s) = if x ≠ cs then (zero, p1', 9) else if p2' ≠ s.size then (zero, p2', 2) else if check L ≠ 0 then (zero, 0, check L) else (L, 0, 0)) := by
          rw [Hid, HD.out, if_neg (by simp)]; simp only [hcs, bs_length]
        clear hYb hcs HD
        go_upto_region 10 with fail
        go_wp2_with fail
        refine (HSU.out _).mono ?_
        rintro e w5 ⟨rfl, rfl⟩
        clear HSU hY
        by_cases hxc : x = cs
        · have hx1 : ((x : Int) != (cs : Int)) = false := by simp [hxc]
          have hx2 : ((x : Int) == (cs : Int)) = true := by simp [hxc]
          rw [if_neg (by simpa using hxc)] at HD2
          clear hxc
          by_cases hpz : p2' = s.size
          · have hp1 : ((p2' : Int) != (s.size : Int)) = false := by simp [hpz]
            have hp2 : ((p2' : Int) == (s.size : Int)) = true := by simp [hpz]
            rw [if_neg (by simpa using hpz)] at HD2
            clear hpz
            obtain ⟨b0, b1, b2, b3⟩ : w4.cell? ⟨w2.heap.size, 0, none⟩ = some (.slice A1 n1 q1) ∧ w4.cell? ⟨w2.heap.size, 1, none⟩ = some (.slice A2 n2 q2) ∧ w4.cell? ⟨w2.heap.size, 2, none⟩ = some (.slice A3 n3 q3) ∧ w4.cell? ⟨w2.heap.size, 3, none⟩ = some (.slice A4 n4 q4) := by simp [World.cell?, HBX4.out]
            have HCK := Lib.hid (p_check ⟨A1, n1, q1, A2, n2, q2, A3, n3, q3, A4, n4, q4⟩ L w4 (HOL4.out.rd ⟨by show n1 ≤ 100000; omega, by show n2 ≤ 100000; omega, by show n3 ≤ 100000; omega, by show n4 ≤ 100000; omega⟩ (fun a ha => Nat.le_trans (HSM.out.1 a ha) (by omega)) (fun a ha => Nat.le_trans (HSM.out.2.1 a ha) (by omega)) (fun a ha => Nat.le_trans (HSM.out.2.2 a ha) (by omega))))
            simp only [LV.val] at HCK
            go_wp2_with fail
            refine HCK.out.mono ?_
            rintro e w6 ⟨rfl, hb6⟩
            have hz6 := hb6.size
            have HOL6 := Lib.hid (HOL4.out.grow hb6)
            have hg6 := (hb6.block w.heap.size (by omega)).trans (HGB.out _ HG4.out)
            have HB6 := Lib.hid ((HBB.out _ HG4.out).trans (hb6.mono (HBB.out _ HG4.out).size))
            have hbx6 : w6.heap[w2.heap.size]? = some (.cells #[.slice A1 n1 q1, .slice A2 n2 q2, .slice A3 n3 q3, .slice A4 n4 q4] 29 (0, 0)) := (hb6.block _ (by omega)).trans HBX4.out
            clear hb6
            obtain ⟨⟨d0, d1, d2, d3⟩, f0, f1, f2, f3⟩ := res_cells hg6
            by_cases hck : check L = 0
            · have hk1 : (check L != 0) = false := by simp [hck]
              have hk2 : (check L == 0) = true := by simp [hck]
              rw [if_neg (by simpa using hck)] at HD2
              clear hck b0 b1 b2 b3
              obtain ⟨b0, b1, b2, b3⟩ : w6.cell? ⟨w2.heap.size, 0, none⟩ = some (.slice A1 n1 q1) ∧ w6.cell? ⟨w2.heap.size, 1, none⟩ = some (.slice A2 n2 q2) ∧ w6.cell? ⟨w2.heap.size, 2, none⟩ = some (.slice A3 n3 q3) ∧ w6.cell? ⟨w2.heap.size, 3, none⟩ = some (.slice A4 n4 q4) := by simp [World.cell?, hbx6]
              have hfin := four_set (v0 := .slice A1 n1 q1) (v1 := .slice A2 n2 q2) (v2 := .slice A3 n3 q3) (v3 := .slice A4 n4 q4) hg6
              have hbf := ((((HB6.out.setCell (p := ⟨w.heap.size, 0, none⟩) (Nat.le_refl _) (.slice A1 n1 q1)).setCell (p := ⟨w.heap.size, 1, none⟩) (Nat.le_refl _) (.slice A2 n2 q2)).setCell (p := ⟨w.heap.size, 2, none⟩) (Nat.le_refl _) (.slice A3 n3 q3)).setCell (p := ⟨w.heap.size, 3, none⟩) (Nat.le_refl _) (.slice A4 n4 q4))
              have hof := OwnL.put (OwnL.put (OwnL.put (OwnL.put HOL6.out hw1z (j := 0) (u := .slice A1 n1 q1)) hw1z (j := 1) (u := .slice A2 n2 q2)) hw1z (j := 2) (u := .slice A3 n3 q3)) hw1z (j := 3) (u := .slice A4 n4 q4)
              obtain ⟨X, hX, e0, e1, e2, e3, hbX, hoX⟩ : ∃ X, (((w6.setCell ⟨w.heap.size, 0, none⟩ (.slice A1 n1 q1)).setCell ⟨w.heap.size, 1, none⟩ (.slice A2 n2 q2)).setCell ⟨w.heap.size, 2, none⟩ (.slice A3 n3 q3)).setCell ⟨w.heap.size, 3, none⟩ (.slice A4 n4 q4) = X ∧ X.cell? ⟨w.heap.size, 0, none⟩ = some (.slice A1 n1 q1) ∧ X.cell? ⟨w.heap.size, 1, none⟩ = some (.slice A2 n2 q2) ∧ X.cell? ⟨w.heap.size, 2, none⟩ = some (.slice A3 n3 q3) ∧ X.cell? ⟨w.heap.size, 3, none⟩ = some (.slice A4 n4 q4) ∧ Below w.heap.size w X ∧ OwnL X w1.heap.size ⟨A1, n1, q1, A2, n2, q2, A3, n3, q3, A4, n4, q4⟩ L :=
                ⟨_, rfl, Lib.cell_of_heap hfin 0, Lib.cell_of_heap hfin 1, Lib.cell_of_heap hfin 2, Lib.cell_of_heap hfin 3, hbf, hof⟩
              have HX := Lib.hid hX
              have HBX := Lib.hid hbX
              have HOX := Lib.hid hoX
              clear hX hbX hoX hfin hbf hof hbx6 hg6
              go_wp2_with fail
              try rw [HX.out]
              refine bodyPost_ret (v := .tuple #[.agg #[.slice A1 n1 q1, .slice A2 n2 q2, .slice A3 n3 q3, .slice A4 n4 q4], .int .i64 0, .int .i64 0]) (by simp [results, Try.results22, go_sem, e0, e1, e2, e3]) rfl ?_
              rw [HD2.out]
              exact ⟨⟨A1, n1, q1, A2, n2, q2, A3, n3, q3, A4, n4, q4⟩, rfl, HOX.out.rd ⟨by show n1 ≤ 100000; omega, by show n2 ≤ 100000; omega, by show n3 ≤ 100000; omega, by show n4 ≤ 100000; omega⟩ (fun a ha => Nat.le_trans (HSM.out.1 a ha) (by omega)) (fun a ha => Nat.le_trans (HSM.out.2.1 a ha) (by omega)) (fun a ha => Nat.le_trans (HSM.out.2.2 a ha) (by omega)), HBX.out⟩
            · have hk1 : (check L != 0) = true := by simp [hck]
              have hk2 : (check L == 0) = false := by simp [hck]
              rw [if_pos (by simpa using hck)] at HD2
              clear hck
              obtain ⟨X, hX, ⟨e0, e1, e2, e3⟩, hbX⟩ := zero_fin (Nat.le_refl w.heap.size) hg6 HB6.out
              have HX := Lib.hid hX
              have HBX := Lib.hid hbX
              clear hX hbX hbx6 hg6
              go_wp2_with fail
              try rw [HX.out]
              refine bodyPost_ret (v := .tuple #[.agg #[.slice none 0 0, .slice none 0 0, .slice none 0 0, .slice none 0 0], .int .i64 0, .int .i64 (check L)]) (by simp [results, Try.results22, go_sem, e0, e1, e2, e3]) rfl (dec_zero HD2.out HBX.out)
          · have hp1 : ((p2' : Int) != (s.size : Int)) = true := by simp; omega
            have hp2 : ((p2' : Int) == (s.size : Int)) = false := by simp; omega
            rw [if_pos hpz] at HD2
            clear hpz
            obtain ⟨⟨d0, d1, d2, d3⟩, f0, f1, f2, f3⟩ := res_cells (HGB.out _ HG4.out)
            obtain ⟨X, hX, ⟨e0, e1, e2, e3⟩, hbX⟩ := zero_fin (Nat.le_refl w.heap.size) (HGB.out _ HG4.out) (HBB.out _ HG4.out)
            have hne : W0.heap.size ≠ w.heap.size := by have := HZ0.out; omega
            have hq := (Cu.past (g := w.heap.size) (j := 3) (Cu.past (g := w.heap.size) (j := 2) (Cu.past (g := w.heap.size) (j := 1) (Cu.past (g := w.heap.size) (j := 0) HC4.out hne (.slice none 0 0)) hne (.slice none 0 0)) hne (.slice none 0 0)) hne (.slice none 0 0)).cells.2.1
            simp only at hq
            have HX := Lib.hid hX
            have HBX := Lib.hid hbX
            clear hX hbX
            go_upto_region 13 with fail
            go_region
            all_goals (
              go_wp2_with fail
              try rw [HX.out]
              refine bodyPost_ret (v := .tuple #[.agg #[.slice none 0 0, .slice none 0 0, .slice none 0 0, .slice none 0 0], .int .i64 p2', .int .i64 2]) (by simp [results, Try.results22, go_sem, e0, e1, e2, e3]) rfl (dec_zero HD2.out HBX.out.drew))
        · have hx1 : ((x : Int) != (cs : Int)) = true := by simp; omega
          have hx2 : ((x : Int) == (cs : Int)) = false := by simp; omega
          rw [if_pos hxc] at HD2
          clear hxc
          obtain ⟨⟨d0, d1, d2, d3⟩, f0, f1, f2, f3⟩ := res_cells (HGB.out _ HG4.out)
          obtain ⟨X, hX, ⟨e0, e1, e2, e3⟩, hbX⟩ := zero_fin (Nat.le_refl w.heap.size) (HGB.out _ HG4.out) (HBB.out _ HG4.out)
          have HX := Lib.hid hX
          have HBX := Lib.hid hbX
          clear hX hbX
          go_wp2_with fail
          try rw [HX.out]
          refine bodyPost_ret (v := .tuple #[.agg #[.slice none 0 0, .slice none 0 0, .slice none 0 0, .slice none 0 0], .int .i64 p1', .int .i64 9]) (by simp [results, Try.results22, go_sem, e0, e1, e2, e3]) rfl (dec_zero HD2.out HBX.out)
end Go.Proofs.Ytepbdcnjhbaehaa.PDec
