/-
  Plain mathematics: how long the lines and words of a text can be. No program in it.
  Contracts of the program's small functions on the words of a line: their texts, ends, positions; a name's number declared.
  Contract of the program's function that adds a name to the stations or to the points.
  The draft of a layout in memory, while its text is read.
  Contract of the program's function that takes a line of a section into the draft.
  Contract of the program's function that takes a line of a link into the draft.
  Contract of the program's function that takes a line into the draft.
-/
import Derived.Test.YtkfobijgjdgbgaaDoorLin
import Derived.Test.YtkfobijgjdgbgaaDoorLayT
import Derived.Test.YtkfobijgjdgbgaaDoorRecs
import Derived.Test.YtkfobijgjdgbgaaDoorKeep
import Derived.Test.YtkfobijgjdgbgaaDoorRNames
import Derived.Test.YtkfobijgjdgbgaaDoorBldr
import Derived.Deep.RegionHeld3
import Derived.Deep.RegionLaw
import Derived.Deep.AppendLies
import Derived.Test.YtkfobijgjdgbgaaDoorPHops
import Derived.Test.YtkfobijgjdgbgaaDoorNum
import Derived.Deep.QuietTactic
import Derived.BigQuiet
import Derived.StillTailTactics
namespace Go.Proofs.YtkfobijgjdgbgaaDoor.Bnd
open Wd Lin

theorem addTo_max {L : List W} {n : Nat} (b : UInt8) (h : ∀ x ∈ L, x.1.length ≤ n) : ∀ x ∈ addTo L b, x.1.length ≤ n + 1 := by
  rcases List.eq_nil_or_concat L with rfl | ⟨M, ⟨t, y⟩, rfl⟩
  · intro x hx; simp [addTo] at hx
  · rw [List.concat_eq_append] at h ⊢
    rw [addTo_snoc]
    intro x hx
    rw [List.mem_append] at hx
    rcases hx with hx | hx
    · have := h x (List.mem_append_left _ hx); omega
    · have h2 := h (t, y) (by simp)
      simp at hx; subst hx
      simp only [List.length_append, List.length_cons, List.length_nil]
      simp only at h2
      omega
theorem wst_max (ln : Int) : ∀ (r : Bs) (L : List W) (p : Bool) (k n : Nat), (∀ x ∈ L, x.1.length ≤ n) → ∀ x ∈ wst ln L p k r, x.1.length ≤ n + r.length + 1
  | [], L, p, k, n, h => fun x hx => by have := h x hx; simp; omega
  | b :: r, L, p, k, n, h => by
    intro x hx
    unfold wst at hx
    split at hx
    · split at hx
      · have := wst_max ln r (addTo L b) true (k + 1) (n + 1) (addTo_max b h) x hx
        simp only [List.length_cons]; omega
      · have := wst_max ln r (L ++ [([b], ln, (k : Int) + 1)]) true (k + 1) (n + 1) (fun y hy => by
          rw [List.mem_append] at hy
          rcases hy with hy | hy
          · have := h y hy; omega
          · simp at hy; subst hy; simp) x hx
        simp only [List.length_cons]; omega
    · have := wst_max ln r L false (k + 1) n h x hx
      simp only [List.length_cons]; omega
theorem lineWords_max (ln : Int) (l : Bs) : ∀ x ∈ lineWords ln l, x.1.length ≤ l.length + 1 := by
  intro x hx
  have := wst_max ln (code l) [] false 0 0 (by simp) x hx
  have h2 : (code l).length ≤ l.length := by
    unfold code
    exact List.Sublist.length_le (List.takeWhile_sublist _)
  omega
theorem split_max : ∀ (l : Bs), (∀ x ∈ split l, x.length ≤ l.length) ∧ (split l).length ≤ l.length + 1
  | [] => by simp [split]
  | b :: r => by
    obtain ⟨h1, h2⟩ := split_max r
    unfold split
    split
    · refine ⟨fun x hx => ?_, ?_⟩
      · simp only [List.mem_cons] at hx
        rcases hx with rfl | hx
        · simp
        · have := h1 x hx; simp; omega
      · simp; omega
    · split
      · refine ⟨fun x hx => ?_, ?_⟩
        · simp at hx; subst hx; simp
        · simp
      · next h t he =>
        rw [he] at h1 h2
        refine ⟨fun x hx => ?_, ?_⟩
        · simp only [List.mem_cons] at hx
          rcases hx with rfl | hx
          · have := h1 h (by simp); simp; omega
          · have := h1 x (by simp [hx]); simp; omega
        · simp only [List.length_cons] at h2 ⊢; omega
/-- a line of words, as a text can have it -/
def Fit (w : List W) : Prop := w ≠ [] ∧ w.length ≤ 64 ∧ ∀ x ∈ w, x.1.length ≤ 65537
theorem one_more {m : Nat} (T : List (List W)) (x : List W) (h : T.length ≤ m) : (if x.length = 0 then T else T ++ [x]).length ≤ m + 1 := by
  split
  · omega
  · simp; omega
theorem go_max : ∀ (ls : List Bs) (T : List (List W)) (ln : Int) (m : Nat), (∀ w ∈ T, Fit w) → T.length ≤ m → (∀ l ∈ ls, l.length ≤ 65536) → (∀ w ∈ (go T ln ls).1, Fit w) ∧ (go T ln ls).1.length ≤ m + ls.length
  | [], T, ln, m, h, hm, _ => ⟨h, by simp [go]; omega⟩
  | l :: r, T, ln, m, h, hm, hl => by
    unfold go
    split
    · next he =>
      have hw : (lineWords ln l).length ≤ 64 := by
        unfold lineErr at he
        split at he
        · cases he
        · split at he
          · cases he
          · omega
      have := go_max r (if (lineWords ln l).length = 0 then T else T ++ [lineWords ln l]) (ln + 1) (m + 1) (by
        split
        · exact h
        · next hne =>
          intro w hw2
          rw [List.mem_append] at hw2
          rcases hw2 with hw2 | hw2
          · exact h w hw2
          · simp at hw2; subst hw2
            exact ⟨fun e => hne (by rw [e]; rfl), hw, fun x hx => by have h1 := lineWords_max ln l x hx; have h2 := hl l (by simp); omega⟩) (one_more T (lineWords ln l) hm) (fun x hx => hl x (by simp [hx]))
      exact ⟨this.1, by simp only [List.length_cons]; omega⟩
    · exact ⟨by simp, by simp⟩
theorem lines_max (l : Bs) : (∀ w ∈ (linesOf l).1, Fit w) ∧ (linesOf l).1.length ≤ 65537 := by
  unfold linesOf
  split
  · exact ⟨by simp, by simp⟩
  · obtain ⟨h1, h2⟩ := split_max l
    have := go_max (split l) [] 1 0 (by simp) (by simp) (fun x hx => by have := h1 x hx; omega)
    exact ⟨this.1, by omega⟩
end Go.Proofs.YtkfobijgjdgbgaaDoor.Bnd

namespace Go.Proofs.YtkfobijgjdgbgaaDoor.Txt
open Go.ChangeShapes Go.WideShapes Go.ChangeAt Go.RowKit Wd Small Mem Lay LayT Recs Keep Names PNames PSecs PEnds RNames
set_option linter.unusedVariables false

set_option maxRecDepth 100000 in
set_option maxHeartbeats 1000000 in
theorem texts_of (A : Option Addr) (n c : Nat) (L : List Lin.W) (w : World) (hL : Words w w.heap.size A n L) (hn : n ≤ 100000) : Calls Tryd.prog 37 #[.slice A n c] w (StrsPost (texts L) w) := by
  obtain ⟨ih, hih, hz0, hz1, hz2⟩ := info_parts infoS
  have E : Hid ((texts L).take 0 = []) := rfl
  go_enter Tryd.func37, Tryd.ntmps37
  go_wp2_with fail
  go_loopw [3, 8] (fun t i wr => ∃ (k c : Nat) (A : Option Addr), k ≤ n ∧ i = .int .i64 k ∧ t = .slice A k c ∧ Recs.Own sR wr w.heap.size (.slice A k c) k ((texts L).take k) ∧ Below w.heap.size w wr) (fun _ i _ => n - (intOf i).toNat)
  case atStart => exact ⟨0, 0, none, Nat.zero_le _, rfl, rfl, by rw [E.out]; exact Recs.Own.nil _ _, Below.refl _ _⟩
  case round =>
    obtain ⟨k, c', A', hk, rfl, rfl, hO, hbw⟩ := hrel
    clear E
    have hzW := hbw.size
    by_cases hlt : k < n
    · obtain ⟨ad, s, rfl, hab, hs, d0, d1, d2⟩ := (hL.below hbw).load hlt
      have HT := Lib.hid (take_succ (L := texts L) (k := k) (s := s.1) (by simp [texts, hs]))
      obtain ⟨wa, hwa⟩ : ∃ wa, wr.alloc (.cells #[.string (str s.1), .int .i64 s.2.1, .int .i64 s.2.2] 74) = wa := ⟨_, rfl⟩
      have hba : Below wr.heap.size wr wa := by rw [← hwa]; exact (Below.refl _ _).alloc (Nat.le_refl _) _
      have hza : wr.heap.size < wa.heap.size := by rw [← hwa]; simp
      have e0 : wa.cell? ⟨wr.heap.size, 0, none⟩ = some (.string (str s.1)) := by rw [← hwa]; simp
      have hkn : (k : Int) < (n : Int) := by omega
      have hn63 : k + 1 ≤ maxLen := by unfold maxLen; omega
      have hby : (k + 1) * 16 ≤ 140737488355328 := by omega
      have HO := Lib.hid (hO.below hba (Nat.le_refl _))
      have HBW := Lib.hid (hbw.trans (hba.mono hzW))
      have hbs : w.heap.size ≤ wa.heap.size := by omega
      clear hL hO hs hba
      go_upto_region 5 with fail
      clear hwa d0 d1 d2
      go_wp2_with (at_builtin; refine wpList_append_own _ rfl _ _ 22 rfl w.heap.size 9 ih _ 1 16 Tryd.underlying22 hih hz0 hz1 hz2 rfl (by omega) (.slice A' k c') k (sR.cs ((texts L).take k)) rfl (HO.out.2.alloc _) ⟨wa.heap.size, 0, none⟩ 1 1 [.string (str s.1)] rfl rfl (cell_one_new _ _ _) (one_cell _ rfl) hn63 hby (by simp; omega) ?_)
      intro v w1 hown hgrow _
      obtain ⟨A2, c2, hv, hO', hb'⟩ := appended (R := sR) (a := s.1) HBW.out hbs HO.out.1 HO.out.2 hown hgrow
      rw [← HT.out] at hO'
      have HO2 := Lib.hid hO'
      rw [hv]
      clear hown hgrow hv hO' HO e0
      go_wp2_with fail
      go_roundw
      case rel => exact ⟨k + 1, c2, A2, by omega, by go_num, rfl, HO2.out, hb'⟩
      case measure => simp [intOf]; omega
    · have HX : Hid ((texts L).take k = texts L) := List.take_of_length_le (by have := hL.1; simp [texts]; omega)
      rw [HX.out] at hO
      go_wp2_with fail
      go_ret
      exact ⟨A', k, c', rfl, hO, hbw⟩

/-- what a call leaves that answers a number and whether there is one, and leaves the world alone -/
def Two (x : Int) (b : Bool) (w : World) (e : Ending) (w' : World) : Prop := e = .returned (.tuple #[.int .i64 x, .bool b]) ∧ w = w'
theorem ret_two {x y : Int} {b c : Bool} (h1 : x = y) (h2 : b = c) : Ending.returned (.tuple #[.int .i64 y, .bool c]) = .returned (.tuple #[.int .i64 x, .bool b]) := by rw [h1, h2]
def endV (s : Bs) : Int := if s = [65] then 0 else if s = [66] then 1 else 0
def endB (s : Bs) : Bool := decide (s = [65]) || decide (s = [66])
theorem str_eq1 (s : Bs) (b : UInt8) : ((str s).toList == [b]) = decide (s = [b]) := by
  rw [Bool.eq_iff_iff]
  simp only [beq_iff_eq, decide_eq_true_eq]
  rw [show (str s).toList = s from by rw [Lib.toList_data]; exact str_toList s]
theorem end_of (s : Bs) (w : World) : Calls Tryd.prog 93 #[.string (str s)] w (Two (endV s) (endB s) w) := by
  have E1 := Lib.hid (str_eq1 s 65)
  have E2 := Lib.hid (str_eq1 s 66)
  cases h1 : ((str s).toList == [65]) with
  | true =>
    have HX : Hid (endV s = 0 ∧ endB s = true) := by
      rw [E1.out] at h1
      have h := of_decide_eq_true h1
      subst h
      exact ⟨rfl, rfl⟩
    clear E1 E2
    go_enter Tryd.func93, Tryd.ntmps93
    go_wp2
    go_ret2
    exact ⟨ret_two HX.out.1 HX.out.2, rfl⟩
  | false =>
    cases h2 : ((str s).toList == [66]) with
    | true =>
      have HX : Hid (endV s = 1 ∧ endB s = true) := by
        rw [E2.out] at h2
        have h := of_decide_eq_true h2
        subst h
        exact ⟨rfl, rfl⟩
      clear E1 E2
      go_enter Tryd.func93, Tryd.ntmps93
      go_wp2
      go_ret2
      exact ⟨ret_two HX.out.1 HX.out.2, rfl⟩
    | false =>
      have HX : Hid (endV s = 0 ∧ endB s = false) := by
        rw [E1.out] at h1
        rw [E2.out] at h2
        have h := of_decide_eq_false h1
        have h' := of_decide_eq_false h2
        unfold endV endB
        rw [if_neg h, if_neg h', decide_eq_false h, decide_eq_false h']
        exact ⟨rfl, rfl⟩
      clear E1 E2
      go_enter Tryd.func93, Tryd.ntmps93
      go_wp2
      go_ret2
      exact ⟨ret_two HX.out.1 HX.out.2, rfl⟩
def posV (s : Bs) : Int := if s = [49] then 1 else 0
def posB (s : Bs) : Bool := s == [48] || s == [49]
theorem position_of (s : Bs) (w : World) : Calls Tryd.prog 94 #[.string (str s)] w (Two (posV s) (posB s) w) := by
  have E1 := Lib.hid (str_eq1 s 48)
  have E2 := Lib.hid (str_eq1 s 49)
  cases h1 : ((str s).toList == [48]) with
  | true =>
    have HX : Hid (posV s = 0 ∧ posB s = true) := by
      rw [E1.out] at h1
      have h := of_decide_eq_true h1
      subst h
      exact ⟨rfl, rfl⟩
    clear E1 E2
    go_enter Tryd.func94, Tryd.ntmps94
    go_wp2
    go_ret2
    exact ⟨ret_two HX.out.1 HX.out.2, rfl⟩
  | false =>
    cases h2 : ((str s).toList == [49]) with
    | true =>
      have HX : Hid (posV s = 1 ∧ posB s = true) := by
        rw [E2.out] at h2
        have h := of_decide_eq_true h2
        subst h
        exact ⟨rfl, rfl⟩
      clear E1 E2
      go_enter Tryd.func94, Tryd.ntmps94
      go_wp2
      go_ret2
      exact ⟨ret_two HX.out.1 HX.out.2, rfl⟩
    | false =>
      have HX : Hid (posV s = 0 ∧ posB s = false) := by
        rw [E1.out] at h1
        rw [E2.out] at h2
        have h := of_decide_eq_false h1
        have h' := of_decide_eq_false h2
        unfold posV posB
        rw [if_neg h']
        exact ⟨rfl, by simp [h, h']⟩
      clear E1 E2
      go_enter Tryd.func94, Tryd.ntmps94
      go_wp2
      go_ret2
      exact ⟨ret_two HX.out.1 HX.out.2, rfl⟩

/-- what a call leaves that gives a name its number -/
def NumPost (b n : Nat) (L : List Bs) (s : Bs) (w : World) (e : Ending) (w' : World) : Prop := e = .returned (.tuple #[]) ∧ Nums w' b (n + 1) (L ++ [s]) ∧ w.grownBy w' (some b)
set_option maxRecDepth 100000 in
set_option maxHeartbeats 1000000 in
theorem declare_any (b n : Nat) (L : List Bs) (s : Bs) (w : World) (h : Nums w b n L) (hs : s.length ≤ 9223372036854775807) (hn : n < 9223372036854775807) (hL : L.length ≤ 9223372036854775807) :
    Calls Tryd.prog 91 #[.map (some b), .string (str s), .int .i64 (L.length : Nat)] w (NumPost b n L s w) := by
  have hl := h.look hs
  have H := Lib.hid h
  cases hp : decide (0 ≤ place 0 L s) with
  | true =>
    have HA := Lib.hid ((h.again (of_decide_eq_true hp)).mono (Nat.le_succ n))
    rw [hp] at hl
    clear h hp
    go_enter Tryd.func91, Tryd.ntmps91
    go_wp2_with fail
    go_end0
    exact ⟨rfl, HA.out, World.grownBy.refl w _⟩
  | false =>
    have hneg : place 0 L s < 0 := by have := of_decide_eq_false hp; omega
    have HN := Lib.hid hneg
    rw [hp] at hl
    clear h hp hneg
    go_enter Tryd.func91, Tryd.ntmps91
    go_wp2_with (at_mapUpdate; refine wpList_num _ rfl _ _ _ rfl b n L s _ rfl H.out hs hn HN.out rfl hL rfl rfl ?_; intro w1 hS hg)
    go_end0
    exact ⟨rfl, hS, hg⟩
end Go.Proofs.YtkfobijgjdgbgaaDoor.Txt

namespace Go.Proofs.YtkfobijgjdgbgaaDoor.App
open Go.ChangeShapes Go.WideShapes Go.ChangeAt Go.RowKit Wd Small Mem Lay LayT Recs Keep Names PNames PSecs PEnds RNames Txt
set_option linter.unusedVariables false

theorem frozen_same {w w' : World} {p : Addr} (h : w'.heap[p.block]? = w.heap[p.block]?) : w'.frozen? p = w.frozen? p := by
  unfold World.frozen?
  rw [h]
theorem cell_same {w w' : World} {p : Addr} (h : w'.heap[p.block]? = w.heap[p.block]?) : w'.cell? p = w.cell? p := by
  unfold World.cell?
  rw [h]
/-- the operands of a line: names that lie behind block g -/
def Opn (w : World) (g : Nat) (A : Option Addr) (n : Nat) (O : List Bs) : Prop := Recs.Rd sR w w.heap.size A n O ∧ ∀ ad, A = some ad → g < ad.block
/-- what a call leaves that has put a name behind the list of cell j of block g -/
def AppPost (g j m k base n c : Nat) (A : Option Addr) (L : List Bs) (s : Bs) (w : World) (e : Ending) (w' : World) : Prop :=
  ∃ A' c' wn, e = .returned (.int .i64 0) ∧ Nums wn m (k + 1) (L ++ [s]) ∧ Recs.Own sR wn base (.slice A' (n + 1) c') (n + 1) (L ++ [s]) ∧
    (∀ b, (Value.slice A' (n + 1) c').ownBlock = some b → (Value.slice A n c).ownBlock = some b ∨ w.heap.size ≤ b) ∧
    (∃ wm, w.grownBy wm (some m) ∧ wm.grownBy wn (Value.slice A n c).ownBlock) ∧ w' = wn.setCell ⟨g, j, none⟩ (.slice A' (n + 1) c')

set_option maxRecDepth 100000 in
theorem append_no (g j m n c : Nat) (B : Option Addr) (p q : Nat) (w : World) (hp : p ≠ 1) (hp2 : p ≤ 100) :
    Calls Tryd.prog 69 #[.pointer (some ⟨g, j, none⟩), .map (some m), .slice B p q] w (ErrPost 2 w) := by
  have h : ((p : Int) != 1) = true := by rw [bne_iff_ne]; omega
  go_enter Tryd.func69, Tryd.ntmps69
  go_wp2_with fail
  go_ret
  exact ⟨rfl, Below.refl _ _⟩

set_option maxRecDepth 100000 in
set_option maxHeartbeats 2000000 in
theorem append_one (g j m k base n c : Nat) (A : Option Addr) (L : List Bs) (B : Option Addr) (q : Nat) (s : Bs) (w : World) (hc : w.cell? ⟨g, j, none⟩ = some (.slice A n c)) (hf : w.frozen? ⟨g, j, none⟩ = false)
    (hO : Recs.Own sR w base (.slice A n c) n L) (hN : Nums w m k L) (hP : Opn w g B 1 [s]) (hg : g < base) (hmg : m < g) (hbase : base ≤ w.heap.size) (hk : k ≤ 100000) (hn : n ≤ k) (hs : s.length ≤ 65537) :
    Calls Tryd.prog 69 #[.pointer (some ⟨g, j, none⟩), .map (some m), .slice B 1 q] w (AppPost g j m k base n c A L s w) := by
  obtain ⟨ih, hih, hz0, hz1, hz2⟩ := info_parts infoS
  obtain ⟨ad, t, rfl, hab, ht, x0⟩ := loadS hP.1 (show 0 < 1 by omega)
  obtain rfl : s = t := by simpa using ht
  have hadg := hP.2 ad rfl
  have hgw : g < w.heap.size := by omega
  have x0' : w.cell? ad = some (.string (str s)) := x0
  have KA : Hid (∀ w', Below w.heap.size w w' → w'.cell? ⟨g, j, none⟩ = some (.slice A n c) ∧ w'.cell? ad = some (.string (str s))) := fun w' hb => ⟨(hb.cell (p := ⟨g, j, none⟩) hgw).trans hc, (hb.cell hab).trans x0'⟩
  have KB : Hid (∀ w', w.drew.grownBy w' (some m) → w'.cell? ⟨g, j, none⟩ = some (.slice A n c) ∧ w'.cell? ad = some (.string (str s))) := fun w' hb =>
    ⟨(grown_cell (p := ⟨g, j, none⟩) hb hgw (by simp; omega)).trans hc, (grown_cell hb hab (by simp; omega)).trans x0'⟩
  have HOL : Hid (∀ wq, w.drew.grownBy wq (some m) → Recs.Own sR wq base (.slice A n c) n L) := fun wq hq => Recs.Own.grown (w := w.drew) (hO.drewN 1) hq (by
    cases hv : (Value.slice A n c).ownBlock with
    | none => exact .inl rfl
    | some b => exact .inr (fun e => by have := (hO.2.lt b hv).1; injection e; omega))
  have HGL : Hid (∀ b, (Value.slice A n c).ownBlock = some b → base ≤ b ∧ b < w.heap.size) := fun b hb => hO.2.lt b hb
  have hD0 := fun wx (h : Nums wx m k L) => declare_any m k L s wx h (by omega) (by omega) (by have := hO.1; omega)
  rw [hO.1] at hD0
  have HD := Lib.hid hD0
  have HN := Lib.hid hN
  have HF := Lib.hid hf
  have hn63 : n + 1 ≤ maxLen := by unfold maxLen; omega
  have hby : (n + 1) * 16 ≤ 140737488355328 := by omega
  clear hc hf hO hN hP x0 ht hD0
  go_enter Tryd.func69, Tryd.ntmps69
  go_upto_region 3 with fail
  have hb0 := Below.refl w.heap.size w
  go_region_held3 (fun w' => w'.cell? ⟨g, j, none⟩ = some (.slice A n c) ∧ w'.cell? ad = some (.string (str s)))
    (first | exact KA.out _ hb0.drew | exact KB.out _ hgq)
    ((go_at_call 91; refine (HD.out w.drew HN.out).mono ?_; rintro e wq ⟨rfl, hNq, hgq⟩))
  obtain ⟨hcq, hxq⟩ := KB.out _ hgq
  have hzq := hgq.size
  have hzq' : w.heap.size ≤ wq.heap.size := hzq
  have hfq : wq.frozen? ⟨g, j, none⟩ = false := (frozen_same (p := ⟨g, j, none⟩) (hgq.block g hgw (by simp; omega))).trans HF.out
  have HOq := Lib.hid (HOL.out _ hgq)
  have HNq := Lib.hid hNq
  have HGq := Lib.hid hgq
  have hgwq : g < wq.heap.size := by omega
  clear hgq hNq hzq HD KA KB HOL hb0
  go_upto_region 4 with fail
  have HCQ := Lib.hid hcq
  have HFQ := Lib.hid hfq
  go_region_law (refine step_append_lies _ (by rfl) _ _ _ (by rfl) base 9 ih _ 1 16 Tryd.underlying22 hih hz0 hz1 hz2 rfl (by omega) (.slice A n c) n (sR.cs L) (by rfl) (HOq.out.2.alloc _) ⟨wq.heap.size, 0, none⟩ 1 1 [.string (str s)] (by rfl) (by rfl) (World.news_of_block (cs := #[.string (str s)]) (t := 9) (fr := (0, 0)) (heap_alloc_new wq _)) (by simp [Value.oneCell']) (by omega) hn63 hby (by simp; omega) (wq.heap.size + 1) (by simp) ?_; intro gg cap w7 hown7 hgrow7 hat7 hlt7; have hg7 : w7.heap[g]? = wq.heap[g]? := (hgrow7.block g (by simp; omega) (fun e => by have := HGL.out _ e.symm; omega)).trans (((Below.refl wq.heap.size wq).alloc (Nat.le_refl _) _).block g (by omega)); have k7 := (cell_same (p := ⟨g, j, none⟩) hg7).trans HCQ.out; have f7 := (frozen_same (p := ⟨g, j, none⟩) hg7).trans HFQ.out)
  all_goals
    have HO7 := Lib.hid (Recs.Own.push (R := sR) (a := s) HOq.out.1 hown7)
    have HN7 := Lib.hid (Nums.kept (w := (wq.alloc (.cells #[.string (str s)] 9)).drew) (HNq.out.alloc (.cells #[.string (str s)] 9)) hgrow7 (by
      intro e
      have := HGL.out _ e.symm
      omega))
    have HT7 : Hid (∃ wm, w.grownBy wm (some m) ∧ wm.grownBy w7 (Value.slice A n c).ownBlock) := ⟨wq, ⟨HGq.out.os, HGq.out.tape, HGq.out.output, HGq.out.size, HGq.out.block⟩, (grown_drew (World.grownBy_alloc wq _ _)).trans hgrow7⟩
    have HA7 : Hid (∀ b, (Value.slice (some ⟨gg, 0, none⟩) (n + 1) cap).ownBlock = some b → (Value.slice A n c).ownBlock = some b ∨ w.heap.size ≤ b) := fun b hb => by
      have hb' : gg = b := by simpa [Value.ownBlock] using hb
      subst hb'
      rcases hat7 with h | h
      · exact .inl h
      · exact .inr (by omega)
    clear hown7 hgrow7 hat7 hlt7 hg7
    go_wp2_with fail
    go_ret
    exact ⟨_, _, w7, rfl, HN7.out, HO7.out, HA7.out, HT7.out, rfl⟩
end Go.Proofs.YtkfobijgjdgbgaaDoor.App

namespace Go.Proofs.YtkfobijgjdgbgaaDoor.Dft
open Go.ChangeShapes Go.WideShapes Go.ChangeAt Go.RowKit Wd Small Mem Lay LayT Recs Keep Names PNames PSecs PEnds RNames Txt App
set_option linter.unusedVariables false

/-- the draft's block: four slices, three maps -/
def BlkD (w : World) (g : Nat) (v0 v1 v2 v3 : Value) (m1 m2 m3 : Nat) : Prop := w.heap[g]? = some (.cells #[v0, v1, v2, v3, .map (some m1), .map (some m2), .map (some m3)] 77)
section
variable {w w' : World} {g : Nat} {v0 v1 v2 v3 : Value} {m1 m2 m3 : Nat}
theorem BlkD.lt (h : BlkD w g v0 v1 v2 v3 m1 m2 m3) : g < w.heap.size := lt_of_block h
theorem BlkD.c0 (h : BlkD w g v0 v1 v2 v3 m1 m2 m3) : w.cell? ⟨g, 0, none⟩ = some v0 := by unfold BlkD at h; simp [World.cell?, h]
theorem BlkD.c1 (h : BlkD w g v0 v1 v2 v3 m1 m2 m3) : w.cell? ⟨g, 1, none⟩ = some v1 := by unfold BlkD at h; simp [World.cell?, h]
theorem BlkD.c2 (h : BlkD w g v0 v1 v2 v3 m1 m2 m3) : w.cell? ⟨g, 2, none⟩ = some v2 := by unfold BlkD at h; simp [World.cell?, h]
theorem BlkD.c3 (h : BlkD w g v0 v1 v2 v3 m1 m2 m3) : w.cell? ⟨g, 3, none⟩ = some v3 := by unfold BlkD at h; simp [World.cell?, h]
theorem BlkD.c4 (h : BlkD w g v0 v1 v2 v3 m1 m2 m3) : w.cell? ⟨g, 4, none⟩ = some (.map (some m1)) := by unfold BlkD at h; simp [World.cell?, h]
theorem BlkD.c5 (h : BlkD w g v0 v1 v2 v3 m1 m2 m3) : w.cell? ⟨g, 5, none⟩ = some (.map (some m2)) := by unfold BlkD at h; simp [World.cell?, h]
theorem BlkD.c6 (h : BlkD w g v0 v1 v2 v3 m1 m2 m3) : w.cell? ⟨g, 6, none⟩ = some (.map (some m3)) := by unfold BlkD at h; simp [World.cell?, h]
theorem BlkD.f (h : BlkD w g v0 v1 v2 v3 m1 m2 m3) (j : Nat) : w.frozen? ⟨g, j, none⟩ = false := by unfold BlkD at h; simp [World.frozen?, h]
theorem BlkD.same (h : BlkD w g v0 v1 v2 v3 m1 m2 m3) (hh : w'.heap[g]? = w.heap[g]?) : BlkD w' g v0 v1 v2 v3 m1 m2 m3 := hh.trans h
theorem BlkD.put0 (h : BlkD w g v0 v1 v2 v3 m1 m2 m3) (v : Value) : BlkD (w.setCell ⟨g, 0, none⟩ v) g v v1 v2 v3 m1 m2 m3 := by unfold BlkD at *; simp [World.setCell, Array.getElem?_modify, h]
theorem BlkD.put1 (h : BlkD w g v0 v1 v2 v3 m1 m2 m3) (v : Value) : BlkD (w.setCell ⟨g, 1, none⟩ v) g v0 v v2 v3 m1 m2 m3 := by unfold BlkD at *; simp [World.setCell, Array.getElem?_modify, h]
theorem BlkD.put2 (h : BlkD w g v0 v1 v2 v3 m1 m2 m3) (v : Value) : BlkD (w.setCell ⟨g, 2, none⟩ v) g v0 v1 v v3 m1 m2 m3 := by unfold BlkD at *; simp [World.setCell, Array.getElem?_modify, h]
theorem BlkD.put3 (h : BlkD w g v0 v1 v2 v3 m1 m2 m3) (v : Value) : BlkD (w.setCell ⟨g, 3, none⟩ v) g v0 v1 v2 v m1 m2 m3 := by unfold BlkD at *; simp [World.setCell, Array.getElem?_modify, h]
end

/-- a list of the draft -/
abbrev LV.s1 (v : LV) : Value := .slice v.A1 v.n1 v.c1
abbrev LV.s2 (v : LV) : Value := .slice v.A2 v.n2 v.c2
abbrev LV.s3 (v : LV) : Value := .slice v.A3 v.n3 v.c3
abbrev LV.s4 (v : LV) : Value := .slice v.A4 v.n4 v.c4
/-- block g is the draft that has declared the layout l in at most k lines -/
structure Dr (w : World) (g m1 m2 m3 k : Nat) (l : Lay) (v : LV) : Prop where
  blk : BlkD w g (.slice v.A1 v.n1 v.c1) (.slice v.A2 v.n2 v.c2) (.slice v.A3 v.n3 v.c3) (.slice v.A4 v.n4 v.c4) m1 m2 m3
  st : Recs.Own sR w (g + 1) (.slice v.A1 v.n1 v.c1) v.n1 l.stations
  pt : Recs.Own sR w (g + 1) (.slice v.A2 v.n2 v.c2) v.n2 l.points
  sec : Recs.Own secR w (g + 1) (.slice v.A3 v.n3 v.c3) v.n3 l.sections
  lnk : Recs.Own lnkR w (g + 1) (.slice v.A4 v.n4 v.c4) v.n4 l.links
  ne : ∀ b, (Value.slice v.A1 v.n1 v.c1).ownBlock = some b → (Value.slice v.A2 v.n2 v.c2).ownBlock ≠ some b
  q1 : Nums w m1 k l.stations
  q2 : Nums w m2 k l.points
  q3 : Nums w m3 k (l.sections.map Sec.name)
  ms : m1 < m2 ∧ m2 < m3 ∧ m3 < g
  b1 : v.n1 ≤ k
  b2 : v.n2 ≤ k
  b3 : v.n3 ≤ k
  b4 : v.n4 ≤ k
  z1 : ∀ s ∈ l.stations, s.length ≤ 65537
  z2 : ∀ s ∈ l.points, s.length ≤ 65537
  z3 : ∀ s ∈ l.sections, s.name.length ≤ 65537

section
variable {w wm wn w' : World} {g m m' k j : Nat} {u x : Value}
theorem set_grown (w : World) (g j : Nat) (x : Value) : w.grownBy (w.setCell ⟨g, j, none⟩ x) (some g) := grown_set (World.grownBy.refl w _) _
/-- a row through a step: a map has changed, another row has grown, block g was written -/
theorem own3 {α : Type} {R : Rec α} {v : Value} {n : Nat} {L : List α} (h : Recs.Own R w (g + 1) v n L) (hm : m < g) (h1 : w.grownBy wm (some m)) (h2 : wm.grownBy wn u.ownBlock) (hne : ∀ b, v.ownBlock = some b → u.ownBlock ≠ some b) : Recs.Own R (wn.setCell ⟨g, j, none⟩ x) (g + 1) v n L := by
  refine ((h.grown h1 ?_).grown h2 ?_).grown (set_grown wn g j x) ?_
  · cases hv : v.ownBlock with
    | none => exact .inl rfl
    | some b => exact .inr (fun e => by have := (h.2.lt b hv).1; injection e; omega)
  · cases hv : v.ownBlock with
    | none => exact .inl rfl
    | some b => exact .inr (fun e => hne b hv e.symm)
  · cases hv : v.ownBlock with
    | none => exact .inl rfl
    | some b => exact .inr (fun e => by have := (h.2.lt b hv).1; injection e; omega)
theorem num3 {L : List Bs} (h : Nums w m' k L) (hne : m' ≠ m) (hm : m' < g) (h1 : w.grownBy wm (some m)) (h2 : wm.grownBy wn u.ownBlock) (hu : ∀ b, u.ownBlock = some b → g < b) : Nums (wn.setCell ⟨g, j, none⟩ x) m' (k + 1) L := by
  refine Nums.mono (((h.kept h1 (by simp; exact hne)).kept h2 ?_).kept (set_grown wn g j x) (by simp; omega)) (Nat.le_succ k)
  intro e
  have := hu _ e.symm
  omega
theorem num2 {L : List Bs} (h : Nums wm m k L) (hm : m < g) (h2 : wm.grownBy wn u.ownBlock) (hu : ∀ b, u.ownBlock = some b → g < b) : Nums (wn.setCell ⟨g, j, none⟩ x) m k L := by
  refine (h.kept h2 ?_).kept (set_grown wn g j x) (by simp; omega)
  intro e
  have := hu _ e.symm
  omega
theorem num1 {L : List Bs} (h : Nums wn m k L) (hm : m < g) : Nums (wn.setCell ⟨g, j, none⟩ x) m k L := h.kept (set_grown wn g j x) (by simp; omega)
theorem blk3 {v0 v1 v2 v3 : Value} {m1 m2 m3 : Nat} (h : BlkD w g v0 v1 v2 v3 m1 m2 m3) (hm : m < g) (h1 : w.grownBy wm (some m)) (h2 : wm.grownBy wn u.ownBlock) (hu : ∀ b, u.ownBlock = some b → g < b) : BlkD wn g v0 v1 v2 v3 m1 m2 m3 := by
  have hg := h.lt
  refine (h.same (h1.block g hg (by simp; omega))).same (h2.block g (by have := h1.size; omega) ?_)
  intro e
  have := hu _ e.symm
  omega
theorem own1 {α : Type} {R : Rec α} {v : Value} {n : Nat} {L : List α} (h : Recs.Own R wn (g + 1) v n L) : Recs.Own R (wn.setCell ⟨g, j, none⟩ x) (g + 1) v n L := by
  refine h.grown (set_grown wn g j x) ?_
  cases hv : v.ownBlock with
  | none => exact .inl rfl
  | some b => exact .inr (fun e => by have := (h.2.lt b hv).1; injection e; omega)
theorem below3 {B : Nat} (hB : B ≤ m) (hBg : B ≤ g) (hBw : B ≤ w.heap.size) (h1 : w.grownBy wm (some m)) (h2 : wm.grownBy wn u.ownBlock) (hu : ∀ b, u.ownBlock = some b → g < b) : Below B w (wn.setCell ⟨g, j, none⟩ x) := by
  have e1 : Below B w wm := (Below.refl B w).grown h1 hBw (fun k hk => by injection hk with hk; omega)
  have e2 : Below B w wn := e1.grown h2 (Nat.le_trans hBw h1.size) (fun k hk => by have := hu k hk; omega)
  exact e2.grown (set_grown wn g j x) (Nat.le_trans hBw (Nat.le_trans h1.size h2.size)) (fun k hk => by injection hk with hk; omega)
end

section
variable {w wm wn : World} {g m1 m2 m3 k : Nat} {l : Lay} {v : LV}
theorem Dr.lo {α : Type} {R : Rec α} {u : Value} {n : Nat} {L : List α} (h : Recs.Own R w (g + 1) u n L) : ∀ b, u.ownBlock = some b → g < b := fun b hb => by have := (h.2.lt b hb).1; omega
theorem nums_le {b n n' : Nat} {L : List Bs} (h : Nums w b n L) (hn : n ≤ n') : Nums w b n' L := h.mono hn
/-- a draft seen later: nothing old has changed -/
theorem Dr.below {w' : World} (h : Dr w g m1 m2 m3 k l v) (hb : Below w.heap.size w w') : Dr w' g m1 m2 m3 k l v := by
  have hg := h.blk.lt
  have hm := h.ms
  exact ⟨h.blk.same (hb.block g hg), h.st.below hb (Nat.le_refl _), h.pt.below hb (Nat.le_refl _), h.sec.below hb (Nat.le_refl _), h.lnk.below hb (Nat.le_refl _), h.ne, h.q1.below hb (by omega), h.q2.below hb (by omega), h.q3.below hb (by omega), h.ms, h.b1, h.b2, h.b3, h.b4, h.z1, h.z2, h.z3⟩
theorem Dr.more {k' : Nat} (h : Dr w g m1 m2 m3 k l v) (hk : k ≤ k') : Dr w g m1 m2 m3 k' l v :=
  ⟨h.blk, h.st, h.pt, h.sec, h.lnk, h.ne, h.q1.mono hk, h.q2.mono hk, h.q3.mono hk, h.ms, by have := h.b1; omega, by have := h.b2; omega, by have := h.b3; omega, by have := h.b4; omega, h.z1, h.z2, h.z3⟩
theorem snoc_max {L : List Bs} {s : Bs} (h : ∀ x ∈ L, x.length ≤ 65537) (hs : s.length ≤ 65537) : ∀ x ∈ L ++ [s], x.length ≤ 65537 := by
  intro x hx
  rw [List.mem_append] at hx
  rcases hx with hx | hx
  · exact h x hx
  · simp at hx; subst hx; exact hs
/-- one more station -/
theorem Dr.stat {A' : Option Addr} {c' : Nat} {s : Bs} (h : Dr w g m1 m2 m3 k l v) (h1 : w.grownBy wm (some m1)) (h2 : wm.grownBy wn (Value.slice v.A1 v.n1 v.c1).ownBlock) (hN : Nums wn m1 (k + 1) (l.stations ++ [s])) (hO : Recs.Own sR wn (g + 1) (.slice A' (v.n1 + 1) c') (v.n1 + 1) (l.stations ++ [s]))
    (hat : ∀ b, (Value.slice A' (v.n1 + 1) c').ownBlock = some b → (Value.slice v.A1 v.n1 v.c1).ownBlock = some b ∨ w.heap.size ≤ b) (hs : s.length ≤ 65537) :
    Dr (wn.setCell ⟨g, 0, none⟩ (.slice A' (v.n1 + 1) c')) g m1 m2 m3 (k + 1) { l with stations := l.stations ++ [s] } { v with A1 := A', n1 := v.n1 + 1, c1 := c' } := by
  obtain ⟨e1, e2, e3⟩ := h.ms
  have hu := Dr.lo h.st
  refine ⟨(blk3 h.blk (by omega) h1 h2 hu).put0 _, own1 hO, own3 h.pt (by omega) h1 h2 (fun b hb e => h.ne b e hb), own3 h.sec (by omega) h1 h2 (fun b hb => ne_row (by decide) h.st h.sec hb), own3 h.lnk (by omega) h1 h2 (fun b hb => ne_row (by decide) h.st h.lnk hb), ?_,
    num1 hN (by omega), num3 h.q2 (by omega) (by omega) h1 h2 hu, num3 h.q3 (by omega) (by omega) h1 h2 hu, h.ms, by have := h.b1; simp only; omega, by have := h.b2; simp only; omega, by have := h.b3; simp only; omega, by have := h.b4; simp only; omega, snoc_max h.z1 hs, h.z2, h.z3⟩
  intro b hb e
  rcases hat b hb with h3 | h3
  · exact h.ne b h3 e
  · have := (h.pt.2.lt b e).2
    omega
/-- one more point -/
theorem Dr.poin {A' : Option Addr} {c' : Nat} {s : Bs} (h : Dr w g m1 m2 m3 k l v) (h1 : w.grownBy wm (some m2)) (h2 : wm.grownBy wn (Value.slice v.A2 v.n2 v.c2).ownBlock) (hN : Nums wn m2 (k + 1) (l.points ++ [s])) (hO : Recs.Own sR wn (g + 1) (.slice A' (v.n2 + 1) c') (v.n2 + 1) (l.points ++ [s]))
    (hat : ∀ b, (Value.slice A' (v.n2 + 1) c').ownBlock = some b → (Value.slice v.A2 v.n2 v.c2).ownBlock = some b ∨ w.heap.size ≤ b) (hs : s.length ≤ 65537) :
    Dr (wn.setCell ⟨g, 1, none⟩ (.slice A' (v.n2 + 1) c')) g m1 m2 m3 (k + 1) { l with points := l.points ++ [s] } { v with A2 := A', n2 := v.n2 + 1, c2 := c' } := by
  obtain ⟨e1, e2, e3⟩ := h.ms
  have hu := Dr.lo h.pt
  refine ⟨(blk3 h.blk (by omega) h1 h2 hu).put1 _, own3 h.st (by omega) h1 h2 (fun b hb e => h.ne b hb e), own1 hO, own3 h.sec (by omega) h1 h2 (fun b hb => ne_row (by decide) h.pt h.sec hb), own3 h.lnk (by omega) h1 h2 (fun b hb => ne_row (by decide) h.pt h.lnk hb), ?_,
    num3 h.q1 (by omega) (by omega) h1 h2 hu, num1 hN (by omega), num3 h.q3 (by omega) (by omega) h1 h2 hu, h.ms, by have := h.b1; simp only; omega, by have := h.b2; simp only; omega, by have := h.b3; simp only; omega, by have := h.b4; simp only; omega, h.z1, snoc_max h.z2 hs, h.z3⟩
  intro b hb e
  rcases hat b e with h3 | h3
  · exact h.ne b hb h3
  · have := (h.st.2.lt b hb).2
    omega
/-- one more section -/
theorem Dr.sect {A' : Option Addr} {c' : Nat} {x : Sec} (h : Dr w g m1 m2 m3 k l v) (h1 : w.grownBy wm (some m3)) (h2 : wm.grownBy wn (Value.slice v.A3 v.n3 v.c3).ownBlock) (hN : Nums wm m3 (k + 1) (l.sections.map Sec.name ++ [x.name])) (hO : Recs.Own secR wn (g + 1) (.slice A' (v.n3 + 1) c') (v.n3 + 1) (l.sections ++ [x]))
    (hs : x.name.length ≤ 65537) :
    Dr (wn.setCell ⟨g, 2, none⟩ (.slice A' (v.n3 + 1) c')) g m1 m2 m3 (k + 1) { l with sections := l.sections ++ [x] } { v with A3 := A', n3 := v.n3 + 1, c3 := c' } := by
  obtain ⟨e1, e2, e3⟩ := h.ms
  have hu := Dr.lo h.sec
  refine ⟨(blk3 h.blk (by omega) h1 h2 hu).put2 _, own3 h.st (by omega) h1 h2 (fun b hb => ne_row (by decide) h.sec h.st hb), own3 h.pt (by omega) h1 h2 (fun b hb => ne_row (by decide) h.sec h.pt hb), own1 hO, own3 h.lnk (by omega) h1 h2 (fun b hb => ne_row (by decide) h.sec h.lnk hb), h.ne,
    num3 h.q1 (by omega) (by omega) h1 h2 hu, num3 h.q2 (by omega) (by omega) h1 h2 hu, ?_, h.ms, by have := h.b1; simp only; omega, by have := h.b2; simp only; omega, by have := h.b3; simp only; omega, by have := h.b4; simp only; omega, h.z1, h.z2, ?_⟩
  · simp only [List.map_append, List.map_cons, List.map_nil]
    exact num2 hN (by omega) h2 hu
  · intro y hy
    simp only at hy
    rw [List.mem_append] at hy
    rcases hy with hy | hy
    · exact h.z3 y hy
    · simp at hy; subst hy; exact hs
/-- one more link -/
theorem Dr.link {A' : Option Addr} {c' : Nat} {x : Lnk} (h : Dr w g m1 m2 m3 k l v) (h2 : w.grownBy wn (Value.slice v.A4 v.n4 v.c4).ownBlock) (hO : Recs.Own lnkR wn (g + 1) (.slice A' (v.n4 + 1) c') (v.n4 + 1) (l.links ++ [x])) :
    Dr (wn.setCell ⟨g, 3, none⟩ (.slice A' (v.n4 + 1) c')) g m1 m2 m3 (k + 1) { l with links := l.links ++ [x] } { v with A4 := A', n4 := v.n4 + 1, c4 := c' } := by
  obtain ⟨e1, e2, e3⟩ := h.ms
  have hu := Dr.lo h.lnk
  have h1 : w.grownBy w (some (g + w.heap.size + 1)) := World.grownBy.refl w _
  have q : ∀ {m' L}, Nums w m' k L → m' < g → Nums (wn.setCell ⟨g, 3, none⟩ (.slice A' (v.n4 + 1) c')) m' (k + 1) L := fun hq hm => (num2 hq hm h2 hu).mono (Nat.le_succ k)
  have o : ∀ {α : Type} {R : Rec α} {u : Value} {n : Nat} {L : List α}, Recs.Own R w (g + 1) u n L → R.e ≠ lnkR.e → Recs.Own R (wn.setCell ⟨g, 3, none⟩ (.slice A' (v.n4 + 1) c')) (g + 1) u n L := fun {α R u n L} ho hne => own1 (ho.grown h2 (by
    cases hv : u.ownBlock with
    | none => exact .inl rfl
    | some b => exact .inr (fun e => ne_row (fun e2 => hne e2.symm) h.lnk ho hv e.symm)))
  refine ⟨BlkD.put3 (h.blk.same (h2.block g h.blk.lt (fun e => by have := hu _ e.symm; omega))) _, o h.st (by decide), o h.pt (by decide), o h.sec (by decide), own1 hO, h.ne, q h.q1 (by omega), q h.q2 (by omega), q h.q3 (by omega), h.ms, by have := h.b1; simp only; omega, by have := h.b2; simp only; omega, by have := h.b3; simp only; omega, by have := h.b4; simp only; omega, h.z1, h.z2, h.z3⟩
end
/-- what a call leaves that has taken a line into the draft -/
def DrPost (g m1 m2 m3 k : Nat) (r : Lay × Int) (w : World) (e : Ending) (w' : World) : Prop := ∃ v', e = .returned (.int .i64 r.2) ∧ Dr w' g m1 m2 m3 k r.1 v' ∧ Below m1 w w' ∧ w.heap.size ≤ w'.heap.size
end Go.Proofs.YtkfobijgjdgbgaaDoor.Dft

namespace Go.Proofs.YtkfobijgjdgbgaaDoor.DSec
open Go.ChangeShapes Go.WideShapes Go.ChangeAt Go.RowKit Wd Small Mem Lay LayT Recs Keep Names PNames PSecs PEnds RNames Num Txt App Dft
set_option linter.unusedVariables false

theorem infoSec : (Tryd.prog.info? 45).map (fun i => (i.zero, i.size, i.bytes)) = some (some (.agg #[.string ByteArray.empty, .int .i64 0, .int .i64 0, .int .i64 0, .int .i64 0]), 5, 48) := by kernel_rfl
/-- the operands of a line, one by one, wherever nothing old has changed -/
theorem opn_get {w : World} {g n i : Nat} {A : Option Addr} {O : List Bs} (h : Opn w g A n O) (hi : i < n) : ∃ ad s, A = some ad ∧ O[i]? = some s ∧ ad.block < w.heap.size ∧ g < ad.block ∧ w.cell? (ad.add i) = some (.string (str s)) := by
  obtain ⟨ad, s, e, hb, hs, hc⟩ := loadS h.1 hi
  exact ⟨ad, s, e, hs, hb, h.2 ad e, hc⟩
theorem opn_atk {w : World} {g n i : Nat} {ad : Addr} {O : List Bs} {s : Bs} (h : Opn w g (some ad) n O) (hs : O[i]? = some s) : w.cell? (ad.add i) = some (.string (str s)) := by
  have hi : i < n := by
    have := (List.getElem?_eq_some_iff.1 hs).1
    have := h.1.1
    omega
  obtain ⟨ad', s', e, hs', _, _, hc⟩ := opn_get h hi
  cases e
  rw [hs] at hs'
  cases hs'
  exact hc
theorem opn_at0 {w : World} {g n : Nat} {ad : Addr} {O : List Bs} {s : Bs} (h : Opn w g (some ad) n O) (hs : O[0]? = some s) : w.cell? ad = some (.string (str s)) := by
  have := opn_atk h hs
  rw [show ad.add 0 = ad from rfl] at this
  exact this
theorem opn_at {w : World} {g n i : Nat} {ad : Addr} {O : List Bs} {s : Bs} (h : Opn w g (some ad) n O) (hs : O[i]? = some s) (hi : 0 < i) : w.cell? ⟨ad.block, ad.off + i, none⟩ = some (.string (str s)) := by
  have := opn_atk h hs
  rw [show ad.add i = ad.add (0 + i) by rw [Nat.zero_add], cell_next _ _ _ hi, show ad.add 0 = ad from rfl] at this
  exact this
theorem opn_lt {w : World} {g n : Nat} {A : Option Addr} {O : List Bs} (h : Opn w g A n O) (hn : 0 < n) : ∃ ad, A = some ad ∧ ad.block < w.heap.size ∧ g < ad.block := by
  obtain ⟨ad, s, e, hs, hb, hg, hc⟩ := opn_get h hn
  exact ⟨ad, e, hb, hg⟩
/-- what a line of a section declares, by its operands -/
def declS (l : Lay) : List Bs → Lay × Int
  | [a, b, c, d] => declSec l a b c d []
  | [a, b, c, d, x, y] => declSec l a b c d [x, y]
  | _ => (l, 2)
theorem declS_other (l : Lay) (O : List Bs) (h4 : O.length ≠ 4) (h6 : O.length ≠ 6) : declS l O = (l, 2) := by
  match O with
  | [] => rfl
  | [_] => rfl
  | [_, _] => rfl
  | [_, _, _] => rfl
  | [_, _, _, _] => exact absurd rfl h4
  | [_, _, _, _, _] => rfl
  | [_, _, _, _, _, _] => exact absurd rfl h6
  | _ :: _ :: _ :: _ :: _ :: _ :: _ :: _ => rfl
theorem four {O : List Bs} (h : O.length = 4) : ∃ a b c d, O = [a, b, c, d] := by
  match O, h with
  | [a, b, c, d], _ => exact ⟨a, b, c, d, rfl⟩
theorem six {O : List Bs} (h : O.length = 6) : ∃ a b c d x y, O = [a, b, c, d, x, y] := by
  match O, h with
  | [a, b, c, d, x, y], _ => exact ⟨a, b, c, d, x, y, rfl⟩
theorem decl_bad {l : Lay} {nm a b c : Bs} {more : List Bs} (h : (!numOK a || !numOK b || !numOK c || !(more.head?.all (· == kwAt))) = true) : declSec l nm a b c more = (l, 2) := by
  unfold declSec
  rw [if_pos h]
theorem decl_plain {l : Lay} {nm a b c : Bs} (ha : numOK a = true) (hb : numOK b = true) (hc : numOK c = true) : declSec l nm a b c [] = ({ l with sections := l.sections ++ [⟨nm, number a, number b, number c, -1⟩] }, 0) := by
  unfold declSec
  rw [if_neg (by rw [ha, hb, hc]; simp)]
theorem decl_lost {l : Lay} {nm a b c st : Bs} (ha : numOK a = true) (hb : numOK b = true) (hc : numOK c = true) (hp : place 0 l.stations st < 0) : declSec l nm a b c [kwAt, st] = (l, 3) := by
  unfold declSec
  rw [if_neg (by rw [ha, hb, hc]; simp)]
  simp only
  rw [if_pos hp]
theorem decl_at {l : Lay} {nm a b c st : Bs} (ha : numOK a = true) (hb : numOK b = true) (hc : numOK c = true) (hp : ¬ place 0 l.stations st < 0) : declSec l nm a b c [kwAt, st] = ({ l with sections := l.sections ++ [⟨nm, number a, number b, number c, place 0 l.stations st⟩] }, 0) := by
  unfold declSec
  rw [if_neg (by rw [ha, hb, hc]; simp)]
  simp only
  rw [if_neg hp]
theorem str_at (s : Bs) : ((str s).toList == [97, 116]) = (s == kwAt) := by
  rw [show (str s).toList = s from by rw [Lib.toList_data]; exact str_toList s]
  rfl
/-- the draft as it was, with a draw or a box more -/
theorem Dr.stay {w w' : World} {g m1 m2 m3 k : Nat} {l : Lay} {v : LV} {z : Int} (h : Dr w g m1 m2 m3 k l v) (hb : Below w.heap.size w w') : DrPost g m1 m2 m3 (k + 1) (l, z) w (.returned (.int .i64 z)) w' :=
  ⟨v, rfl, (h.below hb).more (Nat.le_succ k), hb.mono (by have := h.ms; have := h.blk.lt; omega), hb.size⟩
set_option maxRecDepth 100000 in
set_option maxHeartbeats 4000000 in
theorem sec_no (g m1 m2 m3 k : Nat) (l : Lay) (v : LV) (A : Option Addr) (n c : Nat) (O : List Bs) (w : World) (h : Dr w g m1 m2 m3 k l v) (hO : Opn w g A n O) (hk : k ≤ 100000) (hn : n ≤ 100) (hz : ∀ s ∈ O, s.length ≤ 65537) (h4 : n ≠ 4) (h6 : n ≠ 6) : Calls Tryd.prog 70 #[.pointer (some ⟨g, 0, none⟩), .slice A n c] w (DrPost g m1 m2 m3 (k + 1) (declS l O) w) := by
  have hl := hO.1.1
  rw [declS_other l O (by omega) (by omega)]
  have HS := Lib.hid (Dr.stay (z := 2) h (Below.refl _ _))
  have e6 : ((n : Int) == 6) = false := by simpa using (by omega : ¬ (n : Int) = 6)
  have e4 : ((n : Int) != 4) = true := by simpa using (by omega : ¬ (n : Int) = 4)
  clear h hO hl h4 h6
  go_enter Tryd.func70, Tryd.ntmps70
  go_wp2_with fail
  go_ret
  exact HS.out
theorem num_two (s : Bs) (w : World) (hs : s.length ≤ 9223372036854775807) : Calls Tryd.prog 92 #[.string (str s)] w (Two (number s) (numOK s) w) := by
  have := p_num (str s) w (by rw [size_str]; omega)
  rw [bs_str] at this
  exact this
set_option maxRecDepth 100000 in
set_option maxHeartbeats 4000000 in
theorem sec_four (g m1 m2 m3 k : Nat) (l : Lay) (v : LV) (A : Option Addr) (n c : Nat) (O : List Bs) (w : World) (h : Dr w g m1 m2 m3 k l v) (hO : Opn w g A n O) (hk : k ≤ 100000) (hn : n ≤ 100) (hz : ∀ s ∈ O, s.length ≤ 65537) (h4 : n = 4) : Calls Tryd.prog 70 #[.pointer (some ⟨g, 0, none⟩), .slice A n c] w (DrPost g m1 m2 m3 (k + 1) (declS l O) w) := by
  obtain ⟨nm, xa, xb, xc, rfl⟩ := four (hO.1.1.trans h4)
  subst h4
  obtain ⟨ad, rfl, hab, hadg⟩ := opn_lt hO (by omega)
  have o0 := opn_at0 hO rfl
  have o1 := opn_at (i := 1) hO rfl (by omega)
  have o2 := opn_at (i := 2) hO rfl (by omega)
  have o3 := opn_at (i := 3) hO rfl (by omega)
  have NA : Hid (∀ wx, Calls Tryd.prog 92 #[.string (str xa)] wx (Two (number xa) (numOK xa) wx)) := fun wx => num_two xa wx (by have := hz xa (by simp); omega)
  have NB : Hid (∀ wx, Calls Tryd.prog 92 #[.string (str xb)] wx (Two (number xb) (numOK xb) wx)) := fun wx => num_two xb wx (by have := hz xb (by simp); omega)
  have NC : Hid (∀ wx, Calls Tryd.prog 92 #[.string (str xc)] wx (Two (number xc) (numOK xc) wx)) := fun wx => num_two xc wx (by have := hz xc (by simp); omega)
  have hsz0 : nm.length ≤ 65537 := hz nm (by simp)
  go_enter Tryd.func70, Tryd.ntmps70
  cases g1 : numOK xa with
  | false =>
    rw [g1] at NA
    have HX : Hid (declS l [nm, xa, xb, xc] = (l, 2)) := decl_bad (by rw [g1]; simp)
    rw [HX.out]
    have HS := Lib.hid (Dr.stay (z := 2) h (Below.refl _ _))
    clear h hO hz HX
    go_wp2_with (first | (go_at_call 92; (with_reducible refine (NA.out _).mono ?_); rintro e w' ⟨rfl, rfl⟩) | (go_at_call 92; (with_reducible refine (NB.out _).mono ?_); rintro e w' ⟨rfl, rfl⟩) | (go_at_call 92; (with_reducible refine (NC.out _).mono ?_); rintro e w' ⟨rfl, rfl⟩))
    go_ret
    exact HS.out
  | true =>
    rw [g1] at NA
    cases g2 : numOK xb with
    | false =>
      rw [g2] at NB
      have HX : Hid (declS l [nm, xa, xb, xc] = (l, 2)) := decl_bad (by rw [g2, g1]; simp)
      rw [HX.out]
      have HS := Lib.hid (Dr.stay (z := 2) h (Below.refl _ _))
      clear h hO hz HX
      go_wp2_with (first | (go_at_call 92; (with_reducible refine (NA.out _).mono ?_); rintro e w' ⟨rfl, rfl⟩) | (go_at_call 92; (with_reducible refine (NB.out _).mono ?_); rintro e w' ⟨rfl, rfl⟩) | (go_at_call 92; (with_reducible refine (NC.out _).mono ?_); rintro e w' ⟨rfl, rfl⟩))
      go_ret
      exact HS.out
    | true =>
      rw [g2] at NB
      cases g3 : numOK xc with
      | false =>
        rw [g3] at NC
        have HX : Hid (declS l [nm, xa, xb, xc] = (l, 2)) := decl_bad (by rw [g3, g1, g2]; simp)
        rw [HX.out]
        have HS := Lib.hid (Dr.stay (z := 2) h (Below.refl _ _))
        clear h hO hz HX
        go_wp2_with (first | (go_at_call 92; (with_reducible refine (NA.out _).mono ?_); rintro e w' ⟨rfl, rfl⟩) | (go_at_call 92; (with_reducible refine (NB.out _).mono ?_); rintro e w' ⟨rfl, rfl⟩) | (go_at_call 92; (with_reducible refine (NC.out _).mono ?_); rintro e w' ⟨rfl, rfl⟩))
        go_ret
        exact HS.out
      | true =>
        rw [g3] at NC
        have HX : Hid (declS l [nm, xa, xb, xc] = ({ l with sections := l.sections ++ [⟨nm, number xa, number xb, number xc, -1⟩] }, 0)) := decl_plain g1 g2 g3
        rw [HX.out]
        have HD := Lib.hid h
        clear h hO hz HX
        go_upto_region 16 with (first | (go_at_call 92; (with_reducible refine (NA.out _).mono ?_); rintro e w' ⟨rfl, rfl⟩) | (go_at_call 92; (with_reducible refine (NB.out _).mono ?_); rintro e w' ⟨rfl, rfl⟩) | (go_at_call 92; (with_reducible refine (NC.out _).mono ?_); rintro e w' ⟨rfl, rfl⟩))
        have HSZ := Lib.hid hsz0
        have k2 := HD.out.blk.c2
        have k6 := HD.out.blk.c6
        have hgw := HD.out.blk.lt
        have hm3 := HD.out.ms
        have KA : Hid (∀ w', Below w.heap.size w w' → w'.cell? ⟨g, 2, none⟩ = some (.slice v.A3 v.n3 v.c3) ∧ w'.cell? ⟨g, 6, none⟩ = some (.map (some m3))) := fun w' hb => ⟨(hb.cell (p := ⟨g, 2, none⟩) hgw).trans k2, (hb.cell (p := ⟨g, 6, none⟩) hgw).trans k6⟩
        have KB : Hid (∀ w', w.drew.grownBy w' (some m3) → w'.cell? ⟨g, 2, none⟩ = some (.slice v.A3 v.n3 v.c3) ∧ w'.cell? ⟨g, 6, none⟩ = some (.map (some m3))) := fun w' hb => ⟨(grown_cell (p := ⟨g, 2, none⟩) hb hgw (by simp; omega)).trans k2, (grown_cell (p := ⟨g, 6, none⟩) hb hgw (by simp; omega)).trans k6⟩
        have hD0 := fun wx (h : Nums wx m3 k (l.sections.map Sec.name)) => declare_any m3 k (l.sections.map Sec.name) nm wx h (by omega) (by omega) (by have := HD.out.sec.1; have := HD.out.b3; simp; omega)
        rw [List.length_map, HD.out.sec.1] at hD0
        have HDC := Lib.hid hD0
        clear k2 k6 hD0
        have hb0 := Below.refl w.heap.size w
        go_region_held3 (fun w' => w'.cell? ⟨g, 2, none⟩ = some (.slice v.A3 v.n3 v.c3) ∧ w'.cell? ⟨g, 6, none⟩ = some (.map (some m3)))
          (first | exact KA.out _ hb0.drew | exact KB.out _ hgq)
          ((go_at_call 91; refine (HDC.out w.drew HD.out.q3).mono ?_; rintro e wq ⟨rfl, hNq, hgq⟩))
        obtain ⟨hcq, -⟩ := KB.out _ hgq
        have HB3 := Lib.hid HD.out.b3
        have hn63 : v.n3 + 1 ≤ maxLen := by have := HB3.out; unfold maxLen; omega
        have hby : (v.n3 + 1) * 48 ≤ 140737488355328 := by have := HB3.out; omega
        have hzq : w.heap.size ≤ wq.heap.size := hgq.size
        have HOq : Hid (Recs.Own secR wq (g + 1) (.slice v.A3 v.n3 v.c3) v.n3 l.sections) := Recs.Own.grown (w := w.drew) (HD.out.sec.drewN 1) hgq (by
          cases hv : (Value.slice v.A3 v.n3 v.c3).ownBlock with
          | none => exact .inl rfl
          | some b => exact .inr (fun e => by have := (HD.out.sec.2.lt b hv).1; injection e; omega))
        have hfq : wq.frozen? ⟨g, 2, none⟩ = false := (frozen_same (p := ⟨g, 2, none⟩) (hgq.block g hgw (by simp; omega))).trans (HD.out.blk.f 2)
        have HCQ := Lib.hid hcq
        have HFQ := Lib.hid hfq
        have HGQ : Hid (w.grownBy wq (some m3)) := ⟨hgq.os, hgq.tape, hgq.output, hgq.size, hgq.block⟩
        have HNQ := Lib.hid hNq
        have hgwq : g < wq.heap.size := by omega
        clear KA KB HDC hb0 hgq hNq hfq
        obtain ⟨ih, hih, hz0, hz1, hz2⟩ := info_parts infoSec
        go_wp2_with (at_builtin; refine wpList_append_own _ rfl _ _ 23 rfl (g + 1) 45 ih _ 5 48 Tryd.underlying23 hih hz0 hz1 hz2 rfl (by omega) (.slice v.A3 v.n3 v.c3) v.n3 (secR.cs l.sections) rfl (HOq.out.2.alloc _) ⟨wq.heap.size, 0, none⟩ 1 1 [.string (str nm), .int .i64 (number xa), .int .i64 (number xb), .int .i64 (number xc), .int .i64 (-1)] rfl rfl (World.news_of_block (cs := #[.string (str nm), .int .i64 (number xa), .int .i64 (number xb), .int .i64 (number xc), .int .i64 (-1)]) (t := 45) (fr := (0, 0)) (heap_alloc_new _ _)) (by simp [Value.oneCell']) hn63 hby (by simp; omega) ?_)
        intro vv w7 hown7 hgrow7 _
        have hO7 := Recs.Own.push (R := secR) (a := ⟨nm, number xa, number xb, number xc, -1⟩) HOq.out.1 hown7
        obtain ⟨A', c', rfl, _⟩ := hO7.form
        have HO7 := Lib.hid hO7
        have h2 : wq.grownBy w7 (Value.slice v.A3 v.n3 v.c3).ownBlock := (World.grownBy_alloc wq _ _).trans hgrow7
        have HDr := Lib.hid (HD.out.sect HGQ.out h2 HNQ.out HO7.out HSZ.out)
        have HBB : Hid (Below m1 w (w7.setCell ⟨g, 2, none⟩ (.slice A' (v.n3 + 1) c'))) := below3 (by omega) (by omega) (by omega) HGQ.out h2 (Dr.lo HD.out.sec)
        have hu := Dr.lo HD.out.sec
        have hg7 : w7.heap[g]? = wq.heap[g]? := h2.block g hgwq (fun e => by have := hu _ e.symm; omega)
        have k7 := (cell_same (p := ⟨g, 2, none⟩) hg7).trans HCQ.out
        have f7 := (frozen_same (p := ⟨g, 2, none⟩) hg7).trans HFQ.out
        clear hO7 hown7 hgrow7 hg7 hcq h2 hu
        go_wp2_with fail
        go_ret
        exact ⟨_, rfl, HDr.out, HBB.out, by have := HBB.out.size; omega⟩
set_option maxRecDepth 100000 in
set_option maxHeartbeats 4000000 in
theorem sec_six (g m1 m2 m3 k : Nat) (l : Lay) (v : LV) (A : Option Addr) (n c : Nat) (O : List Bs) (w : World) (h : Dr w g m1 m2 m3 k l v) (hO : Opn w g A n O) (hk : k ≤ 100000) (hn : n ≤ 100) (hz : ∀ s ∈ O, s.length ≤ 65537) (h6 : n = 6) : Calls Tryd.prog 70 #[.pointer (some ⟨g, 0, none⟩), .slice A n c] w (DrPost g m1 m2 m3 (k + 1) (declS l O) w) := by
  obtain ⟨nm, xa, xb, xc, xt, xs, rfl⟩ := six (hO.1.1.trans h6)
  subst h6
  obtain ⟨ad, rfl, hab, hadg⟩ := opn_lt hO (by omega)
  have o0 := opn_at0 hO rfl
  have o1 := opn_at (i := 1) hO rfl (by omega)
  have o2 := opn_at (i := 2) hO rfl (by omega)
  have o3 := opn_at (i := 3) hO rfl (by omega)
  have o4 := opn_at (i := 4) hO rfl (by omega)
  have o5 := opn_at (i := 5) hO rfl (by omega)
  have NA : Hid (∀ wx, Calls Tryd.prog 92 #[.string (str xa)] wx (Two (number xa) (numOK xa) wx)) := fun wx => num_two xa wx (by have := hz xa (by simp); omega)
  have NB : Hid (∀ wx, Calls Tryd.prog 92 #[.string (str xb)] wx (Two (number xb) (numOK xb) wx)) := fun wx => num_two xb wx (by have := hz xb (by simp); omega)
  have NC : Hid (∀ wx, Calls Tryd.prog 92 #[.string (str xc)] wx (Two (number xc) (numOK xc) wx)) := fun wx => num_two xc wx (by have := hz xc (by simp); omega)
  have hsz0 : nm.length ≤ 65537 := hz nm (by simp)
  have hsz5 : xs.length ≤ 65537 := hz xs (by simp)
  have E := Lib.hid (str_at xt)
  cases he : (xt == kwAt) with
  | false =>
    have hse : ((str xt).toList == [97, 116]) = false := E.out.trans he
    have HX : Hid (declS l [nm, xa, xb, xc, xt, xs] = (l, 2)) := decl_bad (by simp only [List.head?_cons, Option.all_some]; rw [he]; simp)
    rw [HX.out]
    have HS := Lib.hid (Dr.stay (z := 2) h (Below.refl _ _))
    clear h hO hz HX E he
    go_enter Tryd.func70, Tryd.ntmps70
    go_wp2_with fail
    go_ret
    exact HS.out
  | true =>
    have hse : ((str xt).toList == [97, 116]) = true := E.out.trans he
    obtain rfl : xt = kwAt := by simpa using he
    clear E he
    go_enter Tryd.func70, Tryd.ntmps70
    cases g1 : numOK xa with
    | false =>
      rw [g1] at NA
      have HX : Hid (declS l [nm, xa, xb, xc, kwAt, xs] = (l, 2)) := decl_bad (by rw [g1]; simp)
      rw [HX.out]
      have HS := Lib.hid (Dr.stay (z := 2) h (Below.refl _ _))
      clear h hO hz HX
      go_wp2_with (first | (go_at_call 92; (with_reducible refine (NA.out _).mono ?_); rintro e w' ⟨rfl, rfl⟩) | (go_at_call 92; (with_reducible refine (NB.out _).mono ?_); rintro e w' ⟨rfl, rfl⟩) | (go_at_call 92; (with_reducible refine (NC.out _).mono ?_); rintro e w' ⟨rfl, rfl⟩))
      go_ret
      exact HS.out
    | true =>
      rw [g1] at NA
      cases g2 : numOK xb with
      | false =>
        rw [g2] at NB
        have HX : Hid (declS l [nm, xa, xb, xc, kwAt, xs] = (l, 2)) := decl_bad (by rw [g2, g1]; simp)
        rw [HX.out]
        have HS := Lib.hid (Dr.stay (z := 2) h (Below.refl _ _))
        clear h hO hz HX
        go_wp2_with (first | (go_at_call 92; (with_reducible refine (NA.out _).mono ?_); rintro e w' ⟨rfl, rfl⟩) | (go_at_call 92; (with_reducible refine (NB.out _).mono ?_); rintro e w' ⟨rfl, rfl⟩) | (go_at_call 92; (with_reducible refine (NC.out _).mono ?_); rintro e w' ⟨rfl, rfl⟩))
        go_ret
        exact HS.out
      | true =>
        rw [g2] at NB
        cases g3 : numOK xc with
        | false =>
          rw [g3] at NC
          have HX : Hid (declS l [nm, xa, xb, xc, kwAt, xs] = (l, 2)) := decl_bad (by rw [g3, g1, g2]; simp)
          rw [HX.out]
          have HS := Lib.hid (Dr.stay (z := 2) h (Below.refl _ _))
          clear h hO hz HX
          go_wp2_with (first | (go_at_call 92; (with_reducible refine (NA.out _).mono ?_); rintro e w' ⟨rfl, rfl⟩) | (go_at_call 92; (with_reducible refine (NB.out _).mono ?_); rintro e w' ⟨rfl, rfl⟩) | (go_at_call 92; (with_reducible refine (NC.out _).mono ?_); rintro e w' ⟨rfl, rfl⟩))
          go_ret
          exact HS.out
        | true =>
          rw [g3] at NC
          cases hp : decide (0 ≤ place 0 l.stations xs) with
          | false =>
            have hneg : place 0 l.stations xs < 0 := by have := of_decide_eq_false hp; omega
            have HX : Hid (declS l [nm, xa, xb, xc, kwAt, xs] = (l, 3)) := decl_lost g1 g2 g3 hneg
            rw [HX.out]
            have hl := fun wx (q : Nums wx m1 k l.stations) => q.look (s := xs) (by omega)
            rw [hp] at hl
            have hl0 := fun nd => hl (w.drewN nd) (h.q1.drewN nd)
            have HS := Lib.hid (fun w' (hb : Below w.heap.size w w') => Dr.stay (z := 3) h hb)
            have k4 := h.blk.c4
            clear h hO hz HX hl hp hneg
            go_upto_region 11 with (first | (go_at_call 92; (with_reducible refine (NA.out _).mono ?_); rintro e w' ⟨rfl, rfl⟩) | (go_at_call 92; (with_reducible refine (NB.out _).mono ?_); rintro e w' ⟨rfl, rfl⟩) | (go_at_call 92; (with_reducible refine (NC.out _).mono ?_); rintro e w' ⟨rfl, rfl⟩))
            go_quiet (fail)
            go_wp2_with fail
            go_ret
            exact HS.out _ (Mem.below_draws (Below.refl _ _) _)
          | true =>
            have hpos : ¬ place 0 l.stations xs < 0 := by have := of_decide_eq_true hp; omega
            have HX : Hid (declS l [nm, xa, xb, xc, kwAt, xs] = ({ l with sections := l.sections ++ [⟨nm, number xa, number xb, number xc, place 0 l.stations xs⟩] }, 0)) := decl_at g1 g2 g3 hpos
            rw [HX.out]
            have hl := fun wx (q : Nums wx m1 k l.stations) => q.look (s := xs) (by omega)
            rw [hp, show numOf l.stations xs = place 0 l.stations xs from if_neg hpos] at hl
            have hl0 := fun nd => hl (w.drewN nd) (h.q1.drewN nd)
            have HD0 := Lib.hid h
            have k4 := h.blk.c4
            clear h hO hz HX hl hp hpos
            go_upto_region 11 with (first | (go_at_call 92; (with_reducible refine (NA.out _).mono ?_); rintro e w' ⟨rfl, rfl⟩) | (go_at_call 92; (with_reducible refine (NB.out _).mono ?_); rintro e w' ⟨rfl, rfl⟩) | (go_at_call 92; (with_reducible refine (NC.out _).mono ?_); rintro e w' ⟨rfl, rfl⟩))
            generalize place 0 l.stations xs = pz at *
            go_quiet (fail)
            generalize hWW : w.drewN _ = WW at *
            have HD : Hid (Dr WW g m1 m2 m3 k l v) := by rw [Hid, ← hWW]; exact HD0.out.below (Mem.below_draws (Below.refl _ _) _)
            have HW0 : Hid (Below w.heap.size w WW) := by rw [Hid, ← hWW]; exact Mem.below_draws (Below.refl _ _) _
            have hwz : w.heap.size ≤ WW.heap.size := HW0.out.size
            have hmw := HD0.out.blk.lt
            have habW : ad.block < WW.heap.size := by omega
            have o0' : WW.cell? ad = some (.string (str nm)) := (HW0.out.cell hab).trans o0
            clear hWW HD0 hl0 k4 o0 o1 o2 o3 o4 o5
            go_upto_region 16 with fail
            have HSZ := Lib.hid hsz0
            have k2 := HD.out.blk.c2
            have k6 := HD.out.blk.c6
            have hgw := HD.out.blk.lt
            have hm3 := HD.out.ms
            have KA : Hid (∀ w', Below WW.heap.size WW w' → w'.cell? ⟨g, 2, none⟩ = some (.slice v.A3 v.n3 v.c3) ∧ w'.cell? ⟨g, 6, none⟩ = some (.map (some m3))) := fun w' hb => ⟨(hb.cell (p := ⟨g, 2, none⟩) hgw).trans k2, (hb.cell (p := ⟨g, 6, none⟩) hgw).trans k6⟩
            have KB : Hid (∀ w', WW.drew.grownBy w' (some m3) → w'.cell? ⟨g, 2, none⟩ = some (.slice v.A3 v.n3 v.c3) ∧ w'.cell? ⟨g, 6, none⟩ = some (.map (some m3))) := fun w' hb => ⟨(grown_cell (p := ⟨g, 2, none⟩) hb hgw (by simp; omega)).trans k2, (grown_cell (p := ⟨g, 6, none⟩) hb hgw (by simp; omega)).trans k6⟩
            have hD0 := fun wx (h : Nums wx m3 k (l.sections.map Sec.name)) => declare_any m3 k (l.sections.map Sec.name) nm wx h (by omega) (by omega) (by have := HD.out.sec.1; have := HD.out.b3; simp; omega)
            rw [List.length_map, HD.out.sec.1] at hD0
            have HDC := Lib.hid hD0
            clear k2 k6 hD0
            have hb0 := Below.refl WW.heap.size WW
            go_region_held3 (fun w' => w'.cell? ⟨g, 2, none⟩ = some (.slice v.A3 v.n3 v.c3) ∧ w'.cell? ⟨g, 6, none⟩ = some (.map (some m3)))
              (first | exact KA.out _ hb0.drew | exact KB.out _ hgq)
              ((go_at_call 91; refine (HDC.out WW.drew HD.out.q3).mono ?_; rintro e wq ⟨rfl, hNq, hgq⟩))
            obtain ⟨hcq, -⟩ := KB.out _ hgq
            have HB3 := Lib.hid HD.out.b3
            have hn63 : v.n3 + 1 ≤ maxLen := by have := HB3.out; unfold maxLen; omega
            have hby : (v.n3 + 1) * 48 ≤ 140737488355328 := by have := HB3.out; omega
            have hzq : WW.heap.size ≤ wq.heap.size := hgq.size
            have HOq : Hid (Recs.Own secR wq (g + 1) (.slice v.A3 v.n3 v.c3) v.n3 l.sections) := Recs.Own.grown (w := WW.drew) (HD.out.sec.drewN 1) hgq (by
              cases hv : (Value.slice v.A3 v.n3 v.c3).ownBlock with
              | none => exact .inl rfl
              | some b => exact .inr (fun e => by have := (HD.out.sec.2.lt b hv).1; injection e; omega))
            have hfq : wq.frozen? ⟨g, 2, none⟩ = false := (frozen_same (p := ⟨g, 2, none⟩) (hgq.block g hgw (by simp; omega))).trans (HD.out.blk.f 2)
            have HCQ := Lib.hid hcq
            have HFQ := Lib.hid hfq
            have HGQ : Hid (WW.grownBy wq (some m3)) := ⟨hgq.os, hgq.tape, hgq.output, hgq.size, hgq.block⟩
            have HNQ := Lib.hid hNq
            have hgwq : g < wq.heap.size := by omega
            clear KA KB HDC hb0 hgq hNq hfq
            obtain ⟨ih, hih, hz0, hz1, hz2⟩ := info_parts infoSec
            go_wp2_with (at_builtin; refine wpList_append_own _ rfl _ _ 23 rfl (g + 1) 45 ih _ 5 48 Tryd.underlying23 hih hz0 hz1 hz2 rfl (by omega) (.slice v.A3 v.n3 v.c3) v.n3 (secR.cs l.sections) rfl (HOq.out.2.alloc _) ⟨wq.heap.size, 0, none⟩ 1 1 [.string (str nm), .int .i64 (number xa), .int .i64 (number xb), .int .i64 (number xc), .int .i64 (pz)] rfl rfl (World.news_of_block (cs := #[.string (str nm), .int .i64 (number xa), .int .i64 (number xb), .int .i64 (number xc), .int .i64 (pz)]) (t := 45) (fr := (0, 0)) (heap_alloc_new _ _)) (by simp [Value.oneCell']) hn63 hby (by simp; omega) ?_)
            intro vv w7 hown7 hgrow7 _
            have hO7 := Recs.Own.push (R := secR) (a := ⟨nm, number xa, number xb, number xc, pz⟩) HOq.out.1 hown7
            obtain ⟨A', c', rfl, _⟩ := hO7.form
            have HO7 := Lib.hid hO7
            have h2 : wq.grownBy w7 (Value.slice v.A3 v.n3 v.c3).ownBlock := (World.grownBy_alloc wq _ _).trans hgrow7
            have HDr := Lib.hid (HD.out.sect HGQ.out h2 HNQ.out HO7.out HSZ.out)
            have HBB : Hid (Below m1 WW (w7.setCell ⟨g, 2, none⟩ (.slice A' (v.n3 + 1) c'))) := below3 (by omega) (by omega) (by omega) HGQ.out h2 (Dr.lo HD.out.sec)
            have hu := Dr.lo HD.out.sec
            have hg7 : w7.heap[g]? = wq.heap[g]? := h2.block g hgwq (fun e => by have := hu _ e.symm; omega)
            have k7 := (cell_same (p := ⟨g, 2, none⟩) hg7).trans HCQ.out
            have f7 := (frozen_same (p := ⟨g, 2, none⟩) hg7).trans HFQ.out
            clear hO7 hown7 hgrow7 hg7 hcq h2 hu
            go_wp2_with fail
            go_ret
            exact ⟨_, rfl, HDr.out, (HW0.out.mono (by have := hm3; omega)).trans HBB.out, by have := HBB.out.size; omega⟩
theorem add_section (g m1 m2 m3 k : Nat) (l : Lay) (v : LV) (A : Option Addr) (n c : Nat) (O : List Bs) (w : World) (h : Dr w g m1 m2 m3 k l v) (hO : Opn w g A n O) (hk : k ≤ 100000) (hn : n ≤ 100) (hz : ∀ s ∈ O, s.length ≤ 65537) : Calls Tryd.prog 70 #[.pointer (some ⟨g, 0, none⟩), .slice A n c] w (DrPost g m1 m2 m3 (k + 1) (declS l O) w) := by
  by_cases h4 : n = 4
  · exact sec_four g m1 m2 m3 k l v A n c O w h hO hk hn hz h4
  · by_cases h6 : n = 6
    · exact sec_six g m1 m2 m3 k l v A n c O w h hO hk hn hz h6
    · exact sec_no g m1 m2 m3 k l v A n c O w h hO hk hn hz h4 h6
end Go.Proofs.YtkfobijgjdgbgaaDoor.DSec

namespace Go.Proofs.YtkfobijgjdgbgaaDoor.DLnk
open Go.ChangeShapes Go.WideShapes Go.ChangeAt Go.RowKit Wd Small Mem Lay LayT Recs Keep Names PNames PSecs PEnds RNames Num Txt App Dft DSec
set_option linter.unusedVariables false

theorem infoLnk : (Tryd.prog.info? 64).map (fun i => (i.zero, i.size, i.bytes)) = some (some (.agg #[.int .i64 0, .int .i64 0, .int .i64 0, .int .i64 0, .int .i64 0, .int .i64 0]), 6, 48) := by kernel_rfl
/-- what a line of a link declares, by its operands -/
def declL (l : Lay) : List Bs → Lay × Int
  | [a, b, c, d] => declLink l a b c d []
  | [a, b, c, d, x, y] => declLink l a b c d [x, y]
  | _ => (l, 2)
theorem declL_other (l : Lay) (O : List Bs) (h4 : O.length ≠ 4) (h6 : O.length ≠ 6) : declL l O = (l, 2) := by
  match O with
  | [] => rfl
  | [_] => rfl
  | [_, _] => rfl
  | [_, _, _] => rfl
  | [_, _, _, _] => exact absurd rfl h4
  | [_, _, _, _, _] => rfl
  | [_, _, _, _, _, _] => exact absurd rfl h6
  | _ :: _ :: _ :: _ :: _ :: _ :: _ :: _ => rfl
theorem end_neg (s : Bs) : decide (LayT.endOf s < 0) = !endB s := by
  unfold LayT.endOf endB
  by_cases h1 : s = [65]
  · rw [if_pos h1]; simp [h1]
  · rw [if_neg h1]
    by_cases h2 : s = [66]
    · rw [if_pos h2]; simp [h2]
    · rw [if_neg h2]; simp [h1, h2]
theorem end_val {s : Bs} (h : endB s = true) : LayT.endOf s = endV s := by
  unfold LayT.endOf endV
  unfold endB at h
  by_cases h1 : s = [65]
  · rw [if_pos h1, if_pos h1]
  · rw [if_neg h1, if_neg h1]
    by_cases h2 : s = [66]
    · rw [if_pos h2, if_pos h2]
    · simp [h1, h2] at h
theorem link_bad {l : Lay} {a ae b be : Bs} {more : List Bs} (h : (!endB ae || !endB be || !((more.drop 1).head?.all fun w => w == [48] || w == [49])) = true) : declLink l a ae b be more = (l, 2) := by
  unfold declLink
  rw [end_neg, end_neg, if_pos h]
theorem link_lost {l : Lay} {a ae b be : Bs} {more : List Bs} (h : (!endB ae || !endB be || !((more.drop 1).head?.all fun w => w == [48] || w == [49])) = false) (hp : place 0 (l.sections.map Sec.name) a < 0 ∨ place 0 (l.sections.map Sec.name) b < 0) : declLink l a ae b be more = (l, 3) := by
  unfold declLink
  rw [end_neg, end_neg, if_neg (by rw [h]; decide), if_pos hp]
theorem link_plain {l : Lay} {a ae b be : Bs} (h1 : endB ae = true) (h2 : endB be = true) (hp : ¬ (place 0 (l.sections.map Sec.name) a < 0 ∨ place 0 (l.sections.map Sec.name) b < 0)) :
    declLink l a ae b be [] = ({ l with links := l.links ++ [⟨place 0 (l.sections.map Sec.name) a, endV ae, place 0 (l.sections.map Sec.name) b, endV be, -1, 0⟩] }, 0) := by
  unfold declLink
  rw [end_neg, end_neg, if_neg (by rw [h1, h2]; simp), if_neg hp, end_val h1, end_val h2]
theorem link_nopt {l : Lay} {a ae b be p q : Bs} (h1 : endB ae = true) (h2 : endB be = true) (h3 : posB q = true) (hp : ¬ (place 0 (l.sections.map Sec.name) a < 0 ∨ place 0 (l.sections.map Sec.name) b < 0)) (hpt : place 0 l.points p < 0) :
    declLink l a ae b be [p, q] = (l, 3) := by
  unfold declLink
  unfold posB at h3
  rw [end_neg, end_neg, if_neg (by rw [h1, h2]; simp at h3 ⊢; rcases h3 with h3 | h3 <;> simp [h3]), if_neg hp]
  simp only
  rw [if_pos hpt]
theorem link_pt {l : Lay} {a ae b be p q : Bs} (h1 : endB ae = true) (h2 : endB be = true) (h3 : posB q = true) (hp : ¬ (place 0 (l.sections.map Sec.name) a < 0 ∨ place 0 (l.sections.map Sec.name) b < 0)) (hpt : ¬ place 0 l.points p < 0) :
    declLink l a ae b be [p, q] = ({ l with links := l.links ++ [⟨place 0 (l.sections.map Sec.name) a, endV ae, place 0 (l.sections.map Sec.name) b, endV be, place 0 l.points p, posV q⟩] }, 0) := by
  unfold declLink
  unfold posB at h3
  rw [end_neg, end_neg, if_neg (by rw [h1, h2]; simp at h3 ⊢; rcases h3 with h3 | h3 <;> simp [h3]), if_neg hp]
  simp only
  rw [if_neg hpt, end_val h1, end_val h2]
  rfl
/-- a look-up's answer, at whatever number of draws -/
theorem look_any {w : World} {m k : Nat} {L : List Bs} {s : Bs} (h : Nums w m k L) (hs : s.length ≤ 65537) {r : Bool} (hr : decide (0 ≤ place 0 L s) = r) :
    ∀ nd, (Instr.lookup 75 (.map (some m)) (.string (str s)) true).run Tryd.prog (w.drewN nd) = .ok (.tuple #[.int .i64 (numOf L s), .bool r]) (w.drewN nd) := fun nd => by
  have := (h.drewN nd).look (s := s) (by omega)
  rw [hr] at this
  exact this

set_option maxRecDepth 100000 in
set_option maxHeartbeats 8000000 in
theorem link_no (g m1 m2 m3 k : Nat) (l : Lay) (v : LV) (A : Option Addr) (n c : Nat) (O : List Bs) (w : World) (h : Dr w g m1 m2 m3 k l v) (hO : Opn w g A n O) (hk : k ≤ 100000) (hn : n ≤ 100) (hz : ∀ s ∈ O, s.length ≤ 65537) (h4 : n ≠ 4) (h6 : n ≠ 6) : Calls Tryd.prog 71 #[.pointer (some ⟨g, 0, none⟩), .slice A n c] w (DrPost g m1 m2 m3 (k + 1) (declL l O) w) := by
  have hl := hO.1.1
  rw [declL_other l O (by omega) (by omega)]
  have HS := Lib.hid (Dr.stay (z := 2) h (Below.refl _ _))
  have e6 : ((n : Int) == 6) = false := by simpa using (by omega : ¬ (n : Int) = 6)
  have e4 : ((n : Int) != 4) = true := by simpa using (by omega : ¬ (n : Int) = 4)
  clear h hO hl h4 h6
  go_enter Tryd.func71, Tryd.ntmps71
  go_wp2_with fail
  go_ret
  exact HS.out
set_option maxRecDepth 100000 in
set_option maxHeartbeats 8000000 in
theorem link_four (g m1 m2 m3 k : Nat) (l : Lay) (v : LV) (A : Option Addr) (n c : Nat) (O : List Bs) (w : World) (h : Dr w g m1 m2 m3 k l v) (hO : Opn w g A n O) (hk : k ≤ 100000) (hn : n ≤ 100) (hz : ∀ s ∈ O, s.length ≤ 65537) (h4 : n = 4) : Calls Tryd.prog 71 #[.pointer (some ⟨g, 0, none⟩), .slice A n c] w (DrPost g m1 m2 m3 (k + 1) (declL l O) w) := by
  obtain ⟨a, ae, b, be, rfl⟩ := four (hO.1.1.trans h4)
  subst h4
  obtain ⟨ad, rfl, hab, hadg⟩ := opn_lt hO (by omega)
  have o0 := opn_at0 hO rfl
  have o1 := opn_at (i := 1) hO rfl (by omega)
  have o2 := opn_at (i := 2) hO rfl (by omega)
  have o3 := opn_at (i := 3) hO rfl (by omega)
  have EA : Hid (∀ wx, Calls Tryd.prog 93 #[.string (str ae)] wx (Two (endV ae) (endB ae) wx)) := fun wx => end_of ae wx
  have EB : Hid (∀ wx, Calls Tryd.prog 93 #[.string (str be)] wx (Two (endV be) (endB be) wx)) := fun wx => end_of be wx
  have za : a.length ≤ 65537 := hz a (by simp)
  have zb : b.length ≤ 65537 := hz b (by simp)
  have hgw := h.blk.lt
  have k5 := h.blk.c5
  have k6 := h.blk.c6
  have HF : Hid (∀ W, Below w.heap.size w W → W.cell? ⟨g, 6, none⟩ = some (.map (some m3)) ∧ W.cell? ⟨g, 5, none⟩ = some (.map (some m2)) ∧ W.cell? ad = some (.string (str a)) ∧ W.cell? ⟨ad.block, ad.off + 2, none⟩ = some (.string (str b))) := fun W hb => ⟨(hb.cell (p := ⟨g, 6, none⟩) hgw).trans k6, (hb.cell (p := ⟨g, 5, none⟩) hgw).trans k5, (hb.cell hab).trans o0, (hb.cell (p := ⟨_, _, none⟩) hab).trans o2⟩
  cases g1 : endB ae with
  | false =>
    rw [g1] at EA
    have HX : Hid (declL l [a, ae, b, be] = (l, 2)) := link_bad (by rw [g1]; simp)
    rw [HX.out]
    have HS := Lib.hid (Dr.stay (z := 2) h (Below.refl _ _))
    clear h hO hz HX HF k5 k6
    go_enter Tryd.func71, Tryd.ntmps71
    go_wp2_with (first | (go_at_call 93; (with_reducible refine (EA.out _).mono ?_); rintro e w' ⟨rfl, rfl⟩) | (go_at_call 93; (with_reducible refine (EB.out _).mono ?_); rintro e w' ⟨rfl, rfl⟩))
    go_ret
    exact HS.out
  | true =>
    rw [g1] at EA
    cases g2 : endB be with
    | false =>
      rw [g2] at EB
      have HX : Hid (declL l [a, ae, b, be] = (l, 2)) := link_bad (by rw [g2, g1]; simp)
      rw [HX.out]
      have HS := Lib.hid (Dr.stay (z := 2) h (Below.refl _ _))
      clear h hO hz HX HF k5 k6
      go_enter Tryd.func71, Tryd.ntmps71
      go_wp2_with (first | (go_at_call 93; (with_reducible refine (EA.out _).mono ?_); rintro e w' ⟨rfl, rfl⟩) | (go_at_call 93; (with_reducible refine (EB.out _).mono ?_); rintro e w' ⟨rfl, rfl⟩))
      go_ret
      exact HS.out
    | true =>
      rw [g2] at EB
      cases pa : decide (0 ≤ place 0 (l.sections.map Sec.name) a) with
      | false =>
        have na : place 0 (l.sections.map Sec.name) a < 0 := by have := of_decide_eq_false pa; omega
        have HX : Hid (declL l [a, ae, b, be] = (l, 3)) := link_lost (by rw [g1, g2]; simp) (.inl na)
        rw [HX.out]
        have la := look_any h.q3 za pa
        have LB : Hid (∀ W, Below w.heap.size w W → _) := fun W hb => look_any (h.below hb).q3 zb rfl
        have HS := Lib.hid (fun w' (hb : Below w.heap.size w w') => Dr.stay (z := 3) h hb)
        clear h hO hz HX
        go_enter Tryd.func71, Tryd.ntmps71
        go_upto_region 11 with (first | (go_at_call 93; (with_reducible refine (EA.out _).mono ?_); rintro e w' ⟨rfl, rfl⟩) | (go_at_call 93; (with_reducible refine (EB.out _).mono ?_); rintro e w' ⟨rfl, rfl⟩))
        obtain ⟨f6, f5, f0, f2⟩ := HF.out w (Below.refl _ _)
        go_quiet (fail)
        generalize hW1 : w.drewN _ = W1
        have HB1 : Hid (Below w.heap.size w W1) := by rw [Hid, ← hW1]; exact Mem.below_draws (Below.refl _ _) _
        clear hW1 f6 f5 f0 f2 o0 o1 o2 o3 k5 k6
        have lb' := LB.out W1 HB1.out
        obtain ⟨f6, f5, f0, f2⟩ := HF.out W1 HB1.out
        go_upto_region 12 with fail
        go_quiet (fail)
        generalize hW2 : W1.drewN _ = W2
        have HB2 : Hid (Below w.heap.size w W2) := by rw [Hid, ← hW2]; exact Mem.below_draws HB1.out _
        clear hW2 f6 f5 f0 f2 lb'
        go_wp2_with fail
        go_ret
        exact HS.out _ HB2.out
      | true =>
        have na : ¬ place 0 (l.sections.map Sec.name) a < 0 := by have := of_decide_eq_true pa; omega
        cases pb : decide (0 ≤ place 0 (l.sections.map Sec.name) b) with
        | false =>
          have nb : place 0 (l.sections.map Sec.name) b < 0 := by have := of_decide_eq_false pb; omega
          have HX : Hid (declL l [a, ae, b, be] = (l, 3)) := link_lost (by rw [g1, g2]; simp) (.inr nb)
          rw [HX.out]
          have la := look_any h.q3 za pa
          have LB : Hid (∀ W, Below w.heap.size w W → _) := fun W hb => look_any (h.below hb).q3 zb pb
          have HS := Lib.hid (fun w' (hb : Below w.heap.size w w') => Dr.stay (z := 3) h hb)
          clear h hO hz HX
          go_enter Tryd.func71, Tryd.ntmps71
          go_upto_region 11 with (first | (go_at_call 93; (with_reducible refine (EA.out _).mono ?_); rintro e w' ⟨rfl, rfl⟩) | (go_at_call 93; (with_reducible refine (EB.out _).mono ?_); rintro e w' ⟨rfl, rfl⟩))
          obtain ⟨f6, f5, f0, f2⟩ := HF.out w (Below.refl _ _)
          go_quiet (fail)
          generalize hW1 : w.drewN _ = W1
          have HB1 : Hid (Below w.heap.size w W1) := by rw [Hid, ← hW1]; exact Mem.below_draws (Below.refl _ _) _
          clear hW1 f6 f5 f0 f2 o0 o1 o2 o3 k5 k6
          have lb' := LB.out W1 HB1.out
          obtain ⟨f6, f5, f0, f2⟩ := HF.out W1 HB1.out
          go_upto_region 12 with fail
          go_quiet (fail)
          generalize hW2 : W1.drewN _ = W2
          have HB2 : Hid (Below w.heap.size w W2) := by rw [Hid, ← hW2]; exact Mem.below_draws HB1.out _
          clear hW2 f6 f5 f0 f2 lb'
          go_wp2_with fail
          go_ret
          exact HS.out _ HB2.out
        | true =>
          have nb : ¬ place 0 (l.sections.map Sec.name) b < 0 := by have := of_decide_eq_true pb; omega
          obtain ⟨za0, hza0⟩ : ∃ z, place 0 (l.sections.map Sec.name) a = z := ⟨_, rfl⟩
          obtain ⟨zb0, hzb0⟩ : ∃ z, place 0 (l.sections.map Sec.name) b = z := ⟨_, rfl⟩
          have HX : Hid (declL l [a, ae, b, be] = ({ l with links := l.links ++ [⟨za0, endV ae, zb0, endV be, -1, 0⟩] }, 0)) := by
            rw [Hid, ← hza0, ← hzb0]
            exact link_plain g1 g2 (by omega)
          rw [HX.out]
          have la := look_any h.q3 za pa
          rw [show numOf (l.sections.map Sec.name) a = za0 from (if_neg na).trans hza0] at la
          have LB : Hid (∀ W, Below w.heap.size w W → _) := fun W hb => look_any (h.below hb).q3 zb pb
          rw [show numOf (l.sections.map Sec.name) b = zb0 from (if_neg nb).trans hzb0] at LB
          have HD : Hid (∀ W, Below w.heap.size w W → Dr W g m1 m2 m3 k l v) := fun W hb => h.below hb
          have hms := h.ms
          have hb4 := h.b4
          clear h hO hz HX hza0 hzb0 na nb pa pb
          go_enter Tryd.func71, Tryd.ntmps71
          go_upto_region 11 with (first | (go_at_call 93; (with_reducible refine (EA.out _).mono ?_); rintro e w' ⟨rfl, rfl⟩) | (go_at_call 93; (with_reducible refine (EB.out _).mono ?_); rintro e w' ⟨rfl, rfl⟩))
          obtain ⟨f6, f5, f0, f2⟩ := HF.out w (Below.refl _ _)
          go_quiet (fail)
          generalize hW1 : w.drewN _ = W1
          have HB1 : Hid (Below w.heap.size w W1) := by rw [Hid, ← hW1]; exact Mem.below_draws (Below.refl _ _) _
          clear hW1 f6 f5 f0 f2 o0 o1 o2 o3 k5 k6
          have lb' := LB.out W1 HB1.out
          obtain ⟨f6, f5, f0, f2⟩ := HF.out W1 HB1.out
          go_upto_region 12 with fail
          go_quiet (fail)
          generalize hW2 : W1.drewN _ = W2
          have HB2 : Hid (Below w.heap.size w W2) := by rw [Hid, ← hW2]; exact Mem.below_draws HB1.out _
          clear hW2 f6 f5 f0 f2 lb'
          have hDW := HD.out W2 HB2.out
          have hzw : w.heap.size ≤ W2.heap.size := HB2.out.size
          have k3 := hDW.blk.c3
          have hgW := hDW.blk.lt
          have HDW := Lib.hid hDW
          have hn63 : v.n4 + 1 ≤ maxLen := by unfold maxLen; omega
          have hby : (v.n4 + 1) * 48 ≤ 140737488355328 := by omega
          obtain ⟨ih, hih, hz0, hz1, hz2⟩ := info_parts infoLnk
          clear hDW
          go_wp2_with (at_builtin; refine wpList_append_own _ rfl _ _ 24 rfl (g + 1) 64 ih _ 6 48 Tryd.underlying24 hih hz0 hz1 hz2 rfl (by omega) (.slice v.A4 v.n4 v.c4) v.n4 (lnkR.cs l.links) rfl (HDW.out.lnk.2.alloc _) ⟨W2.heap.size, 0, none⟩ 1 1 [.int .i64 za0, .int .i64 (endV ae), .int .i64 zb0, .int .i64 (endV be), .int .i64 (-1), .int .i64 (0)] rfl rfl (World.news_of_block (cs := #[.int .i64 za0, .int .i64 (endV ae), .int .i64 zb0, .int .i64 (endV be), .int .i64 (-1), .int .i64 (0)]) (t := 64) (fr := (0, 0)) (heap_alloc_new _ _)) (by simp [Value.oneCell']) hn63 hby (by simp; omega) ?_)
          intro vv w7 hown7 hgrow7 _
          have hO7 := Recs.Own.push (R := lnkR) (a := ⟨za0, endV ae, zb0, endV be, -1, 0⟩) HDW.out.lnk.1 hown7
          obtain ⟨A', c', rfl, _⟩ := hO7.form
          have HO7 := Lib.hid hO7
          have h2 : W2.grownBy w7 (Value.slice v.A4 v.n4 v.c4).ownBlock := (World.grownBy_alloc W2 _ _).trans hgrow7
          have HDr := Lib.hid (HDW.out.link h2 HO7.out)
          have HBB : Hid (Below m1 W2 (w7.setCell ⟨g, 3, none⟩ (.slice A' (v.n4 + 1) c'))) := below3 (m := m1) (Nat.le_refl _) (by omega) (by omega) (World.grownBy.refl _ _) h2 (Dr.lo HDW.out.lnk)
          have hu := Dr.lo HDW.out.lnk
          have hg7 : w7.heap[g]? = W2.heap[g]? := h2.block g hgW (fun e => by have := hu _ e.symm; omega)
          have k7 := (cell_same (p := ⟨g, 3, none⟩) hg7).trans k3
          have f7 := (frozen_same (p := ⟨g, 3, none⟩) hg7).trans (HDW.out.blk.f 3)
          clear hO7 hown7 hgrow7 hg7 k3 h2 hu
          go_wp2_with fail
          go_ret
          exact ⟨_, rfl, HDr.out, (HB2.out.mono (by omega)).trans HBB.out, by have := HBB.out.size; omega⟩
set_option maxRecDepth 100000 in
set_option maxHeartbeats 8000000 in
theorem link_six (g m1 m2 m3 k : Nat) (l : Lay) (v : LV) (A : Option Addr) (n c : Nat) (O : List Bs) (w : World) (h : Dr w g m1 m2 m3 k l v) (hO : Opn w g A n O) (hk : k ≤ 100000) (hn : n ≤ 100) (hz : ∀ s ∈ O, s.length ≤ 65537) (h6 : n = 6) : Calls Tryd.prog 71 #[.pointer (some ⟨g, 0, none⟩), .slice A n c] w (DrPost g m1 m2 m3 (k + 1) (declL l O) w) := by
  obtain ⟨a, ae, b, be, p, q, rfl⟩ := six (hO.1.1.trans h6)
  subst h6
  obtain ⟨ad, rfl, hab, hadg⟩ := opn_lt hO (by omega)
  have o0 := opn_at0 hO rfl
  have o1 := opn_at (i := 1) hO rfl (by omega)
  have o2 := opn_at (i := 2) hO rfl (by omega)
  have o3 := opn_at (i := 3) hO rfl (by omega)
  have o4 := opn_at (i := 4) hO rfl (by omega)
  have o5 := opn_at (i := 5) hO rfl (by omega)
  have EA : Hid (∀ wx, Calls Tryd.prog 93 #[.string (str ae)] wx (Two (endV ae) (endB ae) wx)) := fun wx => end_of ae wx
  have EB : Hid (∀ wx, Calls Tryd.prog 93 #[.string (str be)] wx (Two (endV be) (endB be) wx)) := fun wx => end_of be wx
  have EP : Hid (∀ wx, Calls Tryd.prog 94 #[.string (str q)] wx (Two (posV q) (posB q) wx)) := fun wx => position_of q wx
  have za : a.length ≤ 65537 := hz a (by simp)
  have zb : b.length ≤ 65537 := hz b (by simp)
  have zp : p.length ≤ 65537 := hz p (by simp)
  have hgw := h.blk.lt
  have k5 := h.blk.c5
  have k6 := h.blk.c6
  have HF : Hid (∀ W, Below w.heap.size w W → W.cell? ⟨g, 6, none⟩ = some (.map (some m3)) ∧ W.cell? ⟨g, 5, none⟩ = some (.map (some m2)) ∧ W.cell? ad = some (.string (str a)) ∧ W.cell? ⟨ad.block, ad.off + 2, none⟩ = some (.string (str b)) ∧ W.cell? ⟨ad.block, ad.off + 4, none⟩ = some (.string (str p))) := fun W hb => ⟨(hb.cell (p := ⟨g, 6, none⟩) hgw).trans k6, (hb.cell (p := ⟨g, 5, none⟩) hgw).trans k5, (hb.cell hab).trans o0, (hb.cell (p := ⟨_, _, none⟩) hab).trans o2, (hb.cell (p := ⟨_, _, none⟩) hab).trans o4⟩
  cases g1 : endB ae with
  | false =>
    rw [g1] at EA
    have HX : Hid (declL l [a, ae, b, be, p, q] = (l, 2)) := link_bad (by rw [g1]; simp)
    rw [HX.out]
    have HS := Lib.hid (Dr.stay (z := 2) h (Below.refl _ _))
    clear h hO hz HX HF k5 k6
    go_enter Tryd.func71, Tryd.ntmps71
    go_wp2_with (first | (go_at_call 93; (with_reducible refine (EA.out _).mono ?_); rintro e w' ⟨rfl, rfl⟩) | (go_at_call 93; (with_reducible refine (EB.out _).mono ?_); rintro e w' ⟨rfl, rfl⟩) | (go_at_call 94; (with_reducible refine (EP.out _).mono ?_); rintro e w' ⟨rfl, rfl⟩))
    go_ret
    exact HS.out
  | true =>
    rw [g1] at EA
    cases g2 : endB be with
    | false =>
      rw [g2] at EB
      have HX : Hid (declL l [a, ae, b, be, p, q] = (l, 2)) := link_bad (by rw [g2, g1]; simp)
      rw [HX.out]
      have HS := Lib.hid (Dr.stay (z := 2) h (Below.refl _ _))
      clear h hO hz HX HF k5 k6
      go_enter Tryd.func71, Tryd.ntmps71
      go_wp2_with (first | (go_at_call 93; (with_reducible refine (EA.out _).mono ?_); rintro e w' ⟨rfl, rfl⟩) | (go_at_call 93; (with_reducible refine (EB.out _).mono ?_); rintro e w' ⟨rfl, rfl⟩) | (go_at_call 94; (with_reducible refine (EP.out _).mono ?_); rintro e w' ⟨rfl, rfl⟩))
      go_ret
      exact HS.out
    | true =>
      rw [g2] at EB
      cases g3 : posB q with
      | false =>
        rw [g3] at EP
        have HX : Hid (declL l [a, ae, b, be, p, q] = (l, 2)) := link_bad (by unfold posB at g3; simp only [List.drop_succ_cons, List.drop_zero, List.head?_cons, Option.all_some]; rw [g3]; simp)
        rw [HX.out]
        have HS := Lib.hid (Dr.stay (z := 2) h (Below.refl _ _))
        clear h hO hz HX HF k5 k6
        go_enter Tryd.func71, Tryd.ntmps71
        go_wp2_with (first | (go_at_call 93; (with_reducible refine (EA.out _).mono ?_); rintro e w' ⟨rfl, rfl⟩) | (go_at_call 93; (with_reducible refine (EB.out _).mono ?_); rintro e w' ⟨rfl, rfl⟩) | (go_at_call 94; (with_reducible refine (EP.out _).mono ?_); rintro e w' ⟨rfl, rfl⟩))
        go_ret
        exact HS.out
      | true =>
        rw [g3] at EP
        cases pa : decide (0 ≤ place 0 (l.sections.map Sec.name) a) with
        | false =>
          have na : place 0 (l.sections.map Sec.name) a < 0 := by have := of_decide_eq_false pa; omega
          have HX : Hid (declL l [a, ae, b, be, p, q] = (l, 3)) := link_lost (by unfold posB at g3; simp only [List.drop_succ_cons, List.drop_zero, List.head?_cons, Option.all_some]; rw [g1, g2, g3]; rfl) (.inl na)
          rw [HX.out]
          have la := look_any h.q3 za pa
          have LB : Hid (∀ W, Below w.heap.size w W → _) := fun W hb => look_any (h.below hb).q3 zb rfl
          have LP : Hid (∀ W, Below w.heap.size w W → _) := fun W hb => look_any (h.below hb).q2 zp rfl
          have HS := Lib.hid (fun w' (hb : Below w.heap.size w w') => Dr.stay (z := 3) h hb)
          clear h hO hz HX
          go_enter Tryd.func71, Tryd.ntmps71
          go_upto_region 11 with (first | (go_at_call 93; (with_reducible refine (EA.out _).mono ?_); rintro e w' ⟨rfl, rfl⟩) | (go_at_call 93; (with_reducible refine (EB.out _).mono ?_); rintro e w' ⟨rfl, rfl⟩) | (go_at_call 94; (with_reducible refine (EP.out _).mono ?_); rintro e w' ⟨rfl, rfl⟩))
          obtain ⟨f6, f5, f0, f2, f4⟩ := HF.out w (Below.refl _ _)
          go_quiet (fail)
          generalize hW1 : w.drewN _ = W1
          have HB1 : Hid (Below w.heap.size w W1) := by rw [Hid, ← hW1]; exact Mem.below_draws (Below.refl _ _) _
          clear hW1 f6 f5 f0 f2 f4 o0 o1 o2 o3 o4 o5 k5 k6
          have lb' := LB.out W1 HB1.out
          obtain ⟨f6, f5, f0, f2, f4⟩ := HF.out W1 HB1.out
          go_upto_region 12 with fail
          go_quiet (fail)
          generalize hW2 : W1.drewN _ = W2
          have HB2 : Hid (Below w.heap.size w W2) := by rw [Hid, ← hW2]; exact Mem.below_draws HB1.out _
          clear hW2 f6 f5 f0 f2 f4 lb'
          have lp' := LP.out W2 HB2.out
          obtain ⟨f6, f5, f0, f2, f4⟩ := HF.out W2 HB2.out
          go_upto_region 15 with fail
          go_quiet (fail)
          generalize hW3 : W2.drewN _ = W3
          have HB3 : Hid (Below w.heap.size w W3) := by rw [Hid, ← hW3]; exact Mem.below_draws HB2.out _
          clear hW3 f6 f5 f0 f2 f4 lp'
          go_wp2_with fail
          go_ret
          exact HS.out _ HB3.out
        | true =>
          have na : ¬ place 0 (l.sections.map Sec.name) a < 0 := by have := of_decide_eq_true pa; omega
          cases pb : decide (0 ≤ place 0 (l.sections.map Sec.name) b) with
          | false =>
            have nb : place 0 (l.sections.map Sec.name) b < 0 := by have := of_decide_eq_false pb; omega
            have HX : Hid (declL l [a, ae, b, be, p, q] = (l, 3)) := link_lost (by unfold posB at g3; simp only [List.drop_succ_cons, List.drop_zero, List.head?_cons, Option.all_some]; rw [g1, g2, g3]; rfl) (.inr nb)
            rw [HX.out]
            have la := look_any h.q3 za pa
            have LB : Hid (∀ W, Below w.heap.size w W → _) := fun W hb => look_any (h.below hb).q3 zb pb
            have LP : Hid (∀ W, Below w.heap.size w W → _) := fun W hb => look_any (h.below hb).q2 zp rfl
            have HS := Lib.hid (fun w' (hb : Below w.heap.size w w') => Dr.stay (z := 3) h hb)
            clear h hO hz HX
            go_enter Tryd.func71, Tryd.ntmps71
            go_upto_region 11 with (first | (go_at_call 93; (with_reducible refine (EA.out _).mono ?_); rintro e w' ⟨rfl, rfl⟩) | (go_at_call 93; (with_reducible refine (EB.out _).mono ?_); rintro e w' ⟨rfl, rfl⟩) | (go_at_call 94; (with_reducible refine (EP.out _).mono ?_); rintro e w' ⟨rfl, rfl⟩))
            obtain ⟨f6, f5, f0, f2, f4⟩ := HF.out w (Below.refl _ _)
            go_quiet (fail)
            generalize hW1 : w.drewN _ = W1
            have HB1 : Hid (Below w.heap.size w W1) := by rw [Hid, ← hW1]; exact Mem.below_draws (Below.refl _ _) _
            clear hW1 f6 f5 f0 f2 f4 o0 o1 o2 o3 o4 o5 k5 k6
            have lb' := LB.out W1 HB1.out
            obtain ⟨f6, f5, f0, f2, f4⟩ := HF.out W1 HB1.out
            go_upto_region 12 with fail
            go_quiet (fail)
            generalize hW2 : W1.drewN _ = W2
            have HB2 : Hid (Below w.heap.size w W2) := by rw [Hid, ← hW2]; exact Mem.below_draws HB1.out _
            clear hW2 f6 f5 f0 f2 f4 lb'
            have lp' := LP.out W2 HB2.out
            obtain ⟨f6, f5, f0, f2, f4⟩ := HF.out W2 HB2.out
            go_upto_region 15 with fail
            go_quiet (fail)
            generalize hW3 : W2.drewN _ = W3
            have HB3 : Hid (Below w.heap.size w W3) := by rw [Hid, ← hW3]; exact Mem.below_draws HB2.out _
            clear hW3 f6 f5 f0 f2 f4 lp'
            go_wp2_with fail
            go_ret
            exact HS.out _ HB3.out
          | true =>
            have nb : ¬ place 0 (l.sections.map Sec.name) b < 0 := by have := of_decide_eq_true pb; omega
            cases pp : decide (0 ≤ place 0 l.points p) with
            | false =>
              have np : place 0 l.points p < 0 := by have := of_decide_eq_false pp; omega
              have HX : Hid (declL l [a, ae, b, be, p, q] = (l, 3)) := link_nopt g1 g2 g3 (by omega) np
              rw [HX.out]
              have la := look_any h.q3 za pa
              have LB : Hid (∀ W, Below w.heap.size w W → _) := fun W hb => look_any (h.below hb).q3 zb pb
              have LP : Hid (∀ W, Below w.heap.size w W → _) := fun W hb => look_any (h.below hb).q2 zp pp
              have HS := Lib.hid (fun w' (hb : Below w.heap.size w w') => Dr.stay (z := 3) h hb)
              clear h hO hz HX
              go_enter Tryd.func71, Tryd.ntmps71
              go_upto_region 11 with (first | (go_at_call 93; (with_reducible refine (EA.out _).mono ?_); rintro e w' ⟨rfl, rfl⟩) | (go_at_call 93; (with_reducible refine (EB.out _).mono ?_); rintro e w' ⟨rfl, rfl⟩) | (go_at_call 94; (with_reducible refine (EP.out _).mono ?_); rintro e w' ⟨rfl, rfl⟩))
              obtain ⟨f6, f5, f0, f2, f4⟩ := HF.out w (Below.refl _ _)
              go_quiet (fail)
              generalize hW1 : w.drewN _ = W1
              have HB1 : Hid (Below w.heap.size w W1) := by rw [Hid, ← hW1]; exact Mem.below_draws (Below.refl _ _) _
              clear hW1 f6 f5 f0 f2 f4 o0 o1 o2 o3 o4 o5 k5 k6
              have lb' := LB.out W1 HB1.out
              obtain ⟨f6, f5, f0, f2, f4⟩ := HF.out W1 HB1.out
              go_upto_region 12 with fail
              go_quiet (fail)
              generalize hW2 : W1.drewN _ = W2
              have HB2 : Hid (Below w.heap.size w W2) := by rw [Hid, ← hW2]; exact Mem.below_draws HB1.out _
              clear hW2 f6 f5 f0 f2 f4 lb'
              have lp' := LP.out W2 HB2.out
              obtain ⟨f6, f5, f0, f2, f4⟩ := HF.out W2 HB2.out
              go_upto_region 15 with fail
              go_quiet (fail)
              generalize hW3 : W2.drewN _ = W3
              have HB3 : Hid (Below w.heap.size w W3) := by rw [Hid, ← hW3]; exact Mem.below_draws HB2.out _
              clear hW3 f6 f5 f0 f2 f4 lp'
              go_wp2_with fail
              go_ret
              exact HS.out _ HB3.out
            | true =>
              have np : ¬ place 0 l.points p < 0 := by have := of_decide_eq_true pp; omega
              obtain ⟨zp0, hzp0⟩ : ∃ z, place 0 l.points p = z := ⟨_, rfl⟩
              obtain ⟨za0, hza0⟩ : ∃ z, place 0 (l.sections.map Sec.name) a = z := ⟨_, rfl⟩
              obtain ⟨zb0, hzb0⟩ : ∃ z, place 0 (l.sections.map Sec.name) b = z := ⟨_, rfl⟩
              have HX : Hid (declL l [a, ae, b, be, p, q] = ({ l with links := l.links ++ [⟨za0, endV ae, zb0, endV be, zp0, posV q⟩] }, 0)) := by
                rw [Hid, ← hza0, ← hzb0, ← hzp0]
                exact link_pt g1 g2 g3 (by omega) np
              rw [HX.out]
              have la := look_any h.q3 za pa
              rw [show numOf (l.sections.map Sec.name) a = za0 from (if_neg na).trans hza0] at la
              have LB : Hid (∀ W, Below w.heap.size w W → _) := fun W hb => look_any (h.below hb).q3 zb pb
              rw [show numOf (l.sections.map Sec.name) b = zb0 from (if_neg nb).trans hzb0] at LB
              have LP : Hid (∀ W, Below w.heap.size w W → _) := fun W hb => look_any (h.below hb).q2 zp pp
              rw [show numOf l.points p = zp0 from (if_neg np).trans hzp0] at LP
              have HD : Hid (∀ W, Below w.heap.size w W → Dr W g m1 m2 m3 k l v) := fun W hb => h.below hb
              have hms := h.ms
              have hb4 := h.b4
              clear h hO hz HX hza0 hzb0 na nb pa pb hzp0 np pp
              go_enter Tryd.func71, Tryd.ntmps71
              go_upto_region 11 with (first | (go_at_call 93; (with_reducible refine (EA.out _).mono ?_); rintro e w' ⟨rfl, rfl⟩) | (go_at_call 93; (with_reducible refine (EB.out _).mono ?_); rintro e w' ⟨rfl, rfl⟩) | (go_at_call 94; (with_reducible refine (EP.out _).mono ?_); rintro e w' ⟨rfl, rfl⟩))
              obtain ⟨f6, f5, f0, f2, f4⟩ := HF.out w (Below.refl _ _)
              go_quiet (fail)
              generalize hW1 : w.drewN _ = W1
              have HB1 : Hid (Below w.heap.size w W1) := by rw [Hid, ← hW1]; exact Mem.below_draws (Below.refl _ _) _
              clear hW1 f6 f5 f0 f2 f4 o0 o1 o2 o3 o4 o5 k5 k6
              have lb' := LB.out W1 HB1.out
              obtain ⟨f6, f5, f0, f2, f4⟩ := HF.out W1 HB1.out
              go_upto_region 12 with fail
              go_quiet (fail)
              generalize hW2 : W1.drewN _ = W2
              have HB2 : Hid (Below w.heap.size w W2) := by rw [Hid, ← hW2]; exact Mem.below_draws HB1.out _
              clear hW2 f6 f5 f0 f2 f4 lb'
              have lp' := LP.out W2 HB2.out
              obtain ⟨f6, f5, f0, f2, f4⟩ := HF.out W2 HB2.out
              go_upto_region 15 with fail
              go_quiet (fail)
              generalize hW3 : W2.drewN _ = W3
              have HB3 : Hid (Below w.heap.size w W3) := by rw [Hid, ← hW3]; exact Mem.below_draws HB2.out _
              clear hW3 f6 f5 f0 f2 f4 lp'
              have hDW := HD.out W3 HB3.out
              have hzw : w.heap.size ≤ W3.heap.size := HB3.out.size
              have k3 := hDW.blk.c3
              have hgW := hDW.blk.lt
              have HDW := Lib.hid hDW
              have hn63 : v.n4 + 1 ≤ maxLen := by unfold maxLen; omega
              have hby : (v.n4 + 1) * 48 ≤ 140737488355328 := by omega
              obtain ⟨ih, hih, hz0, hz1, hz2⟩ := info_parts infoLnk
              clear hDW
              go_wp2_with (at_builtin; refine wpList_append_own _ rfl _ _ 24 rfl (g + 1) 64 ih _ 6 48 Tryd.underlying24 hih hz0 hz1 hz2 rfl (by omega) (.slice v.A4 v.n4 v.c4) v.n4 (lnkR.cs l.links) rfl (HDW.out.lnk.2.alloc _) ⟨W3.heap.size, 0, none⟩ 1 1 [.int .i64 za0, .int .i64 (endV ae), .int .i64 zb0, .int .i64 (endV be), .int .i64 (zp0), .int .i64 (posV q)] rfl rfl (World.news_of_block (cs := #[.int .i64 za0, .int .i64 (endV ae), .int .i64 zb0, .int .i64 (endV be), .int .i64 (zp0), .int .i64 (posV q)]) (t := 64) (fr := (0, 0)) (heap_alloc_new _ _)) (by simp [Value.oneCell']) hn63 hby (by simp; omega) ?_)
              intro vv w7 hown7 hgrow7 _
              have hO7 := Recs.Own.push (R := lnkR) (a := ⟨za0, endV ae, zb0, endV be, zp0, posV q⟩) HDW.out.lnk.1 hown7
              obtain ⟨A', c', rfl, _⟩ := hO7.form
              have HO7 := Lib.hid hO7
              have h2 : W3.grownBy w7 (Value.slice v.A4 v.n4 v.c4).ownBlock := (World.grownBy_alloc W3 _ _).trans hgrow7
              have HDr := Lib.hid (HDW.out.link h2 HO7.out)
              have HBB : Hid (Below m1 W3 (w7.setCell ⟨g, 3, none⟩ (.slice A' (v.n4 + 1) c'))) := below3 (m := m1) (Nat.le_refl _) (by omega) (by omega) (World.grownBy.refl _ _) h2 (Dr.lo HDW.out.lnk)
              have hu := Dr.lo HDW.out.lnk
              have hg7 : w7.heap[g]? = W3.heap[g]? := h2.block g hgW (fun e => by have := hu _ e.symm; omega)
              have k7 := (cell_same (p := ⟨g, 3, none⟩) hg7).trans k3
              have f7 := (frozen_same (p := ⟨g, 3, none⟩) hg7).trans (HDW.out.blk.f 3)
              clear hO7 hown7 hgrow7 hg7 k3 h2 hu
              go_wp2_with fail
              go_ret
              exact ⟨_, rfl, HDr.out, (HB3.out.mono (by omega)).trans HBB.out, by have := HBB.out.size; omega⟩
theorem add_link (g m1 m2 m3 k : Nat) (l : Lay) (v : LV) (A : Option Addr) (n c : Nat) (O : List Bs) (w : World) (h : Dr w g m1 m2 m3 k l v) (hO : Opn w g A n O) (hk : k ≤ 100000) (hn : n ≤ 100) (hz : ∀ s ∈ O, s.length ≤ 65537) : Calls Tryd.prog 71 #[.pointer (some ⟨g, 0, none⟩), .slice A n c] w (DrPost g m1 m2 m3 (k + 1) (declL l O) w) := by
  by_cases h4 : n = 4
  · exact link_four g m1 m2 m3 k l v A n c O w h hO hk hn hz h4
  · by_cases h6 : n = 6
    · exact link_six g m1 m2 m3 k l v A n c O w h hO hk hn hz h6
    · exact link_no g m1 m2 m3 k l v A n c O w h hO hk hn hz h4 h6
end Go.Proofs.YtkfobijgjdgbgaaDoor.DLnk

namespace Go.Proofs.YtkfobijgjdgbgaaDoor.DLine
open Go.ChangeShapes Go.WideShapes Go.ChangeAt Go.RowKit Wd Small Mem Lay LayT Recs Keep Names PNames PSecs PEnds RNames Num Txt App Dft DSec DLnk
set_option linter.unusedVariables false

theorem decl_station_no (l : Lay) (O : List Bs) (h : O.length ≠ 1) : decl l (kwStation :: O) = (l, 2) := by
  match O with
  | [] => rfl
  | [_] => exact absurd rfl h
  | [_, _] => rfl
  | [_, _, _] => rfl
  | [_, _, _, _] => rfl
  | [_, _, _, _, _] => rfl
  | [_, _, _, _, _, _] => rfl
  | _ :: _ :: _ :: _ :: _ :: _ :: _ :: _ => rfl
theorem decl_point_no (l : Lay) (O : List Bs) (h : O.length ≠ 1) : decl l (kwPoint :: O) = (l, 2) := by
  match O with
  | [] => rfl
  | [_] => exact absurd rfl h
  | [_, _] => rfl
  | [_, _, _] => rfl
  | [_, _, _, _] => rfl
  | [_, _, _, _, _] => rfl
  | [_, _, _, _, _, _] => rfl
  | _ :: _ :: _ :: _ :: _ :: _ :: _ :: _ => rfl
theorem decl_station (l : Lay) (s : Bs) : decl l [kwStation, s] = ({ l with stations := l.stations ++ [s] }, 0) := rfl
theorem decl_point (l : Lay) (s : Bs) : decl l [kwPoint, s] = ({ l with points := l.points ++ [s] }, 0) := rfl
theorem decl_section (l : Lay) (O : List Bs) : decl l (kwSection :: O) = declS l O := by
  match O with
  | [] => rfl
  | [_] => rfl
  | [_, _] => rfl
  | [_, _, _] => rfl
  | [_, _, _, _] => rfl
  | [_, _, _, _, _] => rfl
  | [_, _, _, _, _, _] => rfl
  | _ :: _ :: _ :: _ :: _ :: _ :: _ :: _ => rfl
theorem decl_link2 (l : Lay) (O : List Bs) : decl l (kwLink :: O) = declL l O := by
  match O with
  | [] => rfl
  | [_] => rfl
  | [_, _] => rfl
  | [_, _, _] => rfl
  | [_, _, _, _] => rfl
  | [_, _, _, _, _] => rfl
  | [_, _, _, _, _, _] => rfl
  | _ :: _ :: _ :: _ :: _ :: _ :: _ :: _ => rfl
theorem decl_none (l : Lay) (kw : Bs) (O : List Bs) (h1 : kw ≠ kwStation) (h2 : kw ≠ kwPoint) (h3 : kw ≠ kwSection) (h4 : kw ≠ kwLink) : decl l (kw :: O) = (l, 2) := by
  match O with
  | [] => rfl
  | [_] => simp only [decl]; rw [if_neg h1, if_neg h2]
  | [_, _] => rfl
  | [_, _, _] => rfl
  | [_, _, _, _] => simp only [decl]; rw [if_neg h3, if_neg h4]
  | [_, _, _, _, _] => rfl
  | [_, _, _, _, _, _] => simp only [decl]; rw [if_neg h3, if_neg h4]
  | _ :: _ :: _ :: _ :: _ :: _ :: _ :: _ => rfl
theorem add_next (ad : Addr) (j : Nat) : (⟨ad.block, ad.off + 1, none⟩ : Addr).add j = ad.add (j + 1) := by
  unfold Addr.add
  by_cases hj : j = 0
  · subst hj; simp
  · simp [hj, Nat.add_assoc, Nat.add_comm 1 j]
/-- the operands behind the first word -/
theorem opn_tail {w : World} {g n : Nat} {ad : Addr} {x : Bs} {O : List Bs} (h : Opn w g (some ad) (n + 1) (x :: O)) : Opn w g (some ⟨ad.block, ad.off + 1, none⟩) n O := by
  have hl := h.1.1
  simp only [List.length_cons] at hl
  obtain ⟨ad0, e0, hb, hg⟩ := opn_lt h (by omega)
  cases e0
  refine ⟨⟨by omega, fun j u hu => ⟨_, rfl, hb, ?_⟩⟩, fun a e => by cases e; exact hg⟩
  obtain ⟨ad', e, _, hc⟩ := h.1.2 (j + 1) u (by
    rw [show sR.cs (x :: O) = [.string (str x)] ++ sR.cs O from rfl]
    rw [List.getElem?_append_right (by simp)]
    simpa using hu)
  cases e
  rw [add_next]
  exact hc
theorem opn_none {w : World} {g : Nat} {ad : Addr} {x : Bs} (h : Opn w g (some ad) 1 [x]) : Opn w g (some ad) 0 [] := ⟨Recs.Rd.nil _ _ _, h.2⟩
theorem str_is (s t : Bs) : ((str s).toList == t) = decide (s = t) := by
  rw [Bool.eq_iff_iff]
  simp only [beq_iff_eq, decide_eq_true_eq]
  rw [show (str s).toList = s from by rw [Lib.toList_data]; exact str_toList s]
theorem Opn.below {w w' : World} {g n : Nat} {A : Option Addr} {O : List Bs} (h : Opn w g A n O) (hb : Below w.heap.size w w') : Opn w' g A n O := ⟨h.1.grow hb hb.size, h.2⟩

set_option maxRecDepth 100000 in
set_option maxHeartbeats 4000000 in
theorem add_line (g m1 m2 m3 k : Nat) (l : Lay) (v : LV) (ad : Addr) (n c : Nat) (kw : Bs) (O : List Bs) (w : World) (h : Dr w g m1 m2 m3 k l v) (hO : Opn w g (some ad) (n + 1) (kw :: O)) (hk : k ≤ 100000) (hn : n ≤ 99) (hc : n + 1 ≤ c) (hcm : c ≤ maxLen) (hz : ∀ s ∈ kw :: O, s.length ≤ 65537) : Calls Tryd.prog 36 #[.pointer (some ⟨g, 0, none⟩), .slice (some ad) (n + 1 : Nat) c] w (DrPost g m1 m2 m3 (k + 1) (decl l (kw :: O)) w) := by
  unfold maxLen at hcm
  have o0 := opn_at0 hO rfl
  by_cases hc1 : c = 1
  · subst hc1
    obtain rfl : n = 0 := by omega
    have hl := hO.1.1
    obtain rfl : O = [] := by
      match O, hl with
      | [], _ => rfl
    have HO2 := Lib.hid (opn_none hO)
    clear hl
    cases s1 : ((str kw).toList == [115, 116, 97, 116, 105, 111, 110]) with
    | true =>
      obtain rfl : kw = kwStation := of_decide_eq_true ((str_is kw kwStation).symm.trans s1)
      rw [decl_station_no l [] (by simp)]
      have HS := Lib.hid (fun w' (hb : Below w.heap.size w w') => Dr.stay (z := 2) h hb)
      have HA := Lib.hid (append_no g 0 m1 0 0 (some ad) 0 0 w.drew (by omega) (by omega))
      have k4 := h.blk.c4
      clear h hO hz
      go_enter Tryd.func36, Tryd.ntmps36
      go_upto_region 4 with fail
      go_still_tail 9, (by kernel_rfl)
      change wpList _ _ _ _ _ w.drew
      go_wp2_with fail
      (with_reducible refine HA.out.mono ?_)
      rintro e w2 ⟨rfl, hb2⟩
      have HB2 := Lib.hid ((Below.refl w.heap.size w).drew.trans hb2)
      clear hb2 k4
      go_wp2_with fail
      go_ret
      exact HS.out _ HB2.out
    | false =>
      cases s2 : ((str kw).toList == [112, 111, 105, 110, 116]) with
      | true =>
        obtain rfl : kw = kwPoint := of_decide_eq_true ((str_is kw kwPoint).symm.trans s2)
        rw [decl_point_no l [] (by simp)]
        have HS := Lib.hid (fun w' (hb : Below w.heap.size w w') => Dr.stay (z := 2) h hb)
        have HA := Lib.hid (append_no g 1 m2 0 0 (some ad) 0 0 w.drew (by omega) (by omega))
        have k4 := h.blk.c5
        clear h hO hz
        go_enter Tryd.func36, Tryd.ntmps36
        go_upto_region 6 with fail
        go_still_tail 9, (by kernel_rfl)
        change wpList _ _ _ _ _ w.drew
        go_wp2_with fail
        (with_reducible refine HA.out.mono ?_)
        rintro e w2 ⟨rfl, hb2⟩
        have HB2 := Lib.hid ((Below.refl w.heap.size w).drew.trans hb2)
        clear hb2 k4
        go_wp2_with fail
        go_ret
        exact HS.out _ HB2.out
      | false =>
        cases s3 : ((str kw).toList == [115, 101, 99, 116, 105, 111, 110]) with
        | true =>
          obtain rfl : kw = kwSection := of_decide_eq_true ((str_is kw kwSection).symm.trans s3)
          rw [decl_section]
          have HA := Lib.hid (add_section g m1 m2 m3 k l v (some ad) 0 0 [] w h HO2.out hk (by omega) (fun s hs => hz s (List.mem_cons_of_mem _ hs)))
          clear h hO hz
          go_enter Tryd.func36, Tryd.ntmps36
          go_wp2_with fail
          (with_reducible refine HA.out.mono ?_)
          rintro e w2 ⟨v', rfl, hd, hb, hsz⟩
          have HD2 := Lib.hid hd
          have HB2 := Lib.hid hb
          clear hd hb
          go_wp2_with fail
          go_ret
          exact ⟨v', rfl, HD2.out, HB2.out, hsz⟩
        | false =>
          cases s4 : ((str kw).toList == [108, 105, 110, 107]) with
          | true =>
            obtain rfl : kw = kwLink := of_decide_eq_true ((str_is kw kwLink).symm.trans s4)
            rw [decl_link2]
            have HA := Lib.hid (add_link g m1 m2 m3 k l v (some ad) 0 0 [] w h HO2.out hk (by omega) (fun s hs => hz s (List.mem_cons_of_mem _ hs)))
            clear h hO hz
            go_enter Tryd.func36, Tryd.ntmps36
            go_wp2_with fail
            (with_reducible refine HA.out.mono ?_)
            rintro e w2 ⟨v', rfl, hd, hb, hsz⟩
            have HD2 := Lib.hid hd
            have HB2 := Lib.hid hb
            clear hd hb
            go_wp2_with fail
            go_ret
            exact ⟨v', rfl, HD2.out, HB2.out, hsz⟩
          | false =>
            have hno : decl l [kw] = (l, 2) := decl_none l kw [] (of_decide_eq_false ((str_is kw kwStation).symm.trans s1)) (of_decide_eq_false ((str_is kw kwPoint).symm.trans s2)) (of_decide_eq_false ((str_is kw kwSection).symm.trans s3)) (of_decide_eq_false ((str_is kw kwLink).symm.trans s4))
            rw [hno]
            have HS := Lib.hid (Dr.stay (z := 2) h (Below.refl _ _))
            clear h hO hz hno
            go_enter Tryd.func36, Tryd.ntmps36
            go_wp2_with fail
            go_ret
            exact HS.out
  · have HO2 := Lib.hid (opn_tail hO)
    cases s1 : ((str kw).toList == [115, 116, 97, 116, 105, 111, 110]) with
    | true =>
      obtain rfl : kw = kwStation := of_decide_eq_true ((str_is kw kwStation).symm.trans s1)
      have hld := HO2.out.1.1
      have hd1 : Dr w.drew g m1 m2 m3 k l v := h.below (Below.refl _ _).drew
      have ho1 : Opn w.drew g (some ⟨ad.block, ad.off + 1, none⟩) n O := Opn.below HO2.out (Below.refl _ _).drew
      have HD1 := Lib.hid hd1
      have HO1 := Lib.hid ho1
      have k4 := h.blk.c4
      have hmg : m1 < g := by have := h.ms; omega
      have hb := h.b1
      have hgw := h.blk.lt
      by_cases hn1 : n = 1
      · subst hn1
        obtain ⟨s, rfl⟩ : ∃ s, O = [s] := by
          match O, hld with
          | [s], _ => exact ⟨s, rfl⟩
        have hsz : s.length ≤ 65537 := hz s (by simp)
        rw [decl_station]
        have HA := Lib.hid (append_one g 0 m1 k (g + 1) v.n1 v.c1 v.A1 l.stations (some ⟨ad.block, ad.off + 1, none⟩) (c - 1) s w.drew (HD1.out.blk.c0) (HD1.out.blk.f 0) HD1.out.st HD1.out.q1 HO1.out (by omega) hmg (by show g + 1 ≤ w.heap.size; omega) hk hb hsz)
        clear h hO hd1 ho1 hld hz
        go_enter Tryd.func36, Tryd.ntmps36
        go_upto_region 4 with fail
        go_still_tail 9, (by kernel_rfl)
        change wpList _ _ _ _ _ w.drew
        go_wp2_with fail
        (with_reducible refine HA.out.mono ?_)
        rintro e w2 ⟨A', c', wn, rfl, hNn, hOn, hat, ⟨wm, h1, h2⟩, rfl⟩
        have HDr := Lib.hid (HD1.out.stat h1 h2 hNn hOn hat hsz)
        have HBB : Hid (Below m1 w.drew (wn.setCell ⟨g, 0, none⟩ (.slice A' (v.n1 + 1) c'))) := below3 (by have := HD1.out.ms; omega) (by have := HD1.out.ms; omega) (by have := HD1.out.ms; show m1 ≤ w.heap.size; omega) h1 h2 (Dr.lo HD1.out.st)
        clear hNn hOn hat h1 h2 k4
        go_wp2_with fail
        go_ret
        exact ⟨_, rfl, HDr.out, (Below.refl m1 w).drew.trans HBB.out, HBB.out.size⟩
      · rw [decl_station_no l O (by omega)]
        have HS := Lib.hid (fun w' (hb : Below w.heap.size w w') => Dr.stay (z := 2) h hb)
        have HA := Lib.hid (append_no g 0 m1 n (c - 1) (some ⟨ad.block, ad.off + 1, none⟩) n (c - 1) w.drew hn1 (by omega))
        clear h hO hd1 ho1 hld hz
        go_enter Tryd.func36, Tryd.ntmps36
        go_upto_region 4 with fail
        go_still_tail 9, (by kernel_rfl)
        change wpList _ _ _ _ _ w.drew
        go_wp2_with fail
        (with_reducible refine HA.out.mono ?_)
        rintro e w2 ⟨rfl, hb2⟩
        have HB2 := Lib.hid ((Below.refl w.heap.size w).drew.trans hb2)
        clear hb2 k4
        go_wp2_with fail
        go_ret
        exact HS.out _ HB2.out
    | false =>
      cases s2 : ((str kw).toList == [112, 111, 105, 110, 116]) with
      | true =>
        obtain rfl : kw = kwPoint := of_decide_eq_true ((str_is kw kwPoint).symm.trans s2)
        have hld := HO2.out.1.1
        have hd1 : Dr w.drew g m1 m2 m3 k l v := h.below (Below.refl _ _).drew
        have ho1 : Opn w.drew g (some ⟨ad.block, ad.off + 1, none⟩) n O := Opn.below HO2.out (Below.refl _ _).drew
        have HD1 := Lib.hid hd1
        have HO1 := Lib.hid ho1
        have k4 := h.blk.c5
        have hmg : m2 < g := by have := h.ms; omega
        have hb := h.b2
        have hgw := h.blk.lt
        by_cases hn1 : n = 1
        · subst hn1
          obtain ⟨s, rfl⟩ : ∃ s, O = [s] := by
            match O, hld with
            | [s], _ => exact ⟨s, rfl⟩
          have hsz : s.length ≤ 65537 := hz s (by simp)
          rw [decl_point]
          have HA := Lib.hid (append_one g 1 m2 k (g + 1) v.n2 v.c2 v.A2 l.points (some ⟨ad.block, ad.off + 1, none⟩) (c - 1) s w.drew (HD1.out.blk.c1) (HD1.out.blk.f 1) HD1.out.pt HD1.out.q2 HO1.out (by omega) hmg (by show g + 1 ≤ w.heap.size; omega) hk hb hsz)
          clear h hO hd1 ho1 hld hz
          go_enter Tryd.func36, Tryd.ntmps36
          go_upto_region 6 with fail
          go_still_tail 9, (by kernel_rfl)
          change wpList _ _ _ _ _ w.drew
          go_wp2_with fail
          (with_reducible refine HA.out.mono ?_)
          rintro e w2 ⟨A', c', wn, rfl, hNn, hOn, hat, ⟨wm, h1, h2⟩, rfl⟩
          have HDr := Lib.hid (HD1.out.poin h1 h2 hNn hOn hat hsz)
          have HBB : Hid (Below m1 w.drew (wn.setCell ⟨g, 1, none⟩ (.slice A' (v.n2 + 1) c'))) := below3 (by have := HD1.out.ms; omega) (by have := HD1.out.ms; omega) (by have := HD1.out.ms; show m1 ≤ w.heap.size; omega) h1 h2 (Dr.lo HD1.out.pt)
          clear hNn hOn hat h1 h2 k4
          go_wp2_with fail
          go_ret
          exact ⟨_, rfl, HDr.out, (Below.refl m1 w).drew.trans HBB.out, HBB.out.size⟩
        · rw [decl_point_no l O (by omega)]
          have HS := Lib.hid (fun w' (hb : Below w.heap.size w w') => Dr.stay (z := 2) h hb)
          have HA := Lib.hid (append_no g 1 m2 n (c - 1) (some ⟨ad.block, ad.off + 1, none⟩) n (c - 1) w.drew hn1 (by omega))
          clear h hO hd1 ho1 hld hz
          go_enter Tryd.func36, Tryd.ntmps36
          go_upto_region 6 with fail
          go_still_tail 9, (by kernel_rfl)
          change wpList _ _ _ _ _ w.drew
          go_wp2_with fail
          (with_reducible refine HA.out.mono ?_)
          rintro e w2 ⟨rfl, hb2⟩
          have HB2 := Lib.hid ((Below.refl w.heap.size w).drew.trans hb2)
          clear hb2 k4
          go_wp2_with fail
          go_ret
          exact HS.out _ HB2.out
      | false =>
        cases s3 : ((str kw).toList == [115, 101, 99, 116, 105, 111, 110]) with
        | true =>
          obtain rfl : kw = kwSection := of_decide_eq_true ((str_is kw kwSection).symm.trans s3)
          rw [decl_section]
          have HA := Lib.hid (add_section g m1 m2 m3 k l v (some ⟨ad.block, ad.off + 1, none⟩) n (c - 1) O w h HO2.out hk (by omega) (fun s hs => hz s (List.mem_cons_of_mem _ hs)))
          clear h hO hz
          go_enter Tryd.func36, Tryd.ntmps36
          go_wp2_with fail
          (with_reducible refine HA.out.mono ?_)
          rintro e w2 ⟨v', rfl, hd, hb, hsz⟩
          have HD2 := Lib.hid hd
          have HB2 := Lib.hid hb
          clear hd hb
          go_wp2_with fail
          go_ret
          exact ⟨v', rfl, HD2.out, HB2.out, hsz⟩
        | false =>
          cases s4 : ((str kw).toList == [108, 105, 110, 107]) with
          | true =>
            obtain rfl : kw = kwLink := of_decide_eq_true ((str_is kw kwLink).symm.trans s4)
            rw [decl_link2]
            have HA := Lib.hid (add_link g m1 m2 m3 k l v (some ⟨ad.block, ad.off + 1, none⟩) n (c - 1) O w h HO2.out hk (by omega) (fun s hs => hz s (List.mem_cons_of_mem _ hs)))
            clear h hO hz
            go_enter Tryd.func36, Tryd.ntmps36
            go_wp2_with fail
            (with_reducible refine HA.out.mono ?_)
            rintro e w2 ⟨v', rfl, hd, hb, hsz⟩
            have HD2 := Lib.hid hd
            have HB2 := Lib.hid hb
            clear hd hb
            go_wp2_with fail
            go_ret
            exact ⟨v', rfl, HD2.out, HB2.out, hsz⟩
          | false =>
            have hno : decl l (kw :: O) = (l, 2) := decl_none l kw O (of_decide_eq_false ((str_is kw kwStation).symm.trans s1)) (of_decide_eq_false ((str_is kw kwPoint).symm.trans s2)) (of_decide_eq_false ((str_is kw kwSection).symm.trans s3)) (of_decide_eq_false ((str_is kw kwLink).symm.trans s4))
            rw [hno]
            have HS := Lib.hid (Dr.stay (z := 2) h (Below.refl _ _))
            clear h hO hz hno
            go_enter Tryd.func36, Tryd.ntmps36
            go_wp2_with fail
            go_ret
            exact HS.out
end Go.Proofs.YtkfobijgjdgbgaaDoor.DLine
