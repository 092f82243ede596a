/-
  Contracts of the two helpers that lay a list with spare capacity, and that look whether the list and the spare are as they were.
-/
import Derived.Test.YtapflikdoiedeaaUni
import Derived.Laws.AppendOwnNone
import Derived.Deep.DeepMust
namespace Go.Proofs.Ytapflikdoiedeaa.Spare
open Go.ChangeShapes Go.WideShapes Go.ChangeAt Go.RowKit Plain Mem Nums Valid Errs Gather
set_option linter.unusedVariables false

def SparePost (n : Nat) (L : List Sp) (f : Sp) (w : World) (e : Ending) (w' : World) : Prop :=
  ∃ g cap, e = .returned (.slice (some ⟨g, 0, none⟩) n (n + 3)) ∧ Own w' w.heap.size (.slice (some ⟨g, 0, none⟩) (n + 3) cap) (n + 3) (L ++ [f, f, f]) ∧ Below w.heap.size w w'

theorem new_six (w : World) (a b : Int) (e : TypeId) : ∀ (j : Nat) (u : Value), (cs [(a, b), (a, b), (a, b)])[j]? = some u → (w.alloc (.cells #[.int .i64 a, .int .i64 b, .int .i64 a, .int .i64 b, .int .i64 a, .int .i64 b] e)).cell? ((⟨w.heap.size, 0, none⟩ : Addr).add j) = some u := by
  intro j u hu
  match j, hu with
  | 0, hu => simp [cs] at hu; subst hu; simp [Addr.add]
  | 1, hu => simp [cs] at hu; subst hu; simp [Addr.add]
  | 2, hu => simp [cs] at hu; subst hu; simp [Addr.add]
  | 3, hu => simp [cs] at hu; subst hu; simp [Addr.add]
  | 4, hu => simp [cs] at hu; subst hu; simp [Addr.add]
  | 5, hu => simp [cs] at hu; subst hu; simp [Addr.add]

theorem own_some {w : World} {B n : Nat} {v : Value} {L : List Sp} (h : Own w B v n L) (hv : v ≠ .slice none 0 0) : ∃ g c, v = .slice (some ⟨g, 0, none⟩) n c ∧ n ≤ c ∧ c ≤ 9223372036854775807 := by
  rcases h.2.2 with ⟨e, _⟩ | ⟨g, cap, cur, e, _, _, hc, hm, _⟩
  · exact absurd e hv
  · exact ⟨g, cap, e, hc, by unfold maxLen at hm; omega⟩

set_option maxHeartbeats 1600000 in
theorem spare_some (ad : Addr) (n c : Nat) (L : List Sp) (f1 f2 : Int) (w : World) (hS : Spans w w.heap.size (some ad) n L) (hn : n ≤ 100000) :
    Calls Try.prog 40 #[.slice (some ad) n c, .agg #[.int .i64 f1, .int .i64 f2]] w (SparePost n L (f1, f2) w) := by
  obtain ⟨i0, hi, hz0, hz1, hz2⟩ := info_parts info29
  have hl : (cs L).length = n * 2 := by rw [cs_length, hS.1]
  have hbF : Below w.heap.size w (w.alloc (.cells #[.int .i64 f1, .int .i64 f2] 29)) := (Below.refl _ _).alloc (Nat.le_refl _) _
  have hbE : Below (w.heap.size + 1) (w.alloc (.cells #[.int .i64 f1, .int .i64 f2] 29)) ((w.alloc (.cells #[.int .i64 f1, .int .i64 f2] 29)).alloc (.cells #[] 29)) := (Below.refl _ _).alloc (by simp) _
  have hown1 : ((w.alloc (.cells #[.int .i64 f1, .int .i64 f2] 29)).alloc (.cells #[] 29)).ownsRow (w.heap.size + 1) 29 2 (.slice (some ⟨w.heap.size + 1, 0, none⟩) 0 0) 0 [] := by
    have := World.ownsRow_made (base := w.heap.size + 1) (size := 2) (e := 29) (w.alloc (.cells #[.int .i64 f1, .int .i64 f2] 29)) #[] 0 (by simp) (Nat.zero_le _) (by simp)
    rwa [show (w.alloc (.cells #[.int .i64 f1, .int .i64 f2] 29)).heap.size = w.heap.size + 1 from by simp] at this
  have hnews : ∀ (j : Nat) (u : Value), (cs L)[j]? = some u → ((w.alloc (.cells #[.int .i64 f1, .int .i64 f2] 29)).alloc (.cells #[] 29)).cell? (ad.add j) = some u := fun j u hu => by
    obtain ⟨ad', e, hb', hc⟩ := ((hS.below hbF).below (hbE.mono (by omega))).2 j u hu
    injection e with e
    subst e
    exact hc
  have k0 : (w.alloc (.cells #[.int .i64 f1, .int .i64 f2] 29)).cell? ⟨w.heap.size, 0, none⟩ = some (.int .i64 f1) := by simp
  have k1 : (w.alloc (.cells #[.int .i64 f1, .int .i64 f2] 29)).cell? ⟨w.heap.size, 1, none⟩ = some (.int .i64 f2) := by simp
  have HN := Lib.hid hnews
  have HL := Lib.hid hl
  have HS := Lib.hid hS.1
  have HO1 := Lib.hid hown1
  clear hS hnews hl hown1
  go_enter Try.func40, Try.ntmps40
  go_wp2_with (at_builtin; refine wpList_append_own _ rfl (.tmp 6) (.tmp 7) 22 rfl (w.heap.size + 1) 29 i0 _ 2 16 Try.underlying22 hi hz0 hz1 hz2 rfl (by omega) (.slice (some ⟨w.heap.size + 1, 0, none⟩) 0 0) 0 [] rfl HO1.out ad n c (cs L) rfl HL.out HN.out (cs_one L) (by unfold maxLen; omega) (by omega) (by simp) ?_)
  intro v w1 hown' hgrow hnil
  have hO1 : Own w1 (w.heap.size + 1) v n L := ⟨HS.out, by simpa using hown'⟩
  obtain ⟨g1, c1, rfl, hnc, hc1⟩ := own_some hO1 (fun e => by simp [e] at hnil)
  have hb1 : Below (w.heap.size + 1) (w.alloc (.cells #[.int .i64 f1, .int .i64 f2] 29)) w1 := hbE.grown hgrow (by simp) (fun k hk => by simp [Value.ownBlock] at hk; omega)
  have hz1' := hb1.size
  have s0 : w1.cell? ⟨w.heap.size, 0, none⟩ = some (.int .i64 f1) := (hb1.cell (by simp)).trans k0
  have s1 : w1.cell? ⟨w.heap.size, 1, none⟩ = some (.int .i64 f2) := (hb1.cell (by simp)).trans k1
  have hzw : w.heap.size + 1 ≤ w1.heap.size := by simpa using hz1'
  have hown2 := hO1.2
  have HB1 := Lib.hid (hbF.trans (hb1.mono (by omega)))
  have HL1 := Lib.hid hO1
  clear hown' hgrow hnil hb1 hz1' k0 k1 hbF hbE HO1 HN hO1
  go_wp2_with (at_builtin; go_must (refine wpList_append_own _ rfl (.tmp 9) (.tmp 13) 22 rfl (w.heap.size + 1) 29 i0 _ 2 16 Try.underlying22 hi hz0 hz1 hz2 rfl (by omega) (.slice (some ⟨g1, 0, none⟩) n c1) n (cs L) rfl (hown2.alloc _) ⟨w1.heap.size, 0, none⟩ 3 3 (cs [(f1, f2), (f1, f2), (f1, f2)]) rfl rfl (new_six _ _ _ _) (cs_one _) (by unfold maxLen; omega) (by omega) (by simp; omega) ?_))
  intro v w2 hown' hgrow hnil
  have hO2 : Own w2 (w.heap.size + 1) v (n + 3) (L ++ [(f1, f2), (f1, f2), (f1, f2)]) := ⟨by simp [HS.out], by rw [cs_append]; exact hown'⟩
  obtain ⟨g2, c2, rfl, hnc2, hc2⟩ := own_some hO2 (fun e => by simp [e] at hnil)
  have hb2 : Below w.heap.size w w2 := (HB1.out.alloc (by omega) _).grown hgrow (by simp; omega) (fun k hk => by have := (hown2.lt k hk).1; omega)
  have HO2 := Lib.hid (hO2.base_ (show w.heap.size ≤ w.heap.size + 1 by omega))
  clear hown' hgrow hnil hO2 hown2 HL1
  go_wp2
  go_ret
  exact ⟨g2, c2, rfl, HO2.out, hb2⟩

set_option maxHeartbeats 1600000 in
theorem spare_none (f1 f2 : Int) (w : World) :
    Calls Try.prog 40 #[.slice none 0 0, .agg #[.int .i64 f1, .int .i64 f2]] w (SparePost 0 [] (f1, f2) w) := by
  obtain ⟨i0, hi, hz0, hz1, hz2⟩ := info_parts info29
  have hbF : Below w.heap.size w (w.alloc (.cells #[.int .i64 f1, .int .i64 f2] 29)) := (Below.refl _ _).alloc (Nat.le_refl _) _
  have hbE : Below (w.heap.size + 1) (w.alloc (.cells #[.int .i64 f1, .int .i64 f2] 29)) ((w.alloc (.cells #[.int .i64 f1, .int .i64 f2] 29)).alloc (.cells #[] 29)) := (Below.refl _ _).alloc (by simp) _
  have hown1 : ((w.alloc (.cells #[.int .i64 f1, .int .i64 f2] 29)).alloc (.cells #[] 29)).ownsRow (w.heap.size + 1) 29 2 (.slice (some ⟨w.heap.size + 1, 0, none⟩) 0 0) 0 [] := by
    have := World.ownsRow_made (base := w.heap.size + 1) (size := 2) (e := 29) (w.alloc (.cells #[.int .i64 f1, .int .i64 f2] 29)) #[] 0 (by simp) (Nat.zero_le _) (by simp)
    rwa [show (w.alloc (.cells #[.int .i64 f1, .int .i64 f2] 29)).heap.size = w.heap.size + 1 from by simp] at this
  have k0 : (w.alloc (.cells #[.int .i64 f1, .int .i64 f2] 29)).cell? ⟨w.heap.size, 0, none⟩ = some (.int .i64 f1) := by simp
  have k1 : (w.alloc (.cells #[.int .i64 f1, .int .i64 f2] 29)).cell? ⟨w.heap.size, 1, none⟩ = some (.int .i64 f2) := by simp
  have s0 : ((w.alloc (.cells #[.int .i64 f1, .int .i64 f2] 29)).alloc (.cells #[] 29)).cell? ⟨w.heap.size, 0, none⟩ = some (.int .i64 f1) := (hbE.cell (by simp)).trans k0
  have s1 : ((w.alloc (.cells #[.int .i64 f1, .int .i64 f2] 29)).alloc (.cells #[] 29)).cell? ⟨w.heap.size, 1, none⟩ = some (.int .i64 f2) := (hbE.cell (by simp)).trans k1
  have HB1 := Lib.hid (hbF.trans (hbE.mono (by omega)))
  have HO1 := Lib.hid hown1
  clear hown1 k0 k1 hbF hbE
  go_enter Try.func40, Try.ntmps40
  go_wp2_with (first
    | (at_builtin; refine wpList_append_own_none rfl (.tmp 6) (.tmp 7) 22 rfl (w.heap.size + 1) 29 i0 2 Try.underlying22 hi (.slice (some ⟨w.heap.size + 1, 0, none⟩) 0 0) 0 [] rfl HO1.out rfl ?_)
    | (at_builtin; refine wpList_append_own _ rfl (.tmp 9) (.tmp 13) 22 rfl (w.heap.size + 1) 29 i0 _ 2 16 Try.underlying22 hi hz0 hz1 hz2 rfl (by omega) (.slice (some ⟨w.heap.size + 1, 0, none⟩) 0 0) 0 [] rfl (HO1.out.alloc _) ⟨w.heap.size + 2, 0, none⟩ 3 3 (cs [(f1, f2), (f1, f2), (f1, f2)]) rfl rfl ?_ (cs_one _) (by unfold maxLen; omega) (by omega) (by simp) ?_))
  · have := new_six ((w.alloc (.cells #[.int .i64 f1, .int .i64 f2] 29)).alloc (.cells #[] 29)) f1 f2 29
    rwa [show ((w.alloc (.cells #[.int .i64 f1, .int .i64 f2] 29)).alloc (.cells #[] 29)).heap.size = w.heap.size + 2 from by simp] at this
  intro v w2 hown' hgrow hnil
  have hO2 : Own w2 (w.heap.size + 1) v 3 ([] ++ [(f1, f2), (f1, f2), (f1, f2)]) := ⟨rfl, by simpa [cs] using hown'⟩
  obtain ⟨g2, c2, rfl, hnc2, hc2⟩ := own_some hO2 (fun e => by simp [e] at hnil)
  have hb2 : Below w.heap.size w w2 := (HB1.out.alloc (by simp; omega) _).grown hgrow (by simp; omega) (fun k hk => by simp [Value.ownBlock] at hk; omega)
  have HO2 := Lib.hid (hO2.base_ (show w.heap.size ≤ w.heap.size + 1 by omega))
  clear hown' hgrow hnil hO2
  go_wp2
  go_ret
  exact ⟨g2, c2, rfl, HO2.out, hb2⟩

/-- either form of a list of the call's own -/
theorem spare_any (A : Option Addr) (n c B : Nat) (L : List Sp) (f1 f2 : Int) (w : World) (hO : Own w B (.slice A n c) n L) (hn : n ≤ 100000) :
    Calls Try.prog 40 #[.slice A n c, .agg #[.int .i64 f1, .int .i64 f2]] w (SparePost n L (f1, f2) w) := by
  have hS := hO.spans
  cases A with
  | some ad => exact spare_some ad n c L f1 f2 w hS hn
  | none =>
    rcases hO.2.2 with ⟨e, hn0⟩ | ⟨g, cap, cur, e, _⟩
    · injection e with _ _ ec
      subst hn0
      subst ec
      have hL : L = [] := List.eq_nil_of_length_eq_zero hO.1
      subst hL
      exact spare_none f1 f2 w
    · injection e with e
      cases e

theorem spans_front {w : World} {B n m : Nat} {A : Option Addr} {L M : List Sp} (h : Spans w B A m (L ++ M)) (hl : L.length = n) : Spans w B A n L := by
  refine ⟨hl, fun j u hu => h.2 j u ?_⟩
  rw [cs_append, List.getElem?_append_left (List.getElem?_eq_some_iff.1 hu).1]
  exact hu

theorem kept_any (g n c2 : Nat) (A2 : Option Addr) (L : List Sp) (f1 f2 : Int) (w : World) (hn : n ≤ 100000)
    (hS : Spans w w.heap.size (some ⟨g, 0, none⟩) (n + 3) (L ++ [(f1, f2), (f1, f2), (f1, f2)])) (hS2 : Spans w w.heap.size A2 n L) :
    Calls Try.prog 41 #[.slice (some ⟨g, 0, none⟩) n (n + 3), .slice A2 n c2, .agg #[.int .i64 f1, .int .i64 f2]] w fun e w' => e = .returned (.bool true) ∧ Below w.heap.size w w' := by
  have hbF : Below w.heap.size w (w.alloc (.cells #[.int .i64 f1, .int .i64 f2] 29)) := (Below.refl _ _).alloc (Nat.le_refl _) _
  have k0 : (w.alloc (.cells #[.int .i64 f1, .int .i64 f2] 29)).cell? ⟨w.heap.size, 0, none⟩ = some (.int .i64 f1) := by simp
  have k1 : (w.alloc (.cells #[.int .i64 f1, .int .i64 f2] 29)).cell? ⟨w.heap.size, 1, none⟩ = some (.int .i64 f2) := by simp
  have hSF := (hS.below hbF).more hbF.size
  have hSF2 := (hS2.below hbF).more hbF.size
  have hz : w.heap.size + 1 ≤ (w.alloc (.cells #[.int .i64 f1, .int .i64 f2] 29)).heap.size := by simp
  clear hS hS2
  go_enter Try.func41, Try.ntmps41
  go_wp2_with fail
  refine (Uni.same_yes (some ⟨g, 0, none⟩) n (n + 3) L A2 n c2 L _ rfl (spans_front hSF hSF2.1) (by omega) hSF2 (by omega)).mono ?_
  rintro e w1 ⟨rfl, hb⟩
  have s0 : w1.cell? ⟨w.heap.size, 0, none⟩ = some (.int .i64 f1) := (hb.cell (by simp)).trans k0
  have s1 : w1.cell? ⟨w.heap.size, 1, none⟩ = some (.int .i64 f2) := (hb.cell (by simp)).trans k1
  have hS3 := hSF.below hb
  have hl := hSF2.1
  have cell : ∀ k, k < 3 → w1.cell? ⟨g, (n + k) * 2, none⟩ = some (.int .i64 f1) ∧ w1.cell? ⟨g, (n + k) * 2 + 1, none⟩ = some (.int .i64 f2) := fun k hk => by
    obtain ⟨ad, p, e, _, hp, h0, h1⟩ := hS3.at_ (k := n + k) (by omega)
    injection e with e
    subst e
    have ep : p = (f1, f2) := by
      rw [List.getElem?_append_right (by omega), hl, show n + k - n = k from by omega] at hp
      match k, hk, hp with
      | 0, _, hp => simp at hp; exact hp.symm
      | 1, _, hp => simp at hp; exact hp.symm
      | 2, _, hp => simp at hp; exact hp.symm
    subst ep
    refine ⟨?_, ?_⟩
    · simpa [Addr.add_lit] using h0
    · simpa [Addr.add_lit] using h1
  obtain ⟨a0, a1⟩ := cell 0 (by omega)
  obtain ⟨b0, b1⟩ := cell 1 (by omega)
  obtain ⟨d0, d1⟩ := cell 2 (by omega)
  simp only [Nat.add_zero] at a0 a1
  have hbw := hbF.trans (hb.mono hbF.size)
  clear cell hS3 hSF hSF2 hb k0 k1 hbF
  have hl' := Lib.hid hl
  clear hl
  have i0 : (0 : Int) ≤ (n : Int) := by omega
  have i1 : (n : Int) < (n : Int) + 3 := by omega
  have i2 : (0 : Int) ≤ (n : Int) + 1 := by omega
  have i3 : (n : Int) + 1 < (n : Int) + 3 := by omega
  have i4 : (0 : Int) ≤ (n : Int) + 2 := by omega
  have i5 : (n : Int) + 2 < (n : Int) + 3 := by omega
  have w1' : IntKind.i64.wrap ((n : Int) + 1) = (n : Int) + 1 := IntWalk.i64_in _ (by omega)
  have w2' : IntKind.i64.wrap ((n : Int) + 2) = (n : Int) + 2 := IntWalk.i64_in _ (by omega)
  have t1' : ((n : Int) + 1).toNat = n + 1 := by omega
  have t2' : ((n : Int) + 2).toNat = n + 2 := by omega
  go_wp2
  go_quiet (fail)
  clear w1' w2' t1' t2'
  go_wp2
  go_ret
  exact ⟨rfl, below_draws hbw _⟩

end Go.Proofs.Ytapflikdoiedeaa.Spare
