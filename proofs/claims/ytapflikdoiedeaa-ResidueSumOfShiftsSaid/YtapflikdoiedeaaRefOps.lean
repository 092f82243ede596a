/-
  Contracts of the document's own union, intersection and complement.
-/
import Derived.Test.YtapflikdoiedeaaGather
namespace Go.Proofs.Ytapflikdoiedeaa.RefOps
open Go.ChangeShapes Go.WideShapes Go.ChangeAt Go.RowKit Plain Mem Nums Valid Errs Marks Gather
set_option linter.unusedVariables false

/-- what a call leaves that returns a set and no error -/
def SetRes (B : Nat) (t : Int) (f : Int → Bool) (w : World) (e : Ending) (w' : World) : Prop := ∃ A n c, e = .returned (.tuple #[.slice A n c, .int .i64 0]) ∧ IsSet B t f w A n c w'
/-- what a call leaves that returns an error -/
def ErrRes (B : Nat) (x : Int) (w : World) (e : Ending) (w' : World) : Prop := e = .returned (.tuple #[.slice none 0 0, .int .i64 x]) ∧ Below B w w'

theorem ret2 {A : Option Addr} {n c : Nat} {a b : Int} (h : a = b) : Ending.returned (.tuple #[.slice A n c, .int .i64 a]) = Ending.returned (.tuple #[.slice A n c, .int .i64 b]) := by rw [h]

theorem isSet_congr {B : Nat} {t : Int} {f f' : Int → Bool} {w w' : World} {A : Option Addr} {n c : Nat} (h : IsSet B t f w A n c w') (e : ∀ x, 0 ≤ x → x < t → f x = f' x) : IsSet B t f' w A n c w' := by
  obtain ⟨L, h1, h2, h3, h4⟩ := h
  exact ⟨L, h1, h2, fun x a b => (h3 x a b).trans (e x a b), h4⟩
theorem isSet_after {B : Nat} {t : Int} {f : Int → Bool} {w w1 w' : World} {A : Option Addr} {n c : Nat} (hb : Below B w w1) (hB : B ≤ w1.heap.size) (h : IsSet w1.heap.size t f w1 A n c w') : IsSet B t f w A n c w' := by
  obtain ⟨L, h1, h2, h3, h4⟩ := h
  exact ⟨L, h1.base_ hB, h2, h3, hb.trans (h4.mono hB)⟩

theorem unionref_no (t : Int) (A : Option Addr) (n c : Nat) (L : List Sp) (A2 : Option Addr) (n2 c2 : Nat) (M : List Sp) (w : World) (ht0 : -9223372036854775808 ≤ t) (ht : t ≤ 9223372036854775807)
    (hS : Spans w w.heap.size A n L) (hn : n ≤ 9223372036854775807) (hS2 : Spans w w.heap.size A2 n2 M) (hn2 : n2 ≤ 9223372036854775807) (h : er t [L, M] ≠ 0) :
    Calls Try.prog 29 #[.int .i64 t, .slice A n c, .slice A2 n2 c2] w (ErrRes w.heap.size (er t [L, M]) w) := by
  have hne : (er t [L, M] != 0) = true := by rw [bne_iff_ne]; exact h
  have hr := er_range t [L, M]
  have H := Lib.hid (bad_any t A n c L A2 n2 c2 M w ht0 ht hS hn hS2 hn2)
  clear h hS hS2
  generalize er t [L, M] = x at *
  go_enter Try.func29, Try.ntmps29
  go_wp2_with fail
  refine H.out.mono ?_
  rintro e w' ⟨rfl, hb⟩
  go_wp2_with fail
  go_ret2
  exact ⟨rfl, hb⟩

theorem row_or {w : World} {g t x : Nat} {f f1 : Int → Bool} (b : Bool) (h : Row w g t (fun i => if i < (x : Int) then f i else f1 i)) (hb : f x = b) :
    Row (w.setCell ⟨g, x, none⟩ (.bool b)) g t (fun i => if i < ((x + 1 : Nat) : Int) then f i else f1 i) :=
  (h.set_ x b).congr fun i hi => by
    by_cases e : i = x
    · subst e
      have : (i : Int) < ((i + 1 : Nat) : Int) := by omega
      rw [if_pos rfl, if_pos this, hb]
    · have e1 : ¬ (i : Int) = (x : Int) := by omega
      rw [if_neg e1]
      by_cases e2 : (i : Int) < (x : Int)
      · have : (i : Int) < ((x + 1 : Nat) : Int) := by omega
        rw [if_pos e2, if_pos this]
      · have : ¬ (i : Int) < ((x + 1 : Nat) : Int) := by omega
        rw [if_neg e2, if_neg this]

theorem unionref_yes (t : Nat) (A : Option Addr) (n c : Nat) (L : List Sp) (A2 : Option Addr) (n2 c2 : Nat) (M : List Sp) (w : World) (ht0 : 1 ≤ t) (ht : t ≤ 7200)
    (hS : Spans w w.heap.size A n L) (hn : n ≤ 9223372036854775807) (hS2 : Spans w w.heap.size A2 n2 M) (hn2 : n2 ≤ 9223372036854775807) (h1 : vl t L = true) (h2 : vl t M = true) :
    Calls Try.prog 29 #[.int .i64 (t : Int), .slice A n c, .slice A2 n2 c2] w (SetRes w.heap.size t (fun x => mem L x || mem M x) w) := by
  have v1 : vf 0 t L = true := by simp only [vl, Bool.and_eq_true] at h1; exact h1.2
  have v2 : vf 0 t M = true := by simp only [vl, Bool.and_eq_true] at h2; exact h2.2
  have he : er t [L, M] = 0 := (er_two t L M).2 ⟨h1, h2⟩
  have H := bad_any t A n c L A2 n2 c2 M w (by omega) (by omega) hS hn hS2 hn2
  rw [he] at H
  have HB := Lib.hid H
  have HS := Lib.hid hS
  have HS2 := Lib.hid hS2
  have V1 := Lib.hid v1
  have V2 := Lib.hid v2
  clear h1 h2 H hS hS2 he v1 v2
  go_enter Try.func29, Try.ntmps29
  go_wp2_with fail
  refine HB.out.mono ?_
  rintro e w1 ⟨rfl, hb⟩
  clear HB
  have hz1 := hb.size
  go_wp2_with fail
  refine (marks_any t A n c L w1 ht ((HS.out.below hb).more hb.size) hn V1.out).mono ?_
  rintro e w2 ⟨rfl, hR1, hb2⟩
  have hz2 := hb2.size
  have hl1 := hR1.lt
  go_wp2_with fail
  refine (marks_any t A2 n2 c2 M w2 ht ((HS2.out.below (hb.trans (hb2.mono hb.size))).more (Nat.le_trans hb.size hb2.size)) hn2 V2.out).mono ?_
  rintro e w3 ⟨rfl, hR2, hb3⟩
  have hR1' := hR1.below hb3 hl1
  have hz3 := hb3.size
  have hbw : Below w.heap.size w w3 := (hb.trans (hb2.mono hz1)).trans (hb3.mono (by omega))
  clear hR1 hb hb2 hb3
  generalize hg1 : w1.heap.size = g1 at *
  generalize hg2 : w2.heap.size = g2 at *
  have hg : g1 ≠ g2 := by omega
  clear hg1 hg2
  go_wp2_with fail
  go_loopw [11] (fun x wr => ∃ k : Nat, k ≤ t ∧ x = .int .i64 k ∧ Row wr g1 t (fun i => if i < (k : Int) then mem L i || mem M i else mem L i) ∧ Row wr g2 t (mem M) ∧ Below w.heap.size w wr) (fun x _ => t - (intOf x).toNat)
  case atStart => exact ⟨0, Nat.zero_le _, rfl, hR1'.congr fun i hi => by rw [if_neg (by omega)], hR2, hbw⟩
  case round =>
    obtain ⟨k, hk, rfl, hA, hB, hbr⟩ := hrel
    by_cases hlt : k < t
    · have c1 := hA.cell hlt
      have c1f := hA.frozen k
      have c2 := hB.cell hlt
      have e0 : ¬ (k : Int) < (k : Int) := by omega
      simp only [e0, if_false] at c1
      cases hm : mem L k with
      | true =>
        have HN := Lib.hid (row_or true hA (by rw [hm]; rfl))
        have HB := Lib.hid hB
        rw [hm] at c1
        clear hA hB hm e0 c2
        go_wp2
        go_roundw
        case rel => exact ⟨k + 1, by omega, by go_num, HN.out, HB.out.other hg.symm _, hbr.setCell (by simp only; omega) _⟩
        case measure => simp [intOf]; omega
      | false =>
        have HN := Lib.hid (row_or (mem M k) hA (by rw [hm]; rfl))
        have HB := Lib.hid hB
        rw [hm] at c1
        clear hA hB hm e0
        generalize mem M k = b at *
        go_wp2
        go_roundw
        case rel => exact ⟨k + 1, by omega, by go_num, HN.out, HB.out.other hg.symm _, hbr.setCell (by simp only; omega) _⟩
        case measure => simp [intOf]; omega
    · have R : Hid (Row wr g1 t (fun i => mem L i || mem M i)) := hA.congr fun i hi => by rw [if_pos (by omega)]
      have hz := hbr.size
      clear hA hB
      go_wp2_with fail
      refine (spans_any g1 t t _ wr ht R.out).mono ?_
      rintro e w5 ⟨A5, n5, c5, rfl, h5⟩
      go_wp2_with fail
      go_ret2
      exact ⟨A5, n5, c5, rfl, isSet_after hbr hz h5⟩

theorem interref_no (t : Int) (A : Option Addr) (n c : Nat) (L : List Sp) (A2 : Option Addr) (n2 c2 : Nat) (M : List Sp) (w : World) (ht0 : -9223372036854775808 ≤ t) (ht : t ≤ 9223372036854775807)
    (hS : Spans w w.heap.size A n L) (hn : n ≤ 9223372036854775807) (hS2 : Spans w w.heap.size A2 n2 M) (hn2 : n2 ≤ 9223372036854775807) (h : er t [L, M] ≠ 0) :
    Calls Try.prog 31 #[.int .i64 t, .slice A n c, .slice A2 n2 c2] w (ErrRes w.heap.size (er t [L, M]) w) := by
  have hne : (er t [L, M] != 0) = true := by rw [bne_iff_ne]; exact h
  have hr := er_range t [L, M]
  have H := Lib.hid (bad_any t A n c L A2 n2 c2 M w ht0 ht hS hn hS2 hn2)
  clear h hS hS2
  generalize er t [L, M] = x at *
  go_enter Try.func31, Try.ntmps31
  go_wp2_with fail
  refine H.out.mono ?_
  rintro e w' ⟨rfl, hb⟩
  go_wp2_with fail
  go_ret2
  exact ⟨rfl, hb⟩

theorem interref_yes (t : Nat) (A : Option Addr) (n c : Nat) (L : List Sp) (A2 : Option Addr) (n2 c2 : Nat) (M : List Sp) (w : World) (ht0 : 1 ≤ t) (ht : t ≤ 7200)
    (hS : Spans w w.heap.size A n L) (hn : n ≤ 9223372036854775807) (hS2 : Spans w w.heap.size A2 n2 M) (hn2 : n2 ≤ 9223372036854775807) (h1 : vl t L = true) (h2 : vl t M = true) :
    Calls Try.prog 31 #[.int .i64 (t : Int), .slice A n c, .slice A2 n2 c2] w (SetRes w.heap.size t (fun x => mem L x && mem M x) w) := by
  have v1 : vf 0 t L = true := by simp only [vl, Bool.and_eq_true] at h1; exact h1.2
  have v2 : vf 0 t M = true := by simp only [vl, Bool.and_eq_true] at h2; exact h2.2
  have he : er t [L, M] = 0 := (er_two t L M).2 ⟨h1, h2⟩
  have H := bad_any t A n c L A2 n2 c2 M w (by omega) (by omega) hS hn hS2 hn2
  rw [he] at H
  have HB := Lib.hid H
  have HS := Lib.hid hS
  have HS2 := Lib.hid hS2
  have V1 := Lib.hid v1
  have V2 := Lib.hid v2
  clear h1 h2 H hS hS2 he v1 v2
  go_enter Try.func31, Try.ntmps31
  go_wp2_with fail
  refine HB.out.mono ?_
  rintro e w1 ⟨rfl, hb⟩
  clear HB
  have hz1 := hb.size
  go_wp2_with fail
  refine (marks_any t A n c L w1 ht ((HS.out.below hb).more hb.size) hn V1.out).mono ?_
  rintro e w2 ⟨rfl, hR1, hb2⟩
  have hz2 := hb2.size
  have hl1 := hR1.lt
  go_wp2_with fail
  refine (marks_any t A2 n2 c2 M w2 ht ((HS2.out.below (hb.trans (hb2.mono hb.size))).more (Nat.le_trans hb.size hb2.size)) hn2 V2.out).mono ?_
  rintro e w3 ⟨rfl, hR2, hb3⟩
  have hR1' := hR1.below hb3 hl1
  have hz3 := hb3.size
  have hbw : Below w.heap.size w w3 := (hb.trans (hb2.mono hz1)).trans (hb3.mono (by omega))
  clear hR1 hb hb2 hb3
  generalize hg1 : w1.heap.size = g1 at *
  generalize hg2 : w2.heap.size = g2 at *
  have hg : g1 ≠ g2 := by omega
  clear hg1 hg2
  go_wp2_with fail
  go_loopw [11] (fun x wr => ∃ k : Nat, k ≤ t ∧ x = .int .i64 k ∧ Row wr g1 t (fun i => if i < (k : Int) then mem L i && mem M i else mem L i) ∧ Row wr g2 t (mem M) ∧ Below w.heap.size w wr) (fun x _ => t - (intOf x).toNat)
  case atStart => exact ⟨0, Nat.zero_le _, rfl, hR1'.congr fun i hi => by rw [if_neg (by omega)], hR2, hbw⟩
  case round =>
    obtain ⟨k, hk, rfl, hA, hB, hbr⟩ := hrel
    by_cases hlt : k < t
    · have c1 := hA.cell hlt
      have c1f := hA.frozen k
      have c2 := hB.cell hlt
      have e0 : ¬ (k : Int) < (k : Int) := by omega
      simp only [e0, if_false] at c1
      cases hm : mem L k with
      | false =>
        have HN := Lib.hid (row_or false hA (by rw [hm]; rfl))
        have HB := Lib.hid hB
        rw [hm] at c1
        clear hA hB hm e0 c2
        go_wp2
        go_roundw
        case rel => exact ⟨k + 1, by omega, by go_num, HN.out, HB.out.other hg.symm _, hbr.setCell (by simp only; omega) _⟩
        case measure => simp [intOf]; omega
      | true =>
        have HN := Lib.hid (row_or (mem M k) hA (by rw [hm]; rfl))
        have HB := Lib.hid hB
        rw [hm] at c1
        clear hA hB hm e0
        generalize mem M k = b at *
        go_wp2
        go_roundw
        case rel => exact ⟨k + 1, by omega, by go_num, HN.out, HB.out.other hg.symm _, hbr.setCell (by simp only; omega) _⟩
        case measure => simp [intOf]; omega
    · have R : Hid (Row wr g1 t (fun i => mem L i && mem M i)) := hA.congr fun i hi => by rw [if_pos (by omega)]
      have hz := hbr.size
      clear hA hB
      go_wp2_with fail
      refine (spans_any g1 t t _ wr ht R.out).mono ?_
      rintro e w5 ⟨A5, n5, c5, rfl, h5⟩
      go_wp2_with fail
      go_ret2
      exact ⟨A5, n5, c5, rfl, isSet_after hbr hz h5⟩

theorem complref_no (t : Int) (A : Option Addr) (n c : Nat) (L : List Sp) (w : World) (ht0 : -9223372036854775808 ≤ t) (ht : t ≤ 9223372036854775807)
    (hS : Spans w w.heap.size A n L) (hn : n ≤ 9223372036854775807) (h : er t [L, []] ≠ 0) :
    Calls Try.prog 32 #[.int .i64 t, .slice A n c] w (ErrRes w.heap.size (er t [L, []]) w) := by
  have hne : (er t [L, []] != 0) = true := by rw [bne_iff_ne]; exact h
  have hr := er_range t [L, []]
  have H := Lib.hid (bad_any t A n c L none 0 0 [] w ht0 ht hS hn (Spans.nil _ _ _) (by omega))
  clear h hS
  generalize er t [L, []] = x at *
  go_enter Try.func32, Try.ntmps32
  go_wp2_with fail
  refine H.out.mono ?_
  rintro e w' ⟨rfl, hb⟩
  go_wp2_with fail
  go_ret2
  exact ⟨rfl, hb⟩

theorem complref_yes (t : Nat) (A : Option Addr) (n c : Nat) (L : List Sp) (w : World) (ht0 : 1 ≤ t) (ht : t ≤ 7200)
    (hS : Spans w w.heap.size A n L) (hn : n ≤ 9223372036854775807) (h1 : vl t L = true) :
    Calls Try.prog 32 #[.int .i64 (t : Int), .slice A n c] w (SetRes w.heap.size t (fun x => !mem L x) w) := by
  have v1 : vf 0 t L = true := by simp only [vl, Bool.and_eq_true] at h1; exact h1.2
  have he : er t [L, []] = 0 := by rw [er_more]; exact (er_one t L).2 h1
  have H := bad_any t A n c L none 0 0 [] w (by omega) (by omega) hS hn (Spans.nil _ _ _) (by omega)
  rw [he] at H
  have HB := Lib.hid H
  have HS := Lib.hid hS
  have V1 := Lib.hid v1
  clear h1 H hS he v1
  go_enter Try.func32, Try.ntmps32
  go_wp2_with fail
  refine HB.out.mono ?_
  rintro e w1 ⟨rfl, hb⟩
  clear HB
  have hz1 := hb.size
  go_wp2_with fail
  refine (marks_any t A n c L w1 ht ((HS.out.below hb).more hb.size) hn V1.out).mono ?_
  rintro e w2 ⟨rfl, hR1, hb2⟩
  have hz2 := hb2.size
  have hbw : Below w.heap.size w w2 := hb.trans (hb2.mono hz1)
  clear hb hb2
  generalize hg1 : w1.heap.size = g1 at *
  have hg : w.heap.size ≤ g1 := by omega
  clear hg1
  go_wp2_with fail
  go_loopw [8] (fun x wr => ∃ k : Nat, k ≤ t ∧ x = .int .i64 k ∧ Row wr g1 t (fun i => if i < (k : Int) then !mem L i else mem L i) ∧ Below w.heap.size w wr) (fun x _ => t - (intOf x).toNat)
  case atStart => exact ⟨0, Nat.zero_le _, rfl, hR1.congr fun i hi => by rw [if_neg (by omega)], hbw⟩
  case round =>
    obtain ⟨k, hk, rfl, hA, hbr⟩ := hrel
    by_cases hlt : k < t
    · have c1 := hA.cell hlt
      have c1f := hA.frozen k
      have e0 : ¬ (k : Int) < (k : Int) := by omega
      simp only [e0, if_false] at c1
      have HN := Lib.hid (row_or (!mem L k) hA rfl)
      clear hA e0
      generalize mem L k = b at *
      go_wp2
      go_roundw
      case rel => exact ⟨k + 1, by omega, by go_num, HN.out, hbr.setCell (by simp only; omega) _⟩
      case measure => simp [intOf]; omega
    · have R : Hid (Row wr g1 t (fun i => !mem L i)) := hA.congr fun i hi => by rw [if_pos (by omega)]
      have hz := hbr.size
      clear hA
      go_wp2_with fail
      refine (spans_any g1 t t _ wr ht R.out).mono ?_
      rintro e w5 ⟨A5, n5, c5, rfl, h5⟩
      go_wp2_with fail
      go_ret2
      exact ⟨A5, n5, c5, rfl, isSet_after hbr hz h5⟩

end Go.Proofs.Ytapflikdoiedeaa.RefOps
