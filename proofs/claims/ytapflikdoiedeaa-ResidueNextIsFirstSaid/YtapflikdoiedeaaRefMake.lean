/-
  Contract of the document's own function that makes a set of consecutive residues.
-/
import Derived.Test.YtapflikdoiedeaaRefOps
import Derived.Test.YtapflikdoiedeaaTurns
namespace Go.Proofs.Ytapflikdoiedeaa.RefMake
open Go.ChangeShapes Go.WideShapes Go.ChangeAt Go.RowKit Plain Mem Nums Valid Errs Marks Gather RefOps
set_option linter.unusedVariables false

theorem er_none (t : Int) : er t [[], []] = if vp t then 0 else 4 := by simp [er, vf]

theorem makeref_no (t s n : Int) (w : World) (ht0 : -9223372036854775808 ≤ t) (ht : t ≤ 9223372036854775807) (h : vp t = false) :
    Calls Try.prog 26 #[.int .i64 t, .int .i64 s, .int .i64 n] w (ErrRes w.heap.size 4 w) := by
  have H := bad_any t none 0 0 [] none 0 0 [] w ht0 ht (Spans.nil _ _ _) (by omega) (Spans.nil _ _ _) (by omega)
  rw [er_none, h] at H
  have HB := Lib.hid H
  clear H h
  go_enter Try.func26, Try.ntmps26
  go_wp2_with fail
  refine HB.out.mono ?_
  rintro e w' ⟨rfl, hb⟩
  go_wp2_with fail
  go_ret2
  exact ⟨rfl, hb⟩

theorem makeref_yes (t : Nat) (s n : Int) (w : World) (ht0 : 1 ≤ t) (ht : t ≤ 7200) (hs0 : -9223372036854775808 ≤ s) (hs1 : s ≤ 9223372036854775807) (hn0 : -9223372036854775808 ≤ n) (hn1 : n ≤ 9223372036854775807) :
    Calls Try.prog 26 #[.int .i64 (t : Int), .int .i64 s, .int .i64 n] w (SetRes w.heap.size t (arc t s n) w) := by
  have H := bad_any t none 0 0 [] none 0 0 [] w (by omega) (by omega) (Spans.nil _ _ _) (by omega) (Spans.nil _ _ _) (by omega)
  rw [er_none, (vp_iff t).2 ⟨by omega, by omega⟩] at H
  have HB := Lib.hid H
  have hmk := run_make_row' (P := Try.prog) 62 4 (.bool false) 1 Try.underlying62 info4 rfl .i64 .i64 t (by omega) (by omega)
  have m0 : 0 ≤ s % (t : Int) := Int.emod_nonneg _ (by omega)
  have m1 : s % (t : Int) < t := Int.emod_lt_of_pos _ (by omega)
  clear H
  go_enter Try.func26, Try.ntmps26
  go_wp2_with fail
  refine HB.out.mono ?_
  rintro e w1 ⟨rfl, hb⟩
  clear HB
  have hz1 := hb.size
  go_wp2_with fail
  refine (mod_ref s t _ hs0 hs1 (by omega) (by omega)).mono ?_
  rintro e w2 ⟨rfl, rfl⟩
  have hR := Row.made w1 t
  have hg1 : w.heap.size ≤ w1.heap.size := hz1
  have hbw : Below w.heap.size w (w1.alloc (.cells (madeCells #[.bool false] t) 4)) := hb.alloc hz1 _
  generalize w1.heap.size = g1 at *
  generalize w1.alloc (.cells (madeCells #[.bool false] t) 4) = w3 at *
  obtain ⟨x0, hx0⟩ : ∃ x0 : Nat, s % (t : Int) = (x0 : Int) := ⟨(s % (t : Int)).toNat, by omega⟩
  rw [hx0] at m0 m1 ⊢
  have X0 := Lib.hid hx0
  clear hx0
  go_wp2_with fail
  go_loopw [10, 11] (fun x k wr => ∃ i y : Nat, i ≤ t ∧ Hid (i = 0 ∨ (i : Int) ≤ n) ∧ y < t ∧ k = .int .i64 i ∧ x = .int .i64 y ∧ Hid ((y : Int) = (s + i) % t) ∧ Row wr g1 t (arc t s i) ∧ Below w.heap.size w wr) (fun _ k _ => t - (intOf k).toNat)
  case atStart => exact ⟨0, x0, Nat.zero_le _, .inl rfl, by omega, rfl, rfl, by rw [Hid, ← X0.out]; simp, hR.congr fun i hi => by rw [arc_none _ _ _ _ (by omega) (by omega)], hbw⟩
  case round =>
    obtain ⟨i, y, hi, hin, hy, rfl, rfl, hY, hA, hbr⟩ := hrel
    have hz := hbr.size
    by_cases h1 : (i : Int) < n
    · by_cases h2 : i < t
      · have c1 := hA.cell hy
        have c1f := hA.frozen y
        have HN : Hid (Row (wr.setCell ⟨g1, y, none⟩ (.bool true)) g1 t (arc t s ((i + 1 : Nat) : Int))) := (hA.set_ y true).congr fun j hj => by
          rw [hY.out, arc_step t s i j (by omega) (by omega) (by omega) (by omega)]; rfl
        have HY : Hid (((y : Int) + 1) % t = (s + ((i + 1 : Nat) : Int)) % t) := by
          rw [Hid, hY.out, Int.emod_add_emod]; congr 1; omega
        have b0 : 0 ≤ ((y : Int) + 1) % t := Int.emod_nonneg _ (by omega)
        have b1 : ((y : Int) + 1) % t < t := Int.emod_lt_of_pos _ (by omega)
        clear hA hY
        go_wp2
        go_roundw
        case rel => exact ⟨i + 1, (((y : Int) + 1) % t).toNat, by omega, .inr (by omega), by omega, by go_num, by go_num, by rw [Hid, Int.toNat_of_nonneg b0]; exact HY.out, HN.out, hbr.setCell (by simp only; omega) _⟩
        case measure => simp [intOf]; omega
      · have R : Hid (Row wr g1 t (arc t s n)) := hA.congr fun j hj => by rw [arc_all _ _ _ _ (by omega) (by omega), arc_all _ _ _ _ (by omega) (by omega)]
        clear hA hY
        go_wp2_with fail
        refine (spans_any g1 t t _ wr ht R.out).mono ?_
        rintro e w5 ⟨A5, n5, c5, rfl, h5⟩
        go_wp2_with fail
        go_ret2
        exact ⟨A5, n5, c5, rfl, isSet_after hbr hz h5⟩
    · have R : Hid (Row wr g1 t (arc t s n)) := hA.congr fun j hj => by
        rcases hin.out with e | e
        · rw [arc_none _ _ n _ (by omega) (by omega), arc_none _ _ _ _ (by omega) (by omega)]
        · rw [show (i : Int) = n from by omega]
      clear hA hY
      go_wp2_with fail
      refine (spans_any g1 t t _ wr ht R.out).mono ?_
      rintro e w5 ⟨A5, n5, c5, rfl, h5⟩
      go_wp2_with fail
      go_ret2
      exact ⟨A5, n5, c5, rfl, isSet_after hbr hz h5⟩

end Go.Proofs.Ytapflikdoiedeaa.RefMake
