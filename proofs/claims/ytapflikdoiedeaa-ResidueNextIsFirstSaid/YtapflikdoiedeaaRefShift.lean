/-
  Contract of the document's own shift of a set.
-/
import Derived.Test.YtapflikdoiedeaaRefMake
import Derived.Deep.RegionWith
import Derived.Deep.DeepCutAuto
namespace Go.Proofs.Ytapflikdoiedeaa.RefShift
open Go.ChangeShapes Go.WideShapes Go.ChangeAt Go.RowKit Plain Mem Nums Valid Errs Marks Gather RefOps RefMake
set_option linter.unusedVariables false

theorem shiftref_no (t : Int) (A : Option Addr) (n c : Nat) (L : List Sp) (d : Int) (w : World) (ht0 : -9223372036854775808 ≤ t) (ht : t ≤ 9223372036854775807)
    (hS : Spans w w.heap.size A n L) (hn : n ≤ 9223372036854775807) (h : er t [L, []] ≠ 0) :
    Calls Try.prog 33 #[.int .i64 t, .slice A n c, .int .i64 d] w (ErrRes w.heap.size (er t [L, []]) w) := by
  have hne : (er t [L, []] != 0) = true := by rw [bne_iff_ne]; exact h
  have hr := er_range t [L, []]
  have H := Lib.hid (bad_any t A n c L none 0 0 [] w ht0 ht hS hn (Spans.nil _ _ _) (by omega))
  clear h hS
  generalize er t [L, []] = x at *
  go_enter Try.func33, Try.ntmps33
  go_wp2_with fail
  refine H.out.mono ?_
  rintro e w' ⟨rfl, hb⟩
  go_wp2_with fail
  go_ret2
  exact ⟨rfl, hb⟩

def TwoRows (t B : Nat) (w : World) (L : List Sp) (m l : Value) (wx : World) : Prop :=
  ∃ g1 g2 : Nat, m = .slice (some ⟨g1, 0, none⟩) t t ∧ l = .slice (some ⟨g2, 0, none⟩) t t ∧ g1 ≠ g2 ∧ B ≤ g1 ∧ Row wx g1 t (fun _ => false) ∧ Row wx g2 t (mem L) ∧ Below B w wx

theorem shiftref_yes (t : Nat) (A : Option Addr) (n c : Nat) (L : List Sp) (d : Int) (w : World) (ht0 : 1 ≤ t) (ht : t ≤ 7200) (hd0 : -9223372036854775808 ≤ d) (hd1 : d ≤ 9223372036854775807)
    (hS : Spans w w.heap.size A n L) (hn : n ≤ 9223372036854775807) (h1 : vl t L = true) :
    Calls Try.prog 33 #[.int .i64 (t : Int), .slice A n c, .int .i64 d] w (SetRes w.heap.size t (turned t d (mem L)) w) := by
  have v1 : vf 0 t L = true := by simp only [vl, Bool.and_eq_true] at h1; exact h1.2
  have he : er t [L, []] = 0 := by rw [er_more]; exact (er_one t L).2 h1
  have H := bad_any t A n c L none 0 0 [] w (by omega) (by omega) hS hn (Spans.nil _ _ _) (by omega)
  rw [he] at H
  have HB := Lib.hid H
  have HM : Hid (∀ wx : World, Below w.heap.size w wx → Calls Try.prog 54 #[.int .i64 (t : Int), .slice A n c] wx fun e w' => e = .returned (.slice (some ⟨wx.heap.size, 0, none⟩) t t) ∧ Row w' wx.heap.size t (mem L) ∧ Below wx.heap.size wx w') :=
    fun wx hb => marks_any t A n c L wx ht ((hS.below hb).more hb.size) hn v1
  have hmk := run_make_row' (P := Try.prog) 62 4 (.bool false) 1 Try.underlying62 info4 rfl .i64 .i64 t (by omega) (by omega)
  clear h1 H hS he
  go_enter Try.func33, Try.ntmps33
  go_wp2_with fail
  refine HB.out.mono ?_
  rintro e w1 ⟨rfl, hb⟩
  clear HB
  have hz1 := hb.size
  go_upto_region 4 with fail
  go_cut [9, 10] (fun m l wx => TwoRows t w.heap.size w L m l wx)
  case first =>
    go_region_with (go_at_call 54; refine (HM.out _ ?_).mono ?_; (first | exact hb | exact hb.drew | exact (hb.drew).alloc (by simp; omega) _ | exact below_draws hb _ | exact (below_draws hb _).alloc (by simp; omega) _); rintro e w2 ⟨rfl, hR2, hb2⟩)
    all_goals (go_wp2_with fail; go_meet)
    · have e : (w1.alloc (.cells (madeCells #[.bool false] t) 4)).drew.heap.size = w1.heap.size + 1 := by simp
      rw [e] at hR2 hb2
      have hm : Row (w1.alloc (.cells (madeCells #[.bool false] t) 4)).drew w1.heap.size t (fun _ => false) := Row.made w1 t
      exact ⟨w1.heap.size, w1.heap.size + 1, rfl, rfl, by omega, hz1, hm.below hb2 (by omega), hR2, (hb.alloc hz1 _).drew.trans (hb2.mono (by omega))⟩
    · have hR2' : Row w2 w1.heap.size t (mem L) := hR2
      have hl := hR2'.lt
      exact ⟨w2.heap.size, w1.heap.size, rfl, rfl, by omega, by omega, Row.made w2 t, hR2'.alloc _, (hb.drew.trans (hb2.mono hz1)).alloc (by omega) _⟩
  case rest =>
    obtain ⟨g1, g2, rfl, rfl, hg, hgB, hR1, hR2, hbw⟩ := hcut
    have m0 : 0 ≤ d % (t : Int) := Int.emod_nonneg _ (by omega)
    have m1 : d % (t : Int) < t := Int.emod_lt_of_pos _ (by omega)
    go_wp2_with fail
    refine (mod_ref d t _ hd0 hd1 (by omega) (by omega)).mono ?_
    rintro e w2 ⟨rfl, rfl⟩
    obtain ⟨D, hD⟩ : ∃ D : Nat, d % (t : Int) = (D : Int) := ⟨(d % (t : Int)).toNat, by omega⟩
    rw [hD] at m0 m1 ⊢
    have HD := Lib.hid hD
    clear hD
    go_wp2_with fail
    go_loopw [12] (fun x wr => ∃ k : Nat, k ≤ t ∧ x = .int .i64 k ∧ Row wr g1 t (fun i => turned t D (mem L) i && decide ((i - D) % t < k)) ∧ Row wr g2 t (mem L) ∧ Below w.heap.size w wr) (fun x _ => t - (intOf x).toNat)
    case atStart => exact ⟨0, Nat.zero_le _, rfl, hR1.congr fun i hi => by
      have := Int.emod_nonneg ((i : Int) - D) (show (t : Int) ≠ 0 by omega)
      have : decide (((i : Int) - D) % t < ((0 : Nat) : Int)) = false := by simp; omega
      rw [this]; simp, hR2, hbw⟩
    case round =>
      obtain ⟨k, hk, rfl, hA, hB, hbr⟩ := hrel
      have hz := hbr.size
      by_cases hlt : k < t
      · have c2 := hB.cell hlt
        cases hm : mem L k with
        | false =>
          have HN : Hid (Row wr g1 t (fun i => turned t D (mem L) i && decide ((i - D) % t < ((k + 1 : Nat) : Int)))) := hA.congr fun i hi => turned_skip t D k i (mem L) hm
          have HB := Lib.hid hB
          rw [hm] at c2
          clear hA hB hm
          go_wp2
          go_roundw
          case rel => exact ⟨k + 1, by omega, by go_num, HN.out, HB.out, hbr⟩
          case measure => simp [intOf]; omega
        | true =>
          have b0 : 0 ≤ ((k : Int) + D) % t := Int.emod_nonneg _ (by omega)
          have b1 : ((k : Int) + D) % t < t := Int.emod_lt_of_pos _ (by omega)
          have y1 : (k + D) % t < t := Nat.mod_lt _ (by omega)
          have c1 := hA.cell y1
          have c1f := hA.frozen ((k + D) % t)
          have HN : Hid (Row (wr.setCell ⟨g1, (k + D) % t, none⟩ (.bool true)) g1 t (fun i => turned t D (mem L) i && decide ((i - D) % t < ((k + 1 : Nat) : Int)))) := (hA.set_ ((k + D) % t) true).congr fun j hj => by
            have := turned_step t D k j (mem L) (by omega) (by omega) (by omega) (by omega) hm
            rw [show ((k + 1 : Nat) : Int) = (k : Int) + 1 from by omega, ← this]
            norm_cast
          have HB := Lib.hid hB
          rw [hm] at c2
          clear hA hB hm
          go_wp2
          go_roundw
          case rel => exact ⟨k + 1, by omega, by go_num, HN.out, HB.out.other hg.symm _, hbr.setCell (by simp only; omega) _⟩
          case measure => simp [intOf]; omega
      · have R : Hid (Row wr g1 t (turned t d (mem L))) := hA.congr fun i hi => by
          have := Int.emod_lt_of_pos ((i : Int) - D) (show (0 : Int) < t by omega)
          have e : decide (((i : Int) - D) % t < (k : Int)) = true := by simp; omega
          simp only [e, Bool.and_true]
          rw [← HD.out, turned_mod]
        clear hA hB
        go_wp2_with fail
        refine (spans_any g1 t t _ wr ht R.out).mono ?_
        rintro e w5 ⟨A5, n5, c5, rfl, h5⟩
        go_wp2_with fail
        go_ret2
        exact ⟨A5, n5, c5, rfl, isSet_after hbr hz h5⟩

end Go.Proofs.Ytapflikdoiedeaa.RefShift
