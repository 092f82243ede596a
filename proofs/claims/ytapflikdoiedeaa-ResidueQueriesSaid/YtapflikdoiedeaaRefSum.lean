/-
  Contract of the document's own sum of two sets.
-/
import Derived.Test.YtapflikdoiedeaaRefMake
namespace Go.Proofs.Ytapflikdoiedeaa.RefSum
open Go.ChangeShapes Go.WideShapes Go.ChangeAt Go.RowKit Plain Mem Nums Valid Errs Marks Gather RefOps RefMake
set_option linter.unusedVariables false

theorem sumref_no (t : Int) (A : Option Addr) (n c : Nat) (L : List Sp) (A2 : Option Addr) (n2 c2 : Nat) (M : List Sp) (w : World) (ht0 : -9223372036854775808 ≤ t) (ht : t ≤ 9223372036854775807)
    (hS : Spans w w.heap.size A n L) (hn : n ≤ 9223372036854775807) (hS2 : Spans w w.heap.size A2 n2 M) (hn2 : n2 ≤ 9223372036854775807) (h : er t [L, M] ≠ 0) :
    Calls Try.prog 34 #[.int .i64 t, .slice A n c, .slice A2 n2 c2] w (ErrRes w.heap.size (er t [L, M]) w) := by
  have hne : (er t [L, M] != 0) = true := by rw [bne_iff_ne]; exact h
  have hr := er_range t [L, M]
  have H := Lib.hid (bad_any t A n c L A2 n2 c2 M w ht0 ht hS hn hS2 hn2)
  clear h hS hS2
  generalize er t [L, M] = x at *
  go_enter Try.func34, Try.ntmps34
  go_wp2_with fail
  refine H.out.mono ?_
  rintro e w' ⟨rfl, hb⟩
  go_wp2_with fail
  go_ret2
  exact ⟨rfl, hb⟩

theorem sumref_yes (t : Nat) (A : Option Addr) (n c : Nat) (L : List Sp) (A2 : Option Addr) (n2 c2 : Nat) (M : List Sp) (w : World) (ht0 : 1 ≤ t) (ht : t ≤ 7200)
    (hS : Spans w w.heap.size A n L) (hn : n ≤ 9223372036854775807) (hS2 : Spans w w.heap.size A2 n2 M) (hn2 : n2 ≤ 9223372036854775807) (h1 : vl t L = true) (h2 : vl t M = true) :
    Calls Try.prog 34 #[.int .i64 (t : Int), .slice A n c, .slice A2 n2 c2] w (SetRes w.heap.size t (sumOf t L M) w) := by
  have v1 : vf 0 t L = true := by simp only [vl, Bool.and_eq_true] at h1; exact h1.2
  have v2 : vf 0 t M = true := by simp only [vl, Bool.and_eq_true] at h2; exact h2.2
  have he : er t [L, M] = 0 := (er_two t L M).2 ⟨h1, h2⟩
  have H := bad_any t A n c L A2 n2 c2 M w (by omega) (by omega) hS hn hS2 hn2
  rw [he] at H
  have HB := Lib.hid H
  have HS := Lib.hid hS
  have HS2 := Lib.hid hS2
  have V1 := Lib.hid v1
  have V2 := Lib.hid v2
  have hmk := run_make_row' (P := Try.prog) 62 4 (.bool false) 1 Try.underlying62 info4 rfl .i64 .i64 t (by omega) (by omega)
  clear h1 h2 H hS hS2 he v1 v2
  go_enter Try.func34, Try.ntmps34
  go_wp2_with fail
  refine HB.out.mono ?_
  rintro e w1 ⟨rfl, hb⟩
  clear HB
  have hz1 := hb.size
  go_wp2_with fail
  have hR := Row.made w1 t
  have hbw : Below w.heap.size w (w1.alloc (.cells (madeCells #[.bool false] t) 4)) := hb.alloc hz1 _
  generalize w1.heap.size = g1 at *
  generalize w1.alloc (.cells (madeCells #[.bool false] t) 4) = w3 at *
  clear hb
  go_loopw [10] (fun i wr => ∃ k : Nat, k ≤ n ∧ i = .int .i64 k ∧ Row wr g1 t (sumOf t (L.take k) M) ∧ Below w.heap.size w wr) (fun i _ => n - (intOf i).toNat)
  case atStart => exact ⟨0, Nat.zero_le _, rfl, hR.congr fun i hi => rfl, hbw⟩
  case round =>
    obtain ⟨k, hk, rfl, hA, hbr⟩ := hrel
    obtain ⟨wo, rfl⟩ : ∃ wo : World, wo = wr := ⟨_, rfl⟩
    by_cases hlt : k < n
    · obtain ⟨ad, p, rfl, hab, hp, c0, c1⟩ := HS.out.load hlt
      have hpv := vf_get 0 t L k p V1.out hp
      have HT := Lib.hid (fun x => sumOf_take t L M k p x hp)
      clear hp
      obtain ⟨p1, p2⟩ := p
      simp only at hpv c0 c1 HT
      go_wp2
      go_loopw [11] (fun j wr => ∃ m : Nat, m ≤ n2 ∧ j = .int .i64 m ∧ Row wr g1 t (fun x => sumOf t (L.take k) M x || sumOne t (p1, p2) (M.take m) x) ∧ Below w.heap.size w wr) (fun j _ => n2 - (intOf j).toNat)
      case atStart => exact ⟨0, Nat.zero_le _, rfl, hA.congr fun i hi => by simp [sumOne], hbr⟩
      case round =>
        obtain ⟨m, hm, rfl, hA2, hbr2⟩ := hrel
        obtain ⟨wi, rfl⟩ : ∃ wi : World, wi = wr := ⟨_, rfl⟩
        by_cases hlt2 : m < n2
        · obtain ⟨ad2, q, rfl, hab2, hq, d0, d1⟩ := HS2.out.load hlt2
          have hqv := vf_get 0 t M m q V2.out hq
          have HT2 := Lib.hid (fun x => sumOne_take t (p1, p2) M m q x hq)
          clear hq
          obtain ⟨q1, q2⟩ := q
          simp only at hqv d0 d1 HT2
          have f0 : wi.cell? (ad.add (k * 2)) = some (.int .i64 p1) := (hbr2.cell (by rw [Mem.block_add]; exact hab)).trans c0
          have f1 : wi.cell? ⟨(ad.add (k * 2)).block, (ad.add (k * 2)).off + 1, none⟩ = some (.int .i64 p2) := (hbr2.cell (by simp only; rw [Mem.block_add]; exact hab)).trans c1
          have g0 : wi.cell? (ad2.add (m * 2)) = some (.int .i64 q1) := (hbr2.cell (by rw [Mem.block_add]; exact hab2)).trans d0
          have g1' : wi.cell? ⟨(ad2.add (m * 2)).block, (ad2.add (m * 2)).off + 1, none⟩ = some (.int .i64 q2) := (hbr2.cell (by simp only; rw [Mem.block_add]; exact hab2)).trans d1
          clear c0 c1 d0 d1
          have m0 : 0 ≤ (p1 + q1) % (t : Int) := Int.emod_nonneg _ (by omega)
          have m1 : (p1 + q1) % (t : Int) < t := Int.emod_lt_of_pos _ (by omega)
          have s1 : IntKind.i64.wrap (p2 - p1) = p2 - p1 := IntWalk.i64_in _ (by omega)
          have s2 : IntKind.i64.wrap (p2 - p1 + q2) = p2 - p1 + q2 := IntWalk.i64_in _ (by omega)
          have s3 : IntKind.i64.wrap (p2 - p1 + q2 - q1) = p2 - p1 + q2 - q1 := IntWalk.i64_in _ (by omega)
          have s4 : IntKind.i64.wrap (p2 - p1 + q2 - q1 - 1) = p2 - p1 + q2 - q1 - 1 := IntWalk.i64_in _ (by omega)
          have s5 : IntKind.i64.wrap (p1 + q1) = p1 + q1 := IntWalk.i64_in _ (by omega)
          go_wp2
          go_quiet (fail)
          go_wp2
          go_quiet (fail)
          clear s1 s2 s3 s4 s5
          go_wp2
          have n0 : 1 ≤ p2 - p1 + q2 - q1 - 1 := by omega
          have n1 : p2 - p1 + q2 - q1 - 1 ≤ 20000 := by omega
          generalize p2 - p1 + q2 - q1 - 1 = N at *
          obtain ⟨x0, hx0⟩ : ∃ x0 : Nat, (p1 + q1) % (t : Int) = (x0 : Int) := ⟨((p1 + q1) % (t : Int)).toNat, by omega⟩
          rw [hx0] at m0 m1 ⊢
          have X0 := Lib.hid hx0
          clear hx0
          generalize hs0 : p1 + q1 = s0 at *
          clear hs0
          go_loopw [13, 14] (fun x i wr => ∃ j y : Nat, j ≤ t ∧ (j : Int) ≤ N ∧ y < t ∧ i = .int .i64 j ∧ x = .int .i64 y ∧ Hid ((y : Int) = (s0 + j) % t) ∧ Row wr g1 t (fun x => (sumOf t (L.take k) M x || sumOne t (p1, p2) (M.take m) x) || arc t s0 j x) ∧ Below w.heap.size w wr) (fun _ i _ => t - (intOf i).toNat)
          case atStart => exact ⟨0, x0, Nat.zero_le _, by omega, by omega, rfl, rfl, by rw [Hid, ← X0.out]; simp, Row.congr ((hA2.drewN _).drewN _) (fun i hi => by rw [arc_none _ _ _ _ (by omega) (by omega), Bool.or_false]), below_draws (below_draws hbr2 _) _⟩
          case round =>
            obtain ⟨j, y, hj, hjN, hy, rfl, rfl, hY, hA3, hbr3⟩ := hrel
            have hz3 := hbr3.size
            by_cases e1 : (j : Int) < N
            · by_cases e2 : j < t
              · have c1 := hA3.cell hy
                have c1f := hA3.frozen y
                have HN : Hid (Row (wr.setCell ⟨g1, y, none⟩ (.bool true)) g1 t (fun x => (sumOf t (L.take k) M x || sumOne t (p1, p2) (M.take m) x) || arc t s0 ((j + 1 : Nat) : Int) x)) := (hA3.set_ y true).congr fun i hi => by
                  have h := arc_step t s0 j i (by omega) (by omega) (by omega) (by omega)
                  rw [show ((j + 1 : Nat) : Int) = (j : Int) + 1 from by omega, ← h, hY.out]
                  by_cases e : (i : Int) = (s0 + j) % t
                  · simp [e]
                  · simp [e]
                have HY : Hid (((y : Int) + 1) % t = (s0 + ((j + 1 : Nat) : Int)) % t) := by
                  rw [Hid, hY.out, Int.emod_add_emod]; congr 1; omega
                have b0 : 0 ≤ ((y : Int) + 1) % t := Int.emod_nonneg _ (by omega)
                have b1 : ((y : Int) + 1) % t < t := Int.emod_lt_of_pos _ (by omega)
                clear hA3 hY hA2 hA hR
                go_wp2
                go_roundw
                case rel => exact ⟨j + 1, (((y : Int) + 1) % t).toNat, by omega, by omega, by omega, by go_num, by go_num, by rw [Hid, Int.toNat_of_nonneg b0]; exact HY.out, HN.out, hbr3.setCell (by simp only; omega) _⟩
                case measure => simp [intOf]; omega
              · have R : Hid (Row wr g1 t (fun x => sumOf t (L.take k) M x || sumOne t (p1, p2) (M.take (m + 1)) x)) := hA3.congr fun i hi => by
                  rw [HT2.out, arc_all _ _ (j : Int) _ (by omega) (by omega), arc_all _ _ N _ (by omega) (by omega), Bool.or_assoc]
                clear hA3 hY hA2 hA hR
                go_wp2
                go_roundw
                case rel => exact ⟨m + 1, by omega, by go_num, R.out, hbr3⟩
                case measure => simp [intOf]; omega
            · have R : Hid (Row wr g1 t (fun x => sumOf t (L.take k) M x || sumOne t (p1, p2) (M.take (m + 1)) x)) := hA3.congr fun i hi => by
                rw [HT2.out, show (j : Int) = N from by omega, Bool.or_assoc]
              clear hA3 hY hA2 hA hR
              go_wp2
              go_roundw
              case rel => exact ⟨m + 1, by omega, by go_num, R.out, hbr3⟩
              case measure => simp [intOf]; omega
        · have R : Hid (Row wi g1 t (sumOf t (L.take (k + 1)) M)) := hA2.congr fun i hi => by
            rw [HT.out, List.take_of_length_le (l := M) (i := m) (by have := HS2.out.1; omega)]
          clear hA2 hA hR
          go_wp2
          go_roundw
          case rel => exact ⟨k + 1, by omega, by go_num, R.out, hbr2⟩
          case measure => simp [intOf]; omega
    · have hz := hbr.size
      have R : Hid (Row wo g1 t (sumOf t L M)) := hA.congr fun i hi => by rw [List.take_of_length_le (by have := HS.out.1; omega)]
      clear hA hR
      go_wp2_with fail
      refine (spans_any g1 t t _ wo ht R.out).mono ?_
      rintro e w5 ⟨A5, n5, c5, rfl, h5⟩
      go_wp2_with fail
      go_ret2
      exact ⟨A5, n5, c5, rfl, isSet_after hbr hz h5⟩

end Go.Proofs.Ytapflikdoiedeaa.RefSum
