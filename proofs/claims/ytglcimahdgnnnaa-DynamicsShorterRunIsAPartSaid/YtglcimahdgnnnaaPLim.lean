/-
  Contracts of the program: the limit of a cell.
-/
import Derived.Test.YtglcimahdgnnnaaPChk
namespace Go.Proofs.Ytglcimahdgnnnaa.PLim
open Go.ChangeShapes Go.WideShapes Go.ChangeAt Go.RowKit Dyn Mem Src PSm PChk
set_option linter.unusedVariables false

theorem upto_succ (cs : List Cel) (v : Int) (a n : Nat) (c : Cel) (h : cs[a + n]? = some c) : upto cs v a (n + 1) = min (upto cs v a n) c.lim := by
  simp only [upto, cel_eq h]

/-- the k-th limit, as a call answers it -/
structure LimArgs (w : World) (A : Option Addr) (n c k : Nat) (L : List Cel) (s : Stk) : Prop where
  rd : Rd celR w w.heap.size A n L
  nc : n ≤ c
  cb : c ≤ 9223372036854775807
  kn : k < n
  n4 : n ≤ 4000
  hs : okStk s = true
  hc : L.all okCel = true

theorem upto_bounds {L : List Cel} {v : Int} {a : Nat} (hv : 1000 ≤ v ∧ v ≤ 100000) (hc : L.all okCel = true) : ∀ m : Nat, a + m ≤ L.length → 1000 ≤ upto L v a m ∧ upto L v a m ≤ 100000
  | 0, _ => hv
  | m + 1, h => by
    have ih := upto_bounds hv hc m (show a + m ≤ L.length by omega)
    have := okCel_iff.1 (cel_ok hc (show a + m < L.length by omega))
    simp only [upto]
    omega

set_option maxRecDepth 100000 in
set_option maxHeartbeats 4000000 in
theorem p_limit (A : Option Addr) (n c k : Nat) (L : List Cel) (x : ByteArray) (s : Stk) (w : World) (h : LimArgs w A n c k L s) :
    Calls Try.prog 49 #[.slice A n c, .int .i64 k, stk x s] w (IntPost (lim L s k) w) := by
  obtain ⟨hL, hnc, hcb, hk, h4, hs, hc⟩ := h
  have hS := okStk_iff.1 hs
  have hlen := hL.1
  obtain ⟨len, spd, ac, bk⟩ := s
  simp only [stk] at *
  obtain ⟨a, ha⟩ : ∃ a : Nat, a = k - len.toNat := ⟨_, rfl⟩
  obtain ⟨m, hm⟩ : ∃ m : Nat, m = k + 1 - a := ⟨_, rfl⟩
  obtain ⟨ad, y, rfl, hab, hy, _, _⟩ := loadCel hL hk
  have E : Hid (lim L ⟨len, spd, ac, bk⟩ k = upto L spd a m) := by rw [Hid, lim, hm, ha]
  have HB : Hid (∀ j, j ≤ m → 1000 ≤ upto L spd a j ∧ upto L spd a j ≤ 100000) := fun j hj => upto_bounds (by omega) hc j (by omega)
  obtain ⟨q, hq⟩ : ∃ q, ad.add (a * 2) = q := ⟨_, rfl⟩
  have hqb : q.block < w.heap.size := by rw [← hq, Mem.block_add]; exact hab
  have HQ : Hid (∀ j, j < m → ∃ z, L[a + j]? = some z ∧ w.cell? (q.add (j * 2)) = some (.int .i64 z.lim) ∧ w.cell? ⟨(q.add (j * 2)).block, (q.add (j * 2)).off + 1, none⟩ = some (.int .i64 z.gr)) := by
    intro j hj
    obtain ⟨ad', z, e, _, hz, c0, c1⟩ := loadCel hL (show a + j < n by omega)
    cases e
    have e2 : ad.add ((a + j) * 2) = q.add (j * 2) := by rw [← hq, add_add', Nat.add_mul]
    rw [e2] at c0 c1
    exact ⟨z, hz, c0, c1⟩
  have HE := Lib.hid (fun n c h => upto_succ L spd a n c h)
  clear hL hc hs hy
  by_cases hle : (k : Int) ≤ len
  · obtain rfl : a = 0 := by omega
    obtain rfl : m = k + 1 := by omega
    obtain rfl : q = ad := by rw [← hq]; simp [Addr.add]
    clear hq hm ha
    go_enter Try.func49, Try.ntmps49
    go_wp2
    all_goals
      go_loopw [7, 22] (fun v i wr => ∃ j : Nat, j ≤ k + 1 ∧ v = .int .i64 (upto L spd 0 j) ∧ i = .int .i64 j ∧ Below w.heap.size w wr) (fun _ i _ => k + 1 - (intOf i).toNat)
      case atStart => exact ⟨0, Nat.zero_le _, rfl, rfl, (Below.refl _ _).alloc (Nat.le_refl _) _⟩
      case round =>
        obtain ⟨j, hj, rfl, rfl, hbw⟩ := hrel
        have hz := hbw.size
        by_cases hlt : j < k + 1
        · obtain ⟨z, hz0, c0, c1⟩ := HQ.out j hlt
          have HZ : Hid (upto L spd 0 (j + 1) = min (upto L spd 0 j) z.lim) := HE.out j z hz0
          have c0' := (hbw.cell (by rw [Mem.block_add]; exact hqb)).trans c0
          have c1' := (hbw.cell (p := ⟨(q.add (j * 2)).block, (q.add (j * 2)).off + 1, none⟩) (by rw [Mem.block_add]; exact hqb)).trans c1
          have hbd := HB.out j hj
          clear hz0 c0 c1
          generalize upto L spd 0 j = u at *
          go_wp2
          all_goals go_roundw
          case rel => exact ⟨j + 1, by omega, by rw [HZ.out]; congr 1; omega, by go_num, by repeat (first | exact hbw | refine Below.alloc ?_ (by first | omega | (simp; omega)) _ | refine Below.setCell ?_ (by first | omega | (simp; omega)) _)⟩
          all_goals (first | (case measure => simp [intOf]; omega) | skip)
        · obtain rfl : j = k + 1 := by omega
          go_wp2
          all_goals go_ret
          all_goals exact ⟨ret1 E.out.symm, hbw⟩
  · have e : ((k : Int) - len).toNat = a := by omega
    have e2 : k + 1 - a = m := by omega
    clear ha hm
    go_enter Try.func49, Try.ntmps49
    go_wp2
    all_goals
      go_loopw [7, 22] (fun v i wr => ∃ j : Nat, j ≤ m ∧ v = .int .i64 (upto L spd a j) ∧ i = .int .i64 j ∧ Below w.heap.size w wr) (fun _ i _ => m - (intOf i).toNat)
      case atStart => exact ⟨0, Nat.zero_le _, rfl, rfl, (Below.refl _ _).alloc (Nat.le_refl _) _⟩
      case round =>
        obtain ⟨j, hj, rfl, rfl, hbw⟩ := hrel
        have hz := hbw.size
        by_cases hlt : j < m
        · obtain ⟨z, hz0, c0, c1⟩ := HQ.out j hlt
          have HZ : Hid (upto L spd a (j + 1) = min (upto L spd a j) z.lim) := HE.out j z hz0
          have c0' := (hbw.cell (by rw [Mem.block_add]; exact hqb)).trans c0
          have c1' := (hbw.cell (p := ⟨(q.add (j * 2)).block, (q.add (j * 2)).off + 1, none⟩) (by rw [Mem.block_add]; exact hqb)).trans c1
          have hbd := HB.out j hj
          clear hz0 c0 c1
          generalize upto L spd a j = u at *
          go_wp2
          all_goals go_roundw
          case rel => exact ⟨j + 1, by omega, by rw [HZ.out]; congr 1; omega, by go_num, by repeat (first | exact hbw | refine Below.alloc ?_ (by first | omega | (simp; omega)) _ | refine Below.setCell ?_ (by first | omega | (simp; omega)) _)⟩
          all_goals (first | (case measure => simp [intOf]; omega) | skip)
        · obtain rfl : j = m := by omega
          go_wp2
          all_goals go_ret
          all_goals exact ⟨ret1 E.out.symm, hbw⟩

end Go.Proofs.Ytglcimahdgnnnaa.PLim
