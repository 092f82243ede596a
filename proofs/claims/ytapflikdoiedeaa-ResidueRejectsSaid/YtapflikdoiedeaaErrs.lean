/-
  Contracts of the two functions that give the error of a period and of sets: the program's own and the document's.
-/
import Derived.Test.YtapflikdoiedeaaValid
namespace Go.Proofs.Ytapflikdoiedeaa.Errs
open Go.ChangeShapes Go.WideShapes Go.ChangeAt Go.RowKit Plain Mem Nums Valid
set_option linter.unusedVariables false

/-- the error of a period and of sets of its residues -/
def er (t : Int) (Ls : List (List Sp)) : Int := if vp t then (if Ls.all (vf 0 t) then 0 else 1) else 4
theorem er_range (t : Int) (Ls : List (List Sp)) : 0 ≤ er t Ls ∧ er t Ls ≤ 4 := by unfold er; split <;> (try split) <;> omega
theorem er_zero (t : Int) (Ls : List (List Sp)) : er t Ls = 0 ↔ vp t = true ∧ Ls.all (vf 0 t) = true := by
  unfold er
  cases vp t <;> cases Ls.all (vf 0 t) <;> simp
theorem er_two (t : Int) (L M : List Sp) : er t [L, M] = 0 ↔ vl t L = true ∧ vl t M = true := by
  rw [er_zero]; simp [vl]; constructor
  · rintro ⟨a, b, c⟩; exact ⟨⟨a, b⟩, a, c⟩
  · rintro ⟨⟨a, b⟩, _, c⟩; exact ⟨a, b, c⟩
theorem er_one (t : Int) (L : List Sp) : er t [L] = 0 ↔ vl t L = true := by
  rw [er_zero]; simp [vl]
theorem er_more (t : Int) (L : List Sp) : er t [L, []] = er t [L] := by simp [er, vf]

theorem valid_yes (t : Int) (A : Option Addr) (n c : Nat) (L : List Sp) (w : World) (ht0 : -9223372036854775808 ≤ t) (ht : t ≤ 9223372036854775807) (hS : Spans w w.heap.size A n L) (hn : n ≤ 9223372036854775807) (h : vl t L = true) :
    Calls Try.prog 23 #[.int .i64 t, .slice A n c] w fun e w' => e = .returned (.bool true) ∧ Below w.heap.size w w' := by
  have k := valid_any t A n c L w ht0 ht hS hn
  rwa [h] at k
theorem valid_no (t : Int) (A : Option Addr) (n c : Nat) (L : List Sp) (w : World) (ht0 : -9223372036854775808 ≤ t) (ht : t ≤ 9223372036854775807) (hS : Spans w w.heap.size A n L) (hn : n ≤ 9223372036854775807) (h : vl t L = false) :
    Calls Try.prog 23 #[.int .i64 t, .slice A n c] w fun e w' => e = .returned (.bool false) ∧ Below w.heap.size w w' := by
  have k := valid_any t A n c L w ht0 ht hS hn
  rwa [h] at k
theorem validref_yes (t : Int) (A : Option Addr) (n c : Nat) (L : List Sp) (w : World) (ht0 : -9223372036854775808 ≤ t) (ht : t ≤ 9223372036854775807) (hS : Spans w w.heap.size A n L) (hn : n ≤ 9223372036854775807) (h : vl t L = true) :
    Calls Try.prog 24 #[.int .i64 t, .slice A n c] w fun e w' => e = .returned (.bool true) ∧ Below w.heap.size w w' := by
  have k := validref_any t A n c L w ht0 ht hS hn
  rwa [h] at k
theorem validref_no (t : Int) (A : Option Addr) (n c : Nat) (L : List Sp) (w : World) (ht0 : -9223372036854775808 ≤ t) (ht : t ≤ 9223372036854775807) (hS : Spans w w.heap.size A n L) (hn : n ≤ 9223372036854775807) (h : vl t L = false) :
    Calls Try.prog 24 #[.int .i64 t, .slice A n c] w fun e w' => e = .returned (.bool false) ∧ Below w.heap.size w w' := by
  have k := validref_any t A n c L w ht0 ht hS hn
  rwa [h] at k

theorem bad_any (t : Int) (A : Option Addr) (n c : Nat) (L : List Sp) (A2 : Option Addr) (n2 c2 : Nat) (M : List Sp) (w : World) (ht0 : -9223372036854775808 ≤ t) (ht : t ≤ 9223372036854775807)
    (hS : Spans w w.heap.size A n L) (hn : n ≤ 9223372036854775807) (hS2 : Spans w w.heap.size A2 n2 M) (hn2 : n2 ≤ 9223372036854775807) :
    Calls Try.prog 51 #[.int .i64 t, .slice A n c, .slice A2 n2 c2] w fun e w' => e = .returned (.int .i64 (er t [L, M])) ∧ Below w.heap.size w w' := by
  by_cases h1 : t < 1
  · have E : Hid (er t [L, M] = 4) := by simp [Hid, er, vp]; omega
    go_enter Try.func51, Try.ntmps51
    go_wp2
    go_ret
    exact ⟨ret1 E.out.symm, Below.refl _ _⟩
  by_cases h2 : 7200 < t
  · have E : Hid (er t [L, M] = 4) := by simp [Hid, er, vp]; omega
    go_enter Try.func51, Try.ntmps51
    go_wp2
    go_ret
    exact ⟨ret1 E.out.symm, Below.refl _ _⟩
  have hv : vp t = true := (vp_iff t).2 ⟨by omega, by omega⟩
  have HS := Lib.hid hS
  have HS2 := Lib.hid hS2
  clear hS hS2
  cases hL : vl t L with
  | false =>
    have E : Hid (er t [L, M] = 1) := by
      have : vf 0 t L = false := by simpa [vl, hv] using hL
      simp [Hid, er, hv, this]
    have HL := Lib.hid hL
    clear hL hv
    go_enter Try.func51, Try.ntmps51
    go_wp2_with fail
    refine (validref_no _ _ _ _ _ _ ht0 ht HS.out hn HL.out).mono ?_
    rintro e w1 ⟨rfl, hb⟩
    go_wp2_with fail
    go_ret
    exact ⟨ret1 E.out.symm, hb⟩
  | true =>
    have HL := Lib.hid hL
    cases hM : vl t M with
    | false =>
      have E : Hid (er t [L, M] = 1) := by
        have : vf 0 t M = false := by simpa [vl, hv] using hM
        simp [Hid, er, hv, this]
      have HM := Lib.hid hM
      clear hL hv hM
      go_enter Try.func51, Try.ntmps51
      go_wp2_with fail
      refine (validref_yes _ _ _ _ _ _ ht0 ht HS.out hn HL.out).mono ?_
      rintro e w1 ⟨rfl, hb⟩
      go_wp2_with fail
      refine (validref_no _ _ _ _ _ _ ht0 ht ((HS2.out.below hb).more hb.size) hn2 HM.out).mono ?_
      rintro e w2 ⟨rfl, hb2⟩
      go_wp2_with fail
      go_ret
      exact ⟨ret1 E.out.symm, hb.trans (hb2.mono hb.size)⟩
    | true =>
      have E : Hid (er t [L, M] = 0) := (er_two t L M).2 ⟨hL, hM⟩
      have HM := Lib.hid hM
      clear hL hv hM
      go_enter Try.func51, Try.ntmps51
      go_wp2_with fail
      refine (validref_yes _ _ _ _ _ _ ht0 ht HS.out hn HL.out).mono ?_
      rintro e w1 ⟨rfl, hb⟩
      go_wp2_with fail
      refine (validref_yes _ _ _ _ _ _ ht0 ht ((HS2.out.below hb).more hb.size) hn2 HM.out).mono ?_
      rintro e w2 ⟨rfl, hb2⟩
      go_wp2_with fail
      go_ret
      exact ⟨ret1 E.out.symm, hb.trans (hb2.mono hb.size)⟩

/-- the sets that stand in a slice of sets -/
def Sets (w : World) (A : Option Addr) (Vs : List (Option Addr × Nat × Nat)) (Ls : List (List Sp)) : Prop :=
  Ls.length = Vs.length ∧ ∀ j v, Vs[j]? = some v → ∃ ad L, A = some ad ∧ ad.block < w.heap.size ∧ Ls[j]? = some L ∧ w.cell? (ad.add j) = some (.slice v.1 v.2.1 v.2.2) ∧ Spans w w.heap.size v.1 v.2.1 L ∧ v.2.1 ≤ 9223372036854775807

theorem all_drop (t : Int) (Ls : List (List Sp)) (k : Nat) (L : List Sp) (h : Ls[k]? = some L) : (Ls.drop k).all (vf 0 t) = (vf 0 t L && (Ls.drop (k + 1)).all (vf 0 t)) := by
  have hk : k < Ls.length := (List.getElem?_eq_some_iff.1 h).1
  have e : Ls[k] = L := (List.getElem?_eq_some_iff.1 h).2
  rw [List.drop_eq_getElem_cons hk, e]
  rfl

theorem check_any (t : Int) (A : Option Addr) (m c : Nat) (Vs : List (Option Addr × Nat × Nat)) (Ls : List (List Sp)) (w : World) (ht0 : -9223372036854775808 ≤ t) (ht : t ≤ 9223372036854775807) (hm : m = Vs.length) (hm2 : m ≤ 9223372036854775807)
    (hS : Sets w A Vs Ls) :
    Calls Try.prog 42 #[.int .i64 t, .slice A m c] w fun e w' => e = .returned (.int .i64 (er t Ls)) ∧ Below w.heap.size w w' := by
  have HM := Lib.hid hm
  clear hm
  cases hv : vp t with
  | false =>
    have E : Hid (er t Ls = 4) := by simp [Hid, er, hv]
    have HV := Lib.hid hv
    clear hv
    go_enter Try.func42, Try.ntmps42
    go_wp2_with fail
    refine (vp_no _ _ HV.out).mono ?_
    rintro e w' ⟨rfl, rfl⟩
    go_wp2_with fail
    go_ret
    exact ⟨ret1 E.out.symm, Below.refl _ _⟩
  | true =>
    have E : Hid (er t Ls = if (Ls.drop 0).all (vf 0 t) then 0 else 1) := by simp [Hid, er, hv]
    have HV := Lib.hid hv
    clear hv
    go_enter Try.func42, Try.ntmps42
    go_wp2_with fail
    refine (vp_yes _ _ HV.out).mono ?_
    rintro e w' ⟨rfl, rfl⟩
    go_wp2_with fail
    go_loopw [12] (fun i wr => ∃ (k : Nat), k ≤ m ∧ i = .int .i64 k ∧ Hid (er t Ls = if (Ls.drop k).all (vf 0 t) then 0 else 1) ∧ Below w.heap.size w wr) (fun i _ => m - (intOf i).toNat)
    case atStart => exact ⟨0, Nat.zero_le _, rfl, E, Below.refl _ _⟩
    case round =>
      obtain ⟨k, hk, rfl, HE, hbw⟩ := hrel
      have hz := hbw.size
      by_cases hlt : k < m
      · have hlv : k < Vs.length := by have := HM.out; omega
        obtain ⟨ad, L, rfl, hab, hL, c0, hSp, hn⟩ := hS.2 k Vs[k] (List.getElem?_eq_getElem hlv)
        have c1 : wr.cell? (ad.add k) = some (.slice Vs[k].1 Vs[k].2.1 Vs[k].2.2) := (hbw.cell (by rw [Mem.block_add]; exact hab)).trans c0
        clear c0
        generalize Vs[k] = v at *
        obtain ⟨vA, vn, vc⟩ := v
        simp only at c1 hSp hn
        have HSp := Lib.hid ((hSp.below hbw).more hz)
        have HP := Lib.hid (all_drop t Ls k L hL)
        have HS := Lib.hid hS
        clear hL E hSp hS
        cases hvl : vl t L with
        | false =>
          have HVL := Lib.hid hvl
          have R : Hid (er t Ls = 1) := by
            have hv := HV.out
            have : vf 0 t L = false := by simpa [vl, hv] using hvl
            exact HE.out.trans (by rw [HP.out, this]; rfl)
          clear hvl
          go_wp2_with fail
          refine (valid_no _ _ _ _ _ _ ht0 ht HSp.out hn HVL.out).mono ?_
          rintro e w1 ⟨rfl, hb1⟩
          go_wp2_with fail
          go_ret
          exact ⟨ret1 R.out.symm, hbw.trans (hb1.mono hz)⟩
        | true =>
          have HVL := Lib.hid hvl
          have R : Hid (er t Ls = if (Ls.drop (k + 1)).all (vf 0 t) then 0 else 1) := by
            have hv := HV.out
            have : vf 0 t L = true := by simpa [vl, hv] using hvl
            exact HE.out.trans (by rw [HP.out, this]; rfl)
          clear hvl
          go_wp2_with fail
          refine (valid_yes _ _ _ _ _ _ ht0 ht HSp.out hn HVL.out).mono ?_
          rintro e w1 ⟨rfl, hb1⟩
          go_wp2_with fail
          go_roundw
          case rel => exact ⟨k + 1, by omega, by go_num, R, hbw.trans (hb1.mono hz)⟩
          case measure => simp [intOf]; omega
      · have R : Hid (er t Ls = 0) := by
          have h := HE.out
          rw [List.drop_eq_nil_of_le (by have := hS.1; have := HM.out; omega)] at h
          exact h
        clear E HE hS
        go_wp2
        go_ret
        exact ⟨ret1 R.out.symm, hbw⟩

end Go.Proofs.Ytapflikdoiedeaa.Errs
