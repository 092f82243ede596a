/-
  Contracts of the two functions that tell valid lists: the program's own and the document's.
-/
import Derived.Test.YtapflikdoiedeaaNums
namespace Go.Proofs.Ytapflikdoiedeaa.Valid
open Go.ChangeShapes Go.WideShapes Go.ChangeAt Go.RowKit Plain Mem Nums
set_option linter.unusedVariables false

/-- a period in range and a valid list -/
def vl (t : Int) (L : List Sp) : Bool := vp t && vf 0 t L

theorem vf_drop (a t : Int) (L : List Sp) (k : Nat) (p : Sp) (h : L[k]? = some p) : vf a t (L.drop k) = (decide (a ≤ p.1) && decide (p.1 < p.2) && decide (p.2 ≤ t) && vf (p.2 + 1) t (L.drop (k + 1))) := by
  have hk : k < L.length := (List.getElem?_eq_some_iff.1 h).1
  have e : L[k] = p := (List.getElem?_eq_some_iff.1 h).2
  rw [List.drop_eq_getElem_cons hk, e]
  rfl
theorem vf_end (a t : Int) (L : List Sp) (k : Nat) (h : L.length ≤ k) : vf a t (L.drop k) = true := by
  rw [List.drop_eq_nil_of_le h]; rfl

theorem valid_any (t : Int) (A : Option Addr) (n c : Nat) (L : List Sp) (w : World) (ht0 : -9223372036854775808 ≤ t) (ht : t ≤ 9223372036854775807) (hS : Spans w w.heap.size A n L) (hn : n ≤ 9223372036854775807) :
    Calls Try.prog 23 #[.int .i64 t, .slice A n c] w fun e w' => e = .returned (.bool (vl t L)) ∧ Below w.heap.size w w' := by
  cases hv : vp t with
  | false =>
    have E : Hid (vl t L = false) := by simp [Hid, vl, hv]
    have HV := Lib.hid hv
    clear hv
    go_enter Try.func23, Try.ntmps23
    go_wp2_with fail
    refine (vp_no _ _ HV.out).mono ?_
    rintro e w' ⟨rfl, rfl⟩
    go_wp2_with fail
    go_ret
    exact ⟨retb E.out.symm, Below.refl _ _⟩
  | true =>
    have ht1 := (vp_iff t).1 hv
    have E : Hid (vl t L = vf 0 t (L.drop 0)) := by simp [Hid, vl, hv]
    have HV := Lib.hid hv
    clear hv
    go_enter Try.func23, Try.ntmps23
    go_wp2_with fail
    refine (vp_yes _ _ HV.out).mono ?_
    rintro e w' ⟨rfl, rfl⟩
    go_wp2_with fail
    go_loopw [5, 13] (fun l i wr => ∃ (k : Nat) (a : Int), k ≤ n ∧ 0 ≤ a ∧ i = .int .i64 k ∧ l = .int .i64 a ∧ Hid (vl t L = vf a t (L.drop k)) ∧ Below w.heap.size w wr) (fun _ i _ => n - (intOf i).toNat)
    case atStart => exact ⟨0, 0, Nat.zero_le _, Int.le_refl _, rfl, rfl, E, Below.refl _ _⟩
    case round =>
      obtain ⟨k, a, hk, ha, rfl, rfl, HE, hbw⟩ := hrel
      by_cases hlt : k < n
      · obtain ⟨ad, p, rfl, hab, hp, c0, c1⟩ := (hS.below hbw).load hlt
        have HP := Lib.hid (HE.out.trans (vf_drop a t L k p hp))
        have hz := hbw.size
        clear hp hS E HE
        by_cases t1 : p.1 < a
        · go_wp2
          go_ret
          exact ⟨retb (by rw [HP.out]; simp; omega), hbw.alloc hz _⟩
        · by_cases t2 : p.2 ≤ p.1
          · go_wp2
            go_ret
            exact ⟨retb (by rw [HP.out]; simp; omega), hbw.alloc hz _⟩
          · by_cases t3 : t < p.2
            · go_wp2
              go_ret
              exact ⟨retb (by rw [HP.out]; simp; omega), hbw.alloc hz _⟩
            · go_wp2
              go_roundw
              case rel => exact ⟨k + 1, p.2 + 1, by omega, by omega, by go_num, rfl, HP.out.trans (by simp; omega), hbw.alloc hz _⟩
              case measure => simp [intOf]; omega
      · have hk : L.length ≤ k := by have := hS.1; omega
        have HP := Lib.hid (HE.out.trans (vf_end a t L k hk))
        clear HE E hS hk
        go_wp2
        go_ret
        exact ⟨retb HP.out.symm, hbw⟩


theorem validref_any (t : Int) (A : Option Addr) (n c : Nat) (L : List Sp) (w : World) (ht0 : -9223372036854775808 ≤ t) (ht : t ≤ 9223372036854775807) (hS : Spans w w.heap.size A n L) (hn : n ≤ 9223372036854775807) :
    Calls Try.prog 24 #[.int .i64 t, .slice A n c] w fun e w' => e = .returned (.bool (vl t L)) ∧ Below w.heap.size w w' := by
  by_cases h1 : t < 1
  · have E : Hid (vl t L = false) := by simp [Hid, vl, vp]; omega
    go_enter Try.func24, Try.ntmps24
    go_wp2
    go_ret
    exact ⟨retb E.out.symm, Below.refl _ _⟩
  by_cases h2 : 7200 < t
  · have E : Hid (vl t L = false) := by simp [Hid, vl, vp]; omega
    go_enter Try.func24, Try.ntmps24
    go_wp2
    go_ret
    exact ⟨retb E.out.symm, Below.refl _ _⟩
  have E : Hid (vl t L = vf 0 t (L.drop 0)) := by
    have : vp t = true := (vp_iff t).2 ⟨by omega, by omega⟩
    simp [Hid, vl, this]
  go_enter Try.func24, Try.ntmps24
  go_wp2
  go_loopw [5, 6] (fun l i wr => ∃ (k : Nat) (a : Int), k ≤ n ∧ -1 ≤ a ∧ i = .int .i64 k ∧ l = .int .i64 a ∧ Hid (vl t L = vf (a + 1) t (L.drop k)) ∧ Below w.heap.size w wr) (fun _ i _ => n - (intOf i).toNat)
  case atStart => exact ⟨0, -1, Nat.zero_le _, Int.le_refl _, rfl, rfl, E, Below.refl _ _⟩
  case round =>
    obtain ⟨k, a, hk, ha, rfl, rfl, HE, hbw⟩ := hrel
    by_cases hlt : k < n
    · obtain ⟨ad, p, rfl, hab, hp, c0, c1⟩ := (hS.below hbw).load hlt
      have HP := Lib.hid (HE.out.trans (vf_drop (a + 1) t L k p hp))
      have hz := hbw.size
      clear hp hS E HE
      by_cases t1 : p.1 ≤ a
      · go_wp2
        go_quiet (fail)
        go_wp2
        go_ret
        exact ⟨retb (by rw [HP.out]; simp; omega), below_draws hbw _⟩
      · have d1 : decide (p.1 ≤ a) = false := by simpa using t1
        have d2 : decide (p.1 < 0) = false := by simp; omega
        by_cases t2 : p.2 ≤ p.1
        · go_wp2
          go_quiet (fail)
          go_wp2
          go_ret
          exact ⟨retb (by rw [HP.out]; simp; omega), below_draws hbw _⟩
        · have d3 : decide (p.2 ≤ p.1) = false := by simpa using t2
          by_cases t3 : t < p.2
          · go_wp2
            go_quiet (fail)
            go_wp2
            go_ret
            exact ⟨retb (by rw [HP.out]; simp; omega), below_draws hbw _⟩
          · have d4 : decide (t < p.2) = false := by simpa using t3
            go_wp2
            go_quiet (fail)
            go_wp2
            go_roundw
            case rel => exact ⟨k + 1, p.2, by omega, by omega, by go_num, rfl, HP.out.trans (by simp; omega), below_draws hbw _⟩
            case measure => simp [intOf]; omega
    · have hk : L.length ≤ k := by have := hS.1; omega
      have HP := Lib.hid (HE.out.trans (vf_end (a + 1) t L k hk))
      clear HE E hS hk
      go_wp2
      go_ret
      exact ⟨retb HP.out.symm, hbw⟩

end Go.Proofs.Ytapflikdoiedeaa.Valid
