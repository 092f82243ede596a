/-
  Contract of the comparison of two lists of spans.
-/
import Derived.Test.YtapflikdoiedeaaValid
namespace Go.Proofs.Ytapflikdoiedeaa.Same
open Go.ChangeShapes Go.WideShapes Go.ChangeAt Go.RowKit Plain Mem Nums Valid
set_option linter.unusedVariables false

def same (L M : List Sp) : Bool := decide (L = M)

theorem drop_same (L M : List Sp) (k : Nat) (p q : Sp) (hp : L[k]? = some p) (hq : M[k]? = some q) : (L.drop k = M.drop k) ↔ (p = q ∧ L.drop (k + 1) = M.drop (k + 1)) := by
  have hk : k < L.length := (List.getElem?_eq_some_iff.1 hp).1
  have e : L[k] = p := (List.getElem?_eq_some_iff.1 hp).2
  have hk' : k < M.length := (List.getElem?_eq_some_iff.1 hq).1
  have e' : M[k] = q := (List.getElem?_eq_some_iff.1 hq).2
  rw [List.drop_eq_getElem_cons hk, List.drop_eq_getElem_cons hk', e, e']
  simp

theorem same_any (A : Option Addr) (n c : Nat) (L : List Sp) (A2 : Option Addr) (n2 c2 : Nat) (M : List Sp) (w : World)
    (hS : Spans w w.heap.size A n L) (hn : n ≤ 9223372036854775807) (hS2 : Spans w w.heap.size A2 n2 M) (hn2 : n2 ≤ 9223372036854775807) :
    Calls Try.prog 20 #[.slice A n c, .slice A2 n2 c2] w fun e w' => e = .returned (.bool (same L M)) ∧ Below w.heap.size w w' := by
  by_cases hl : n = n2
  · have E : Hid ((L = M) ↔ (L.drop 0 = M.drop 0)) := by simp [Hid]
    subst hl
    go_enter Try.func20, Try.ntmps20
    go_wp2
    go_loopw [13] (fun i wr => ∃ (k : Nat), k ≤ n ∧ i = .int .i64 k ∧ Hid ((L = M) ↔ (L.drop k = M.drop k)) ∧ Below w.heap.size w wr) (fun i _ => n - (intOf i).toNat)
    case atStart => exact ⟨0, Nat.zero_le _, rfl, E, Below.refl _ _⟩
    case round =>
      obtain ⟨k, hk, rfl, HE, hbw⟩ := hrel
      by_cases hlt : k < n
      · obtain ⟨ad, p, rfl, hab, hp, c0, c1⟩ := (hS.below hbw).load hlt
        obtain ⟨ad2, q, rfl, hab2, hq, d0, d1⟩ := (hS2.below hbw).load hlt
        have HP := Lib.hid (HE.out.trans (drop_same L M k p q hp hq))
        clear hp hq HE E hS hS2
        obtain ⟨p1, p2⟩ := p
        obtain ⟨q1, q2⟩ := q
        simp only at c0 c1 d0 d1
        by_cases e : p1 = q1 ∧ p2 = q2
        · obtain ⟨rfl, rfl⟩ := e
          go_wp2
          go_quiet (fail)
          go_wp2
          go_roundw
          case rel => exact ⟨k + 1, by omega, by go_num, HP.out.trans (by simp), below_draws hbw _⟩
          case measure => simp [intOf]; omega
        · have E : Hid (same L M = false) := by
            simp only [Hid, same, decide_eq_false_iff_not]
            intro h
            have := (HP.out.1 h).1
            exact e (by simpa using this)
          by_cases e1 : p1 = q1
          · subst e1
            have hne : ((p2 : Int) == q2) = false := by rw [beq_eq_false_iff_ne]; exact fun h => e ⟨rfl, h⟩
            clear e
            go_wp2
            go_quiet (fail)
            go_wp2
            go_ret
            exact ⟨retb E.out.symm, below_draws hbw _⟩
          · have hne : ((p1 : Int) == q1) = false := by rw [beq_eq_false_iff_ne]; exact e1
            clear e
            go_wp2
            go_quiet (fail)
            go_wp2
            go_ret
            exact ⟨retb E.out.symm, below_draws hbw _⟩
      · have R : Hid (same L M = true) := by
          have h := HE.out
          rw [List.drop_eq_nil_of_le (by have := hS.1; omega), List.drop_eq_nil_of_le (by have := hS2.1; omega)] at h
          simp [Hid, same, h]
        clear HE E hS hS2
        go_wp2
        go_ret
        exact ⟨retb R.out.symm, hbw⟩
  · have E : Hid (same L M = false) := by
      have h1 := hS.1
      have h2 := hS2.1
      simp only [Hid, same, decide_eq_false_iff_not]
      rintro rfl
      omega
    have hne : ((n : Int) == (n2 : Int)) = false := by rw [beq_eq_false_iff_ne]; omega
    have hne2 : ((n : Int) != (n2 : Int)) = true := by rw [bne_iff_ne]; omega
    clear hS hS2
    go_enter Try.func20, Try.ntmps20
    go_wp2
    go_ret
    exact ⟨retb E.out.symm, Below.refl _ _⟩

end Go.Proofs.Ytapflikdoiedeaa.Same
