/-
  Contracts of the comparison of two lists of words, and of two lists of such lists.
-/
import Derived.Test.YthjdhcldocpfjaaSmall
import Derived.Test.YthjdhcldocpfjaaMem
import Derived.Deep.RegionWith
namespace Go.Proofs.Ythjdhcldocpfjaa.Same
open Go.ChangeShapes Go.WideShapes Go.ChangeAt Go.RowKit Wd Small Lin Mem
set_option linter.unusedVariables false

def same (L M : List W) : Bool := decide (L = M)
def sames (L M : List (List W)) : Bool := decide (L = M)

theorem drop_same {α : Type} (L M : List α) (k : Nat) (p q : α) (hp : L[k]? = some p) (hq : M[k]? = some q) : (L.drop k = M.drop k) ↔ (p = q ∧ L.drop (k + 1) = M.drop (k + 1)) := by
  have hk : k < L.length := (List.getElem?_eq_some_iff.1 hp).1
  have e : L[k] = p := (List.getElem?_eq_some_iff.1 hp).2
  have hk' : k < M.length := (List.getElem?_eq_some_iff.1 hq).1
  have e' : M[k] = q := (List.getElem?_eq_some_iff.1 hq).2
  rw [List.drop_eq_getElem_cons hk, List.drop_eq_getElem_cons hk', e, e']
  simp

theorem str_ne {a b : Bs} (h : a ≠ b) : ((str a).toList == (str b).toList) = false := by
  rw [beq_eq_false_iff_ne]
  intro e
  apply h
  have h1 : bs (str a) = bs (str b) := by
    rw [Lib.toList_data, Lib.toList_data] at e; exact e
  exact h1

set_option maxHeartbeats 1000000 in
theorem same_any (A : Option Addr) (n c : Nat) (L : List W) (A2 : Option Addr) (n2 c2 : Nat) (M : List W) (w : World)
    (hS : Words w w.heap.size A n L) (hn : n ≤ 9223372036854775807) (hS2 : Words w w.heap.size A2 n2 M) (hn2 : n2 ≤ 9223372036854775807) :
    Calls Try.prog 16 #[.slice A n c, .slice A2 n2 c2] w fun e w' => e = .returned (.bool (same L M)) ∧ Below w.heap.size w w' := by
  by_cases hl : n = n2
  · have E : Hid ((L = M) ↔ (L.drop 0 = M.drop 0)) := by simp [Hid]
    subst hl
    go_enter Try.func16, Try.ntmps16
    go_wp2
    go_loopw [13] (fun i wr => ∃ (k : Nat), k ≤ n ∧ i = .int .i64 k ∧ Hid ((L = M) ↔ (L.drop k = M.drop k)) ∧ Below w.heap.size w wr) (fun i _ => n - (intOf i).toNat)
    case atStart => exact ⟨0, Nat.zero_le _, rfl, E, Below.refl _ _⟩
    case round =>
      obtain ⟨k, hk, rfl, HE, hbw⟩ := hrel
      by_cases hlt : k < n
      · obtain ⟨ad, p, rfl, hab, hp, c0, c1, c3⟩ := (hS.below hbw).load hlt
        obtain ⟨ad2, q, rfl, hab2, hq, d0, d1, d3⟩ := (hS2.below hbw).load hlt
        have HP := Lib.hid (HE.out.trans (drop_same L M k p q hp hq))
        clear hp hq HE E hS hS2
        obtain ⟨p1, p2, p3⟩ := p
        obtain ⟨q1, q2, q3⟩ := q
        simp only at c0 c1 c3 d0 d1 d3
        by_cases e : p1 = q1 ∧ p2 = q2 ∧ p3 = q3
        · obtain ⟨rfl, rfl, rfl⟩ := e
          go_wp2
          go_quiet (fail)
          go_wp2
          go_roundw
          case rel => exact ⟨k + 1, by omega, by go_num, HP.out.trans (by simp), Mem.below_draws hbw _⟩
          case measure => simp [intOf]; omega
        · have E : Hid (same L M = false) := by
            simp only [Hid, same, decide_eq_false_iff_not]
            intro h
            have := (HP.out.1 h).1
            exact e (by simpa using this)
          by_cases e1 : p1 = q1
          · by_cases e2 : p2 = q2
            · subst e1 e2
              have hne : ((p3 : Int) == q3) = false := by rw [beq_eq_false_iff_ne]; exact fun h => e ⟨rfl, rfl, h⟩
              clear e HP
              go_wp2
              go_quiet (fail)
              go_wp2
              go_ret
              exact ⟨retb E.out.symm, Mem.below_draws hbw _⟩
            · subst e1
              have hne : ((p2 : Int) == q2) = false := by rw [beq_eq_false_iff_ne]; exact e2
              clear e e2 HP
              go_wp2
              go_quiet (fail)
              go_wp2
              go_ret
              exact ⟨retb E.out.symm, Mem.below_draws hbw _⟩
          · have hne := str_ne e1
            clear e e1 HP
            go_wp2
            go_quiet (fail)
            go_wp2
            go_ret
            exact ⟨retb E.out.symm, Mem.below_draws hbw _⟩
      · have R : Hid (same L M = true) := by
          have h := HE.out
          rw [List.drop_eq_nil_of_le (by have := hS.1; omega), List.drop_eq_nil_of_le (by have := hS2.1; omega)] at h
          simp [Hid, same, h]
        clear HE E hS hS2
        go_wp2
        go_ret
        exact ⟨retb R.out.symm, hbw⟩
  · have E : Hid (same L M = false) := by
      have h1 := hS.1
      have h2 := hS2.1
      simp only [Hid, same, decide_eq_false_iff_not]
      rintro rfl
      omega
    have hne : ((n : Int) == (n2 : Int)) = false := by rw [beq_eq_false_iff_ne]; omega
    have hne2 : ((n : Int) != (n2 : Int)) = true := by rw [bne_iff_ne]; omega
    clear hS hS2
    go_enter Try.func16, Try.ntmps16
    go_wp2
    go_ret
    exact ⟨retb E.out.symm, Below.refl _ _⟩

set_option maxHeartbeats 1000000 in
theorem sames_any (base base2 : Nat) (A : Option Addr) (n c : Nat) (L : List (List W)) (A2 : Option Addr) (n2 c2 : Nat) (M : List (List W)) (w : World)
    (hS : OwnL w base (.slice A n c) n L) (hn : n ≤ 9223372036854775807) (hS2 : OwnL w base2 (.slice A2 n2 c2) n2 M) (hn2 : n2 ≤ 9223372036854775807) :
    Calls Try.prog 37 #[.slice A n c, .slice A2 n2 c2] w fun e w' => e = .returned (.bool (sames L M)) ∧ Below w.heap.size w w' := by
  have hS1 : L.length = n := by obtain ⟨us, h, _⟩ := hS; exact h
  have hS21 : M.length = n2 := by obtain ⟨us, h, _⟩ := hS2; exact h
  by_cases hl : n = n2
  · have E : Hid ((L = M) ↔ (L.drop 0 = M.drop 0)) := by simp [Hid]
    subst hl
    go_enter Try.func37, Try.ntmps37
    go_wp2
    go_loopw [13] (fun i wr => ∃ (k : Nat), k ≤ n ∧ i = .int .i64 k ∧ Hid ((L = M) ↔ (L.drop k = M.drop k)) ∧ Below w.heap.size w wr) (fun i _ => n - (intOf i).toNat)
    case atStart => exact ⟨0, Nat.zero_le _, rfl, E, Below.refl _ _⟩
    case round =>
      obtain ⟨k, hk, rfl, HE, hbw⟩ := hrel
      by_cases hlt : k < n
      · obtain ⟨ad, p, B1, b1, rfl, hab, hp, c0, r1, z1, z1'⟩ := (hS.below hbw (Nat.le_refl _)).load hlt
        obtain ⟨ad2, q, B2, b2, rfl, hab2, hq, d0, r2, z2, z2'⟩ := (hS2.below hbw (Nat.le_refl _)).load hlt
        have HP := Lib.hid (HE.out.trans (drop_same L M k p q hp hq))
        have hz := hbw.size
        have hm : ∀ wx, Below wr.heap.size wr wx → Calls Try.prog 16 #[.slice B1 p.length b1, .slice B2 q.length b2] wx fun e w' => e = .returned (.bool (same p q)) ∧ Below wr.heap.size wr w' := fun wx hx =>
          (same_any B1 p.length b1 p B2 q.length b2 q wx ((r1.below hx).more hx.size) (by unfold maxLen at z1'; omega) ((r2.below hx).more hx.size) (by unfold maxLen at z2'; omega)).mono fun e w' h => ⟨h.1, hx.trans (h.2.mono hx.size)⟩
        clear hp hq HE E r1 r2
        by_cases e : p = q
        · have es : same p q = true := by simp [same, e]
          rw [es] at hm
          have HM := Lib.hid hm
          have HP2 : Hid ((L = M) ↔ (L.drop (k + 1) = M.drop (k + 1))) := HP.out.trans (by simp [e])
          clear hm HP es e
          go_wp2_with fail
          go_region_with (go_at_call 16; refine (HM.out _ ?_).mono ?_; (first | exact Below.refl _ _ | exact (Below.refl _ _).drew | exact Mem.below_draws (Below.refl _ _) _); rintro e w2 ⟨rfl, hb2⟩)
          all_goals (try (go_wp2_with fail))
          all_goals (refine ⟨⟨k + 1, by omega, by go_num, HP2, by first | exact hbw.trans (hb2.mono hz) | exact Mem.below_draws (hbw.trans (hb2.mono hz)) _⟩, by simp [intOf]; omega⟩)
        · have es : same p q = false := by simp [same, e]
          rw [es] at hm
          have HM := Lib.hid hm
          have E : Hid (sames L M = false) := by
            simp only [Hid, sames, decide_eq_false_iff_not]
            exact fun h => e (HP.out.1 h).1
          clear hm HP es e
          go_wp2_with fail
          go_region_with (go_at_call 16; refine (HM.out _ ?_).mono ?_; (first | exact Below.refl _ _ | exact (Below.refl _ _).drew | exact Mem.below_draws (Below.refl _ _) _); rintro e w2 ⟨rfl, hb2⟩)
          all_goals (try (go_wp2_with fail))
          all_goals go_ret
          all_goals exact ⟨retb E.out.symm, by first | exact hbw.trans (hb2.mono hz) | exact Mem.below_draws (hbw.trans (hb2.mono hz)) _⟩
      · have R : Hid (sames L M = true) := by
          have h := HE.out
          rw [List.drop_eq_nil_of_le (by omega), List.drop_eq_nil_of_le (by omega)] at h
          simp [Hid, sames, h]
        clear HE E hS hS2
        go_wp2
        go_ret
        exact ⟨retb R.out.symm, hbw⟩
  · have E : Hid (sames L M = false) := by
      simp only [Hid, sames, decide_eq_false_iff_not]
      rintro rfl
      omega
    have hne : ((n : Int) == (n2 : Int)) = false := by rw [beq_eq_false_iff_ne]; omega
    have hne2 : ((n : Int) != (n2 : Int)) = true := by rw [bne_iff_ne]; omega
    clear hS hS2
    go_enter Try.func37, Try.ntmps37
    go_wp2
    go_ret
    exact ⟨retb E.out.symm, Below.refl _ _⟩

end Go.Proofs.Ythjdhcldocpfjaa.Same
