/-
  Contracts of the program's questions of a set: is a residue in it, how many, which is the next.
-/
import Derived.Test.YtapflikdoiedeaaRefAsk
namespace Go.Proofs.Ytapflikdoiedeaa.Ask
open Go.ChangeShapes Go.WideShapes Go.ChangeAt Go.RowKit Plain Mem Nums Valid Errs RefAsk
set_option linter.unusedVariables false

theorem count_any (t : Int) (A : Option Addr) (n c : Nat) (L : List Sp) (w : World) (ht0 : -9223372036854775808 ≤ t) (ht : t ≤ 9223372036854775807)
    (hS : Spans w w.heap.size A n L) (hn : n ≤ 9223372036854775807) :
    Calls Try.prog 38 #[.int .i64 t, .slice A n c] w fun e w' => e = .returned (.int .i64 (countI t L)) ∧ Below w.heap.size w w' := by
  have HS := Lib.hid hS
  cases hv : vl t L with
  | false =>
    have E : Hid (countI t L = 0) := by simp [Hid, countI, hv]
    have HC := Lib.hid (valid_no t A n c L w ht0 ht hS hn hv)
    clear hv hS
    go_enter Try.func38, Try.ntmps38
    go_wp2_with fail
    refine HC.out.mono ?_
    rintro e w1 ⟨rfl, hb⟩
    go_wp2_with fail
    go_ret
    exact ⟨ret1 E.out.symm, hb⟩
  | true =>
    have hp : 1 ≤ t ∧ t ≤ 7200 := (vp_iff t).1 (by simp only [vl, Bool.and_eq_true] at hv; exact hv.1)
    have hvf : Hid (vf 0 t L = true) := by simp only [vl, Bool.and_eq_true] at hv; exact hv.2
    have E : Hid (countI t L = size L) := by simp [Hid, countI, hv]
    have HC := Lib.hid (valid_yes t A n c L w ht0 ht hS hn hv)
    clear hv hS
    go_enter Try.func38, Try.ntmps38
    go_wp2_with fail
    refine HC.out.mono ?_
    rintro e w1 ⟨rfl, hb⟩
    go_wp2_with fail
    go_loopw [5, 14] (fun s i wr => ∃ (k : Nat) (m : Int), k ≤ n ∧ i = .int .i64 k ∧ s = .int .i64 m ∧ Hid (m = size (L.take k)) ∧ Below w.heap.size w wr) (fun _ i _ => n - (intOf i).toNat)
    case atStart => exact ⟨0, 0, Nat.zero_le _, rfl, rfl, rfl, hb⟩
    case round =>
      obtain ⟨k, m, hk, rfl, rfl, hm, hbr⟩ := hrel
      have hz := hbr.size
      by_cases hlt : k < n
      · obtain ⟨ad, p, rfl, hab, hp', c0, c1⟩ := (HS.out.below hbr).load hlt
        have HT := Lib.hid (size_take L k p hp')
        have r1 := size_range (L.take k) 0 t (vf_take L 0 t k hvf.out) (by omega)
        have r2 := size_range (L.take (k + 1)) 0 t (vf_take L 0 t (k + 1) hvf.out) (by omega)
        rw [HT.out] at r2
        rw [← hm.out] at r1 r2
        clear hp'
        obtain ⟨p1, p2⟩ := p
        simp only at c0 c1 HT r2
        go_wp2
        go_roundw
        case rel => exact ⟨k + 1, _, by omega, by go_num, rfl, by rw [Hid, HT.out, hm.out], hbr.alloc hz _⟩
        case measure => simp [intOf]; omega
      · have R : Hid (countI t L = m) := by rw [Hid, E.out, hm.out, List.take_of_length_le (by have := HS.out.1; omega)]
        go_wp2
        go_ret
        exact ⟨ret1 R.out.symm, hbr⟩

theorem ends_take (L : List Sp) (k : Nat) (p : Sp) (s : Int) (h : L[k]? = some p) (hs : ∀ j q, j < k → L[j]? = some q → q.2 ≤ s) (hp : p.2 ≤ s) : ∀ j q, j < k + 1 → L[j]? = some q → q.2 ≤ s := by
  intro j q hj hq
  by_cases e : j = k
  · subst e; rw [h] at hq; injection hq with hq; subst hq; exact hp
  · exact hs j q (by omega) hq

theorem next_any (t : Int) (A : Option Addr) (n c : Nat) (L : List Sp) (s : Int) (w : World) (ht0 : -9223372036854775808 ≤ t) (ht : t ≤ 9223372036854775807) (hx0 : -9223372036854775808 ≤ s) (hx1 : s ≤ 9223372036854775807)
    (hS : Spans w w.heap.size A n L) (hn : n ≤ 9223372036854775807) :
    Calls Try.prog 19 #[.int .i64 t, .slice A n c, .int .i64 s] w (NextPost t L s w) := by
  have HS := Lib.hid hS
  cases hv : vl t L with
  | false =>
    have E : Hid (NextIs (vl t L) t (mem L) s 0 false) := .inr ⟨rfl, rfl, .inl hv⟩
    have HC := Lib.hid (valid_no t A n c L w ht0 ht hS hn hv)
    clear hv hS
    go_enter Try.func19, Try.ntmps19
    go_wp2_with fail
    refine HC.out.mono ?_
    rintro e w1 ⟨rfl, hb⟩
    go_wp2_with fail
    go_ret2
    exact ⟨0, false, rfl, E.out, hb⟩
  | true =>
    have HV := Lib.hid hv
    have hp : 1 ≤ t ∧ t ≤ 7200 := (vp_iff t).1 (by simp only [vl, Bool.and_eq_true] at hv; exact hv.1)
    have hvf : Hid (vf 0 t L = true) := by simp only [vl, Bool.and_eq_true] at hv; exact hv.2
    have HC := Lib.hid (valid_yes t A n c L w ht0 ht hS hn hv)
    by_cases hn0 : n = 0
    · have E : Hid (NextIs (vl t L) t (mem L) s 0 false) := by
        have : L = [] := List.eq_nil_of_length_eq_zero (by rw [hS.1, hn0])
        subst this
        exact .inr ⟨rfl, rfl, .inr fun k a b => rfl⟩
      have hz : ((n : Int) == 0) = true := by rw [beq_iff_eq]; omega
      clear hv hS
      subst hn0
      go_enter Try.func19, Try.ntmps19
      go_wp2_with fail
      refine HC.out.mono ?_
      rintro e w1 ⟨rfl, hb⟩
      go_wp2_with fail
      go_ret2
      exact ⟨0, false, rfl, E.out, hb⟩
    have hz : ((n : Int) == 0) = false := by rw [beq_eq_false_iff_ne]; omega
    have m0 : 0 ≤ s % t := Int.emod_nonneg _ (by omega)
    have m1 : s % t < t := Int.emod_lt_of_pos _ (by omega)
    clear hv hS
    go_enter Try.func19, Try.ntmps19
    go_wp2_with fail
    refine HC.out.mono ?_
    rintro e w1 ⟨rfl, hb⟩
    go_wp2_with fail
    refine (mod_any s t _ hx0 hx1 (by omega) (by omega)).mono ?_
    rintro e w2 ⟨rfl, rfl⟩
    have HE : Hid (∀ d ok, NextIs true t (mem L) (s % t) d ok → NextIs (vl t L) t (mem L) s d ok) := fun d ok h => by rw [HV.out]; exact h.mod
    generalize s % t = r at *
    go_wp2_with fail
    go_loopw [25] (fun i wr => ∃ k : Nat, k ≤ n ∧ i = .int .i64 k ∧ Hid (∀ j q, j < k → L[j]? = some q → q.2 ≤ r) ∧ Below w.heap.size w wr) (fun i _ => n - (intOf i).toNat)
    case atStart => exact ⟨0, by omega, rfl, fun j q a b => by omega, hb⟩
    case round =>
      obtain ⟨k, hk, rfl, hM, hbr⟩ := hrel
      have hz' := hbr.size
      by_cases hlt : k < n
      · obtain ⟨ad, p, rfl, hab, hp', c0, c1⟩ := (HS.out.below hbr).load hlt
        have hpb : 0 ≤ p.1 ∧ p.1 < p.2 ∧ p.2 ≤ t := by
          have h := hvf.out
          clear hM c0 c1 hlt hk HE HC
          have key : ∀ (L : List Sp) (a : Int) (k : Nat), vf a t L = true → L[k]? = some p → a ≤ p.1 ∧ p.1 < p.2 ∧ p.2 ≤ t := by
            intro L
            induction L with
            | nil => intro a k h hp; simp at hp
            | cons q r ih =>
              intro a k h hp
              rw [vf_cons] at h
              cases k with
              | zero => simp at hp; subst hp; exact ⟨h.1, h.2.1, h.2.2.1⟩
              | succ k => have := ih (q.2 + 1) k h.2.2.2 (by simpa using hp); omega
          exact key L 0 k h hp'
        by_cases t1 : r < p.2
        · have HN : Hid (NextIs (vl t L) t (mem L) s (max (p.1 - r) 0) true) := HE.out _ _ (next_here L t r k p hp.1 hvf.out m0 m1 hp' hM.out t1 ⟨hpb.2.1, hpb.2.2⟩)
          clear hp' hM
          obtain ⟨p1, p2⟩ := p
          simp only at c0 c1 HN hpb t1
          by_cases t3 : r ≤ p1
          · have HN2 : Hid (NextIs (vl t L) t (mem L) s (p1 - r) true) := by have h := HN.out; rwa [show max (p1 - r) 0 = p1 - r from by omega] at h
            clear HN
            go_wp2
            go_ret2
            exact ⟨_, true, rfl, HN2.out, hbr.alloc hz' _⟩
          · have HN2 : Hid (NextIs (vl t L) t (mem L) s 0 true) := by have h := HN.out; rwa [show max (p1 - r) 0 = 0 from by omega] at h
            clear HN
            go_wp2
            go_ret2
            exact ⟨_, true, rfl, HN2.out, hbr.alloc hz' _⟩
        · have HN := Lib.hid (ends_take L k p r hp' hM.out (by omega))
          clear hp' hM
          obtain ⟨p1, p2⟩ := p
          simp only at c0 c1 hpb t1
          go_wp2
          go_roundw
          case rel => exact ⟨k + 1, by omega, by go_num, HN, hbr.alloc hz' _⟩
          case measure => simp [intOf]; omega
      · obtain ⟨ad, p, rr, rfl, hab, hL, c0, c1⟩ := (HS.out.below hbr).head (by omega)
        have HN : Hid (NextIs (vl t L) t (mem L) s (t - r + p.1) true) := HE.out _ _ (by
          have h1 := hvf.out
          have h2 := hM.out
          have h3 := HS.out.1
          subst hL
          refine next_round p rr t r hp.1 h1 m0 m1 fun q hq => ?_
          obtain ⟨j, hj⟩ := List.getElem?_of_mem hq
          have := (List.getElem?_eq_some_iff.1 hj).1
          exact h2 j q (by omega) hj)
        have hpb : 0 ≤ p.1 ∧ p.1 ≤ t := by
          have h1 := hvf.out
          rw [hL, vf_cons] at h1
          omega
        clear hL hM
        obtain ⟨p1, p2⟩ := p
        simp only at c0 c1 HN hpb
        go_wp2
        go_ret2
        exact ⟨_, true, rfl, HN.out, hbr⟩

theorem next_has (v : Bool) (t : Int) (f : Int → Bool) (x d : Int) (ok : Bool) (h : NextIs v t f x d ok) (ht : v = true → 1 ≤ t) : (v && f (x % t)) = (ok && (d == 0)) := by
  rcases h with ⟨rfl, rfl, h0, h1, h2, h3⟩ | ⟨rfl, rfl, h4⟩
  · by_cases e : d = 0
    · subst e
      rw [Int.add_zero] at h2
      simp [h2]
    · have := h3 0 (Int.le_refl _) (by omega)
      rw [Int.add_zero] at this
      simp [this, e]
  · cases v with
    | false => rfl
    | true =>
      rcases h4 with h4 | h4
      · cases h4
      · have := h4 0 (Int.le_refl _) (by have := ht rfl; omega)
        rw [Int.add_zero] at this
        simp [this]

theorem has_any (t : Int) (A : Option Addr) (n c : Nat) (L : List Sp) (x : Int) (w : World) (ht0 : -9223372036854775808 ≤ t) (ht : t ≤ 9223372036854775807) (hx0 : -9223372036854775808 ≤ x) (hx1 : x ≤ 9223372036854775807)
    (hS : Spans w w.heap.size A n L) (hn : n ≤ 9223372036854775807) :
    Calls Try.prog 36 #[.int .i64 t, .slice A n c, .int .i64 x] w fun e w' => e = .returned (.bool (hasB t L x)) ∧ Below w.heap.size w w' := by
  have HC := Lib.hid (next_any t A n c L x w ht0 ht hx0 hx1 hS hn)
  clear hS
  go_enter Try.func36, Try.ntmps36
  go_wp2_with fail
  refine HC.out.mono ?_
  rintro e w1 ⟨d, ok, rfl, hN, hb⟩
  have E : Hid (hasB t L x = (ok && (d == 0))) := next_has _ _ _ _ _ _ hN fun h => by
    have : vp t = true := by simp only [vl, Bool.and_eq_true] at h; exact h.1
    exact ((vp_iff t).1 this).1
  clear hN HC
  cases ok with
  | false =>
    go_wp2
    go_ret
    exact ⟨retb E.out.symm, hb⟩
  | true =>
    go_wp2
    go_ret
    exact ⟨retb E.out.symm, hb⟩

end Go.Proofs.Ytapflikdoiedeaa.Ask
