/-
  Contract of the program's function that folds a list of spans between 0 and twice the period into the set of its residues.
-/
import Derived.Test.YtapflikdoiedeaaUnite
import Derived.Maps.AppendAt
namespace Go.Proofs.Ytapflikdoiedeaa.Fold
open Go.ChangeShapes Go.WideShapes Go.ChangeAt Go.RowKit Plain Mem Nums Valid Errs Marks Gather Join Unite
set_option linter.unusedVariables false

/-- two slice values that lie in different blocks -/
def Apart (v v2 : Value) : Prop := ∀ g, v.ownBlock = some g → v2.ownBlock = some g → False
theorem Apart.symm {v v2 : Value} (h : Apart v v2) : Apart v2 v := fun g a b => h g b a
theorem apart_nil (v : Value) : Apart (.slice none 0 0) v := fun g h _ => by simp [Value.ownBlock] at h

theorem appended2 {B n cc n2 c2 : Nat} {A A2 : Option Addr} {L M : List Sp} {w wr w1 : World} {v : Value} {a b : Int} {e : TypeId} (hbw : Below B w wr) (hB : B ≤ wr.heap.size) (hl : L.length = n) (hown : wr.ownsRow B 29 2 (.slice A n cc) n (cs L))
    (hown' : w1.ownsRow B 29 2 v (n + 1) (cs L ++ [.int .i64 a, .int .i64 b])) (hgrow : (wr.alloc (.cells #[.int .i64 a, .int .i64 b] e)).grownBy w1 (Value.slice A n cc).ownBlock)
    {m : Nat} (hat : v.ownBlock = (Value.slice A n cc).ownBlock ∨ v.ownBlock = some m) (hm : wr.heap.size ≤ m)
    (hO2 : Own wr B (.slice A2 n2 c2) n2 M) (hap : Apart (.slice A n cc) (.slice A2 n2 c2)) :
    ∃ A' c', v = .slice A' (n + 1) c' ∧ Own w1 B (.slice A' (n + 1) c') (n + 1) (L ++ [(a, b)]) ∧ Own w1 B (.slice A2 n2 c2) n2 M ∧ Apart (.slice A' (n + 1) c') (.slice A2 n2 c2) ∧ Below B w w1 := by
  obtain ⟨A', c', rfl, hO', hb'⟩ := appended hbw hB hl hown hown' hgrow
  refine ⟨A', c', rfl, hO', ⟨hO2.1, (hO2.2.alloc _).kept hgrow ?_⟩, fun g h1 h2 => ?_, hb'⟩
  · cases hv : (Value.slice A2 n2 c2).ownBlock with
    | none => exact .inl rfl
    | some g => exact .inr fun e => hap g e.symm hv
  · rcases hat with hat | hat
    · exact hap g (hat ▸ h1) h2
    · rw [hat] at h1
      have := (hO2.2.lt g h2).2
      injection h1 with h1
      omega

theorem af_all (L : List Sp) (a T : Int) (h : af a T L = true) : ∀ q ∈ L, a ≤ q.1 := by
  induction L generalizing a with
  | nil => intro q hq; cases hq
  | cons p r ih =>
    intro q hq
    have hh := af_head _ _ _ _ h
    rcases List.mem_cons.1 hq with rfl | hq
    · exact hh.1
    · have := ih _ hh.2.2.2 q hq; omega
theorem af_drop (L : List Sp) (a T : Int) (k : Nat) (p : Sp) (h : af a T L = true) (hp : L[k]? = some p) : a ≤ p.1 ∧ p.1 < p.2 ∧ p.2 ≤ T ∧ ∀ q ∈ L.drop (k + 1), p.1 ≤ q.1 := by
  induction L generalizing a k with
  | nil => simp at hp
  | cons q r ih =>
    have hh := af_head _ _ _ _ h
    cases k with
    | zero =>
      have : q = p := by simpa using hp
      subst this
      exact ⟨hh.1, hh.2.1, hh.2.2.1, fun q' hq' => af_all r _ T hh.2.2.2 q' (by simpa using hq')⟩
    | succ k =>
      have := ih q.1 k hh.2.2.2 (by simpa using hp)
      exact ⟨by omega, this.2.1, this.2.2.1, by simpa using this.2.2.2⟩
theorem af_snoc (L : List Sp) (a t : Int) (p : Sp) (h : af a t L = true) (hl : ∀ M q, L = M ++ [q] → q.1 ≤ p.1) (h0 : a ≤ p.1) (h1 : p.1 < p.2) (h2 : p.2 ≤ t) : af a t (L ++ [p]) = true := by
  induction L generalizing a with
  | nil => exact (af_cons a t p []).2 ⟨h0, h1, h2, rfl⟩
  | cons q r ih =>
    have hh := af_head _ _ _ _ h
    rw [List.cons_append, af_cons]
    refine ⟨hh.1, hh.2.1, hh.2.2.1, ih q.1 hh.2.2.2 (fun M q' e => hl (q :: M) q' (by rw [e]; rfl)) ?_⟩
    cases r with
    | nil => exact hl [] q rfl
    | cons q2 r2 =>
      obtain ⟨M, q', e⟩ := snoc_of (q2 :: r2) (by simp)
      have h3 := hl (q :: M) q' (by rw [e]; rfl)
      have h4 := af_all (q2 :: r2) q.1 t hh.2.2.2 q' (by rw [e]; simp)
      omega

/-- what holds of the two lists after k spans -/
structure Halves (t : Int) (L : List Sp) (k : Nat) (F1 F2 : List Sp) : Prop where
  a1 : af 0 t F1 = true
  a2 : af 0 t F2 = true
  l1 : ∀ M q, F1 = M ++ [q] → ∀ p ∈ L.drop k, q.1 ≤ p.1
  l2 : ∀ M q, F2 = M ++ [q] → ∀ p ∈ L.drop k, q.1 ≤ max p.1 t - t
  m1 : ∀ x, mem F1 x = (mem (L.take k) x && decide (x < t))
  m2 : ∀ x, mem F2 x = (mem (L.take k) (x + t) && decide (0 ≤ x))

theorem Halves.start (t : Int) (L : List Sp) : Halves t L 0 [] [] :=
  ⟨rfl, rfl, fun M q e => by simp at e, fun M q e => by simp at e, fun x => by simp [mem], fun x => by simp [mem]⟩

theorem drop_mem (L : List Sp) (k : Nat) (p : Sp) (hp : L[k]? = some p) : p ∈ L.drop k := by
  have hk : k < L.length := (List.getElem?_eq_some_iff.1 hp).1
  have e : L[k] = p := (List.getElem?_eq_some_iff.1 hp).2
  rw [List.drop_eq_getElem_cons hk, e]
  exact List.mem_cons_self
theorem drop_more (L : List Sp) (k : Nat) (q : Sp) (h : q ∈ L.drop (k + 1)) : q ∈ L.drop k := by
  rw [← List.drop_drop] at h
  exact List.mem_of_mem_drop h

theorem half1 (t : Int) (p : Sp) (x : Int) : (decide (p.1 ≤ x) && decide (x < min p.2 t)) = ((decide (p.1 ≤ x) && decide (x < p.2)) && decide (x < t)) := by
  rw [Bool.eq_iff_iff]; simp; omega
theorem half2 (t : Int) (p : Sp) (x : Int) : (decide (max p.1 t - t ≤ x) && decide (x < p.2 - t)) = ((decide (p.1 ≤ x + t) && decide (x + t < p.2)) && decide (0 ≤ x)) := by
  rw [Bool.eq_iff_iff]; simp; omega
theorem none1 (t : Int) (p : Sp) (x : Int) (h : t ≤ p.1) : ((decide (p.1 ≤ x) && decide (x < p.2)) && decide (x < t)) = false := by
  simp; omega
theorem none2 (t : Int) (p : Sp) (x : Int) (h : p.2 ≤ t) : ((decide (p.1 ≤ x + t) && decide (x + t < p.2)) && decide (0 ≤ x)) = false := by
  simp; omega

theorem Halves.first {t : Int} {L F1 F2 : List Sp} {k : Nat} {p : Sp} (h : Halves t L k F1 F2) (hL : af 0 (2 * t) L = true) (hp : L[k]? = some p) (ht : p.2 ≤ t) : Halves t L (k + 1) (F1 ++ [(p.1, min p.2 t)]) F2 := by
  have hd := af_drop L 0 (2 * t) k p hL hp
  refine ⟨af_snoc _ _ _ _ h.a1 (fun M q e => h.l1 M q e p (drop_mem L k p hp)) hd.1 (by simp only; omega) (by simp only; omega), h.a2, fun M q e => ?_, fun M q e p' hp' => h.l2 M q e p' (drop_more L k p' hp'), fun x => ?_, fun x => ?_⟩
  · have := (List.append_inj' e rfl).2
    simp only [List.cons.injEq, and_true] at this
    subst this
    exact fun p' hp' => hd.2.2.2 p' hp'
  · rw [take_mem L k p x hp, mem_append, mem_one, h.m1, Bool.and_or_distrib_right, ← half1]
  · rw [take_mem L k p _ hp, h.m2, Bool.and_or_distrib_right, none2 t p x ht, Bool.or_false]
theorem Halves.second {t : Int} {L F1 F2 : List Sp} {k : Nat} {p : Sp} (h : Halves t L k F1 F2) (hL : af 0 (2 * t) L = true) (hp : L[k]? = some p) (ht : t ≤ p.1) : Halves t L (k + 1) F1 (F2 ++ [(max p.1 t - t, p.2 - t)]) := by
  have hd := af_drop L 0 (2 * t) k p hL hp
  refine ⟨h.a1, af_snoc _ _ _ _ h.a2 (fun M q e => h.l2 M q e p (drop_mem L k p hp)) (by simp only; omega) (by simp only; omega) (by simp only; omega), fun M q e p' hp' => h.l1 M q e p' (drop_more L k p' hp'), fun M q e => ?_, fun x => ?_, fun x => ?_⟩
  · have := (List.append_inj' e rfl).2
    simp only [List.cons.injEq, and_true] at this
    subst this
    exact fun p' hp' => by have := hd.2.2.2 p' hp'; simp only; omega
  · rw [take_mem L k p x hp, h.m1, Bool.and_or_distrib_right, none1 t p x ht, Bool.or_false]
  · rw [take_mem L k p _ hp, mem_append, mem_one, h.m2, half2, Bool.and_or_distrib_right]
theorem Halves.both {t : Int} {L F1 F2 : List Sp} {k : Nat} {p : Sp} (h : Halves t L k F1 F2) (hL : af 0 (2 * t) L = true) (hp : L[k]? = some p) (ht : p.1 < t) (ht2 : t < p.2) : Halves t L (k + 1) (F1 ++ [(p.1, min p.2 t)]) (F2 ++ [(max p.1 t - t, p.2 - t)]) := by
  have hd := af_drop L 0 (2 * t) k p hL hp
  refine ⟨af_snoc _ _ _ _ h.a1 (fun M q e => h.l1 M q e p (drop_mem L k p hp)) hd.1 (by simp only; omega) (by simp only; omega), af_snoc _ _ _ _ h.a2 (fun M q e => h.l2 M q e p (drop_mem L k p hp)) (by simp only; omega) (by simp only; omega) (by simp only; omega), fun M q e => ?_, fun M q e => ?_, fun x => ?_, fun x => ?_⟩
  · have := (List.append_inj' e rfl).2
    simp only [List.cons.injEq, and_true] at this
    subst this
    exact fun p' hp' => hd.2.2.2 p' hp'
  · have := (List.append_inj' e rfl).2
    simp only [List.cons.injEq, and_true] at this
    subst this
    exact fun p' hp' => by have := hd.2.2.2 p' hp'; simp only; omega
  · rw [take_mem L k p x hp, mem_append, mem_one, h.m1, Bool.and_or_distrib_right, ← half1]
  · rw [take_mem L k p _ hp, mem_append, mem_one, h.m2, half2, Bool.and_or_distrib_right]

theorem new_pair2 (w : World) (o : Obj) (a b : Int) (e : TypeId) : ∀ (j : Nat) (u : Value), [Value.int .i64 a, Value.int .i64 b][j]? = some u → ((w.alloc o).alloc (.cells #[.int .i64 a, .int .i64 b] e)).cell? ((⟨w.heap.size + 1, 0, none⟩ : Addr).add j) = some u := by
  intro j u hu
  have h := new_pair (w.alloc o) a b e j u hu
  rwa [show (w.alloc o).heap.size = w.heap.size + 1 from by simp] at h

theorem span_kept {B n cc : Nat} {A : Option Addr} {L : List Sp} {wr w1 : World} {p1 p2 : Int} {o : Obj} (hO : Own wr B (.slice A n cc) n L)
    (hgrow : ((wr.alloc (.cells #[.int .i64 p1, .int .i64 p2] 29)).alloc o).grownBy w1 (Value.slice A n cc).ownBlock) :
    w1.cell? ⟨wr.heap.size, 0, none⟩ = some (.int .i64 p1) ∧ w1.cell? ⟨wr.heap.size, 1, none⟩ = some (.int .i64 p2) := by
  have hne : some wr.heap.size ≠ (Value.slice A n cc).ownBlock := fun e => by have := (hO.2.lt wr.heap.size e.symm).2; omega
  have h0 : ((wr.alloc (.cells #[.int .i64 p1, .int .i64 p2] 29)).alloc o).cell? ⟨wr.heap.size, 0, none⟩ = some (.int .i64 p1) := by
    rw [World.cell?_alloc_lt _ _ _ (by simp)]; simp
  have h1 : ((wr.alloc (.cells #[.int .i64 p1, .int .i64 p2] 29)).alloc o).cell? ⟨wr.heap.size, 1, none⟩ = some (.int .i64 p2) := by
    rw [World.cell?_alloc_lt _ _ _ (by simp)]; simp
  exact ⟨hgrow.cell h0 hne, hgrow.cell h1 hne⟩

set_option maxHeartbeats 1600000 in
theorem fold_any (t : Nat) (A : Option Addr) (n c : Nat) (L : List Sp) (w : World) (ht0 : 1 ≤ t) (ht : t ≤ 7200) (hS : Spans w w.heap.size A n L) (hn : n ≤ 50000) (hL : af 0 (2 * t) L = true) :
    Calls Try.prog 44 #[.int .i64 (t : Int), .slice A n c] w (SetPost w.heap.size t (fun x => mem L x || mem L (x + t)) w) := by
  obtain ⟨i0, hi, hz0, hz1, hz2⟩ := info_parts info29
  have HS := Lib.hid hS
  have HL := Lib.hid hL
  clear hS hL
  go_enter Try.func44, Try.ntmps44
  go_wp2
  go_loopw [5, 6, 11] (fun a b i wr => ∃ (k : Nat) (A1 : Option Addr) (n1 c1 : Nat) (F1 : List Sp) (A2 : Option Addr) (n2 c2 : Nat) (F2 : List Sp), k ≤ n ∧ i = .int .i64 k ∧ a = .slice A1 n1 c1 ∧ b = .slice A2 n2 c2 ∧ n1 ≤ k ∧ n2 ≤ k ∧
      Own wr w.heap.size (.slice A1 n1 c1) n1 F1 ∧ Own wr w.heap.size (.slice A2 n2 c2) n2 F2 ∧ Apart (.slice A1 n1 c1) (.slice A2 n2 c2) ∧ Hid (Halves t L k F1 F2) ∧ Below w.heap.size w wr)
    (fun _ _ i _ => n - (intOf i).toNat)
  case atStart => exact ⟨0, none, 0, 0, [], none, 0, 0, [], Nat.zero_le _, rfl, rfl, rfl, Nat.le_refl _, Nat.le_refl _, Own.nil _ _, Own.nil _ _, apart_nil _, Halves.start t L, Below.refl _ _⟩
  case round =>
    obtain ⟨k, A1, n1, c1, F1, A2, n2, c2, F2, hk, rfl, rfl, rfl, hn1, hn2, hO1, hO2, hap, HH, hbr⟩ := hrel
    have hz := hbr.size
    have HO1 := Lib.hid hO1
    have HO2 := Lib.hid hO2
    have HA := Lib.hid hap
    clear hO1 hO2 hap
    by_cases hlt : k < n
    · obtain ⟨ad, p, rfl, hab, hp, d0, d1⟩ := (HS.out.below hbr).load hlt
      have hd := af_drop L 0 (2 * t) k p HL.out hp
      have hd' : 0 ≤ p.1 ∧ p.1 < p.2 ∧ p.2 ≤ 2 * t := ⟨hd.1, hd.2.1, hd.2.2.1⟩
      clear hd
      by_cases t1 : p.2 ≤ t
      · have HN := Lib.hid (HH.out.first HL.out hp t1)
        clear hp
        obtain ⟨p1, p2⟩ := p
        simp only at d0 d1 hd' t1 HN
        have e1 : min p2 (t : Int) = p2 := by omega
        rw [e1] at HN
        clear e1
        have dt : decide (p1 < (t : Int)) = true := by simp; omega
        have hown := (HO1.out.alloc (.cells #[.int .i64 p1, .int .i64 p2] 29)).2
        go_wp2_with (at_builtin; go_must (refine wpList_append_own_at _ rfl (.tmp 19) (.tmp 27) 22 rfl w.heap.size 29 i0 _ 2 16 Try.underlying22 hi hz0 hz1 hz2 rfl (by omega) (.slice A1 n1 c1) n1 (cs F1) rfl (hown.alloc _) ⟨wr.heap.size + 1, 0, none⟩ 1 1 [.int .i64 p1, .int .i64 p2] rfl rfl (new_pair2 _ _ _ _ _) (one_pair _ _) (by unfold maxLen; omega) (by omega) (by simp; omega) ?_))
        intro v w1 hown' hgrow _ hat
        obtain ⟨s0, s1⟩ := span_kept HO1.out hgrow
        obtain ⟨A', c', rfl, hO1', hO2', hap', hb'⟩ := appended2 (hbr.alloc hz _) (by simp; omega) HO1.out.1 hown hown' hgrow hat (by simp) (HO2.out.alloc _) HA.out
        clear hown hown' hgrow hat
        go_wp2
        go_roundw
        case rel => exact ⟨k + 1, A', n1 + 1, c', _, A2, n2, c2, F2, by omega, by go_num, rfl, rfl, by omega, by omega, hO1', hO2', hap', HN, hb'⟩
        case measure => simp [intOf]; omega
      · by_cases t2 : (t : Int) ≤ p.1
        · have HN := Lib.hid (HH.out.second HL.out hp t2)
          clear hp
          obtain ⟨p1, p2⟩ := p
          simp only at d0 d1 hd' t1 t2 HN
          have e1 : max p1 (t : Int) = p1 := by omega
          rw [e1] at HN
          clear e1
          have hown := (HO2.out.alloc (.cells #[.int .i64 p1, .int .i64 p2] 29)).2
          go_wp2_with (at_builtin; go_must (refine wpList_append_own_at _ rfl (.tmp 33) (.tmp 45) 22 rfl w.heap.size 29 i0 _ 2 16 Try.underlying22 hi hz0 hz1 hz2 rfl (by omega) (.slice A2 n2 c2) n2 (cs F2) rfl (hown.alloc _) ⟨wr.heap.size + 1, 0, none⟩ 1 1 [.int .i64 (p1 - (t : Int)), .int .i64 (p2 - (t : Int))] rfl rfl (new_pair2 _ _ _ _ _) (one_pair _ _) (by unfold maxLen; omega) (by omega) (by simp; omega) ?_))
          intro v w1 hown' hgrow _ hat
          obtain ⟨A', c', rfl, hO2', hO1', hap', hb'⟩ := appended2 (hbr.alloc hz _) (by simp; omega) HO2.out.1 hown hown' hgrow hat (by simp) (HO1.out.alloc _) HA.out.symm
          clear hown hown' hgrow hat
          go_wp2
          go_roundw
          case rel => exact ⟨k + 1, A1, n1, c1, _, A', n2 + 1, c', _, by omega, by go_num, rfl, rfl, by omega, by omega, hO1', hO2', hap'.symm, HN, hb'⟩
          case measure => simp [intOf]; omega
        · have HN := Lib.hid (HH.out.both HL.out hp (by omega) (by omega))
          clear hp
          obtain ⟨p1, p2⟩ := p
          simp only at d0 d1 hd' t1 t2 HN
          have e1 : max p1 (t : Int) - t = 0 := by omega
          have e2 : min p2 (t : Int) = t := by omega
          rw [e1, e2] at HN
          clear e1 e2
          have hown := (HO1.out.alloc (.cells #[.int .i64 p1, .int .i64 p2] 29)).2
          go_wp2_with (at_builtin; go_must (refine wpList_append_own_at _ rfl (.tmp 19) (.tmp 27) 22 rfl w.heap.size 29 i0 _ 2 16 Try.underlying22 hi hz0 hz1 hz2 rfl (by omega) (.slice A1 n1 c1) n1 (cs F1) rfl (hown.alloc _) ⟨wr.heap.size + 1, 0, none⟩ 1 1 [.int .i64 p1, .int .i64 (t : Int)] rfl rfl (new_pair2 _ _ _ _ _) (one_pair _ _) (by unfold maxLen; omega) (by omega) (by simp; omega) ?_))
          intro v w1 hown' hgrow _ hat
          obtain ⟨s0, s1⟩ := span_kept HO1.out hgrow
          obtain ⟨A', c', rfl, hO1', hO2', hap', hb'⟩ := appended2 (hbr.alloc hz _) (by simp; omega) HO1.out.1 hown hown' hgrow hat (by simp) (HO2.out.alloc _) HA.out
          clear hown hown' hgrow hat
          have hz2' := hb'.size
          have hown2 := hO2'.2
          go_wp2_with (at_builtin; go_must (refine wpList_append_own_at _ rfl (.tmp 33) (.tmp 45) 22 rfl w.heap.size 29 i0 _ 2 16 Try.underlying22 hi hz0 hz1 hz2 rfl (by omega) (.slice A2 n2 c2) n2 (cs F2) rfl (hown2.alloc _) ⟨w1.heap.size, 0, none⟩ 1 1 [.int .i64 (0 : Int), .int .i64 (p2 - (t : Int))] rfl rfl (new_pair _ _ _ _) (one_pair _ _) (by unfold maxLen; omega) (by omega) (by simp; omega) ?_))
          intro v w2 hown' hgrow _ hat
          obtain ⟨A'', c'', rfl, hO2'', hO1'', hap'', hb''⟩ := appended2 hb' hz2' hO2'.1 hown2 hown' hgrow hat (by simp) hO1' hap'.symm
          clear hown2 hown' hgrow hat
          go_wp2
          go_roundw
          case rel => exact ⟨k + 1, A', n1 + 1, c', _, A'', n2 + 1, c'', _, by omega, by go_num, rfl, rfl, by omega, by omega, hO1'', hO2'', hap''.symm, HN, hb''⟩
          case measure => simp [intOf]; omega
    · have R : Hid (∀ x, (mem F1 x || mem F2 x) = (mem L x && decide (x < (t : Int)) || (mem L (x + t) && decide (0 ≤ x)))) := fun x => by
        have h1 := HH.out.m1 x
        have h2 := HH.out.m2 x
        rw [List.take_of_length_le (by have := HS.out.1; omega)] at h1 h2
        rw [h1, h2]
      obtain ⟨g1, _, hf1, hf2⟩ := (show ∃ g : Nat, True ∧ n1 ≤ c1 ∧ c1 ≤ maxLen from ⟨0, trivial, by
        obtain ⟨A', c', e, h1, h2⟩ := HO1.out.form
        injection e with _ _ e; subst e; exact ⟨h1, h2⟩⟩)
      obtain ⟨g2, _, hf3, hf4⟩ := (show ∃ g : Nat, True ∧ n2 ≤ c2 ∧ c2 ≤ maxLen from ⟨0, trivial, by
        obtain ⟨A', c', e, h1, h2⟩ := HO2.out.form
        injection e with _ _ e; subst e; exact ⟨h1, h2⟩⟩)
      unfold maxLen at hf2 hf4
      go_wp2_with fail
      refine (unite_any t A1 n1 c1 F1 A2 n2 c2 F2 wr (by omega) HO1.out.spans (by omega) hf1 hf2 HO2.out.spans (by omega) hf3 hf4 HH.out.a1 HH.out.a2).mono ?_
      rintro e w5 ⟨A5, n5, c5, rfl, U, u1, u2, u3, u4⟩
      go_wp2_with fail
      go_ret
      exact ⟨A5, n5, c5, rfl, U, u1.base_ hz, u2, fun x h0 h1 => by rw [u3, R.out x]; simp [h0, h1], hbr.trans (u4.mono hz)⟩

end Go.Proofs.Ytapflikdoiedeaa.Fold
