/-
  Contract of the program's complement of a set.
-/
import Derived.Test.YtapflikdoiedeaaOps
namespace Go.Proofs.Ytapflikdoiedeaa.Compl
open Go.ChangeShapes Go.WideShapes Go.ChangeAt Go.RowKit Plain Mem Nums Valid Errs Marks Gather Join Unite Fold AddSpan RefOps Ops
set_option linter.unusedVariables false

def gap (R : List Sp) (a b : Int) : List Sp := if a = b then R else R ++ [(a, b)]
def GapPost (B : Nat) (v : Value) (R : List Sp) (a b : Int) (w : World) (e : Ending) (w' : World) : Prop :=
  ∃ A n c, e = .returned (.slice A n c) ∧ Own w' B (.slice A n c) n (gap R a b) ∧ Below B w w' ∧ ∀ (p : Addr) (u : Value), w.cell? p = some u → some p.block ≠ v.ownBlock → w'.cell? p = some u

theorem gap_any (B : Nat) (A : Option Addr) (n c : Nat) (R : List Sp) (a b : Int) (w : World) (hO : Own w B (.slice A n c) n R) (hB : B ≤ w.heap.size) (hn : n ≤ 1000000) :
    Calls Try.prog 45 #[.slice A n c, .int .i64 a, .int .i64 b] w (GapPost B (.slice A n c) R a b w) := by
  obtain ⟨i0, hi, hz0, hz1, hz2⟩ := info_parts info29
  have HO := Lib.hid hO
  clear hO
  by_cases e : a = b
  · subst e
    have E : Hid (gap R a a = R) := by simp [Hid, gap]
    go_enter Try.func45, Try.ntmps45
    go_wp2
    go_ret
    exact ⟨A, n, c, rfl, by rw [E.out]; exact HO.out, Below.refl _ _, fun p u h _ => h⟩
  · have E : Hid (gap R a b = R ++ [(a, b)]) := by simp [Hid, gap, e]
    have hne : ((a : Int) == b) = false := by rw [beq_eq_false_iff_ne]; exact e
    have hown := HO.out.2
    go_enter Try.func45, Try.ntmps45
    go_wp2_with (at_builtin; go_must (refine wpList_append_own _ rfl (.tmp 11) (.tmp 15) 22 rfl B 29 i0 _ 2 16 Try.underlying22 hi hz0 hz1 hz2 rfl (by omega) (.slice A n c) n (cs R) rfl (hown.alloc _) ⟨w.heap.size, 0, none⟩ 1 1 [.int .i64 a, .int .i64 b] rfl rfl (new_pair _ _ _ _) (one_pair _ _) (by unfold maxLen; omega) (by omega) (by simp; omega) ?_))
    intro v w1 hown' hgrow _
    obtain ⟨A', c', rfl, hO', hb'⟩ := appended (Below.refl _ _) hB HO.out.1 hown hown' hgrow
    have HK : Hid (∀ (p : Addr) (u : Value), w.cell? p = some u → some p.block ≠ (Value.slice A n c).ownBlock → w1.cell? p = some u) := fun p u h hne' =>
      hgrow.cell (by rw [World.cell?_alloc_lt _ _ _ (World.block_lt_of_cell? w p h)]; exact h) hne'
    clear hown hown' hgrow
    go_wp2
    go_ret
    exact ⟨A', n + 1, c', rfl, by rw [E.out]; exact hO', hb', HK.out⟩

/-- what holds of the gaps before e, which is the end of the first k spans -/
structure Gaps (t : Int) (L : List Sp) (k : Nat) (e : Int) (R : List Sp) : Prop where
  v : vf 0 e R = true
  nx : nx 0 R ≤ e
  e0 : 0 ≤ e
  e1 : e ≤ t
  d : ∃ b, e ≤ b ∧ vf b t (L.drop k) = true
  tk : ∀ x, e ≤ x → mem (L.take k) x = false
  m : ∀ x, 0 ≤ x → x < e → mem R x = !mem L x

theorem Gaps.start (t : Int) (L : List Sp) (h : vf 0 t L = true) (ht : 1 ≤ t) : Gaps t L 0 0 [] :=
  ⟨rfl, Int.le_refl _, Int.le_refl _, by omega, ⟨0, Int.le_refl _, h⟩, fun x _ => rfl, fun x a b => by omega⟩
theorem mem_split (L : List Sp) (k : Nat) (x : Int) : mem L x = (mem (L.take k) x || mem (L.drop k) x) := by
  rw [← mem_append, List.take_append_drop]
theorem Gaps.low {t e : Int} {L R : List Sp} {k : Nat} (h : Gaps t L k e R) (x : Int) (hx : e ≤ x) : mem L x = mem (L.drop k) x := by
  rw [mem_split L k x, h.tk x hx, Bool.false_or]
theorem gap_vf (R : List Sp) (e b T : Int) (hv : vf 0 e R = true) (hn : nx 0 R ≤ e) (h0 : e ≤ b) (hT : b ≤ T) : vf 0 T (gap R e b) = true := by
  unfold gap
  by_cases c : e = b
  · rw [if_pos c]; exact vf_mono R 0 0 e T (Int.le_refl _) (by omega) hv
  · rw [if_neg c]
    exact (vf_snoc R 0 T (e, b)).2 ⟨vf_mono R 0 0 e T (Int.le_refl _) (by omega) hv, hn, by simp only; omega, hT⟩
theorem gap_mem (R : List Sp) (e b x : Int) : mem (gap R e b) x = (mem R x || (decide (e ≤ x) && decide (x < b))) := by
  unfold gap
  by_cases c : e = b
  · rw [if_pos c]
    have : (decide (e ≤ x) && decide (x < b)) = false := by simp; omega
    rw [this, Bool.or_false]
  · rw [if_neg c, mem_append, mem_one]
theorem Gaps.step {t e : Int} {L R : List Sp} {k : Nat} {p : Sp} (h : Gaps t L k e R) (hp : L[k]? = some p) : Gaps t L (k + 1) p.2 (gap R e p.1) ∧ e ≤ p.1 ∧ p.1 < p.2 ∧ p.2 ≤ t := by
  obtain ⟨b, hb, hd⟩ := h.d
  have hk : k < L.length := (List.getElem?_eq_some_iff.1 hp).1
  have ep : L[k] = p := (List.getElem?_eq_some_iff.1 hp).2
  have hd2 := hd
  rw [List.drop_eq_getElem_cons hk, ep, vf_cons] at hd
  have low := h.low
  have dm : ∀ x, mem (L.drop k) x = ((decide (p.1 ≤ x) && decide (x < p.2)) || mem (L.drop (k + 1)) x) := fun x => by
    rw [List.drop_eq_getElem_cons hk, ep, mem_cons]
  refine ⟨⟨gap_vf R e p.1 p.2 h.v h.nx (by omega) (by omega), ?_, by have := h.e0; omega, hd.2.2.1, ⟨p.2 + 1, by omega, hd.2.2.2⟩, fun x hx => ?_, fun x h0 hx => ?_⟩, by omega, hd.2.1, hd.2.2.1⟩
  · unfold gap
    by_cases c : e = p.1
    · rw [if_pos c]; have := h.nx; omega
    · rw [if_neg c, nx_snoc]; simp only; omega
  · rw [take_mem L k p x hp, h.tk x (by omega)]
    simp; omega
  · rw [gap_mem]
    by_cases c1 : x < e
    · rw [h.m x h0 c1]
      have : (decide (e ≤ x) && decide (x < p.1)) = false := by simp; omega
      rw [this, Bool.or_false]
    · have out : mem R x = false := vf_out R 0 e x h.v (.inr (by omega))
      rw [out, low x (by omega), dm x, vf_out (L.drop (k + 1)) (p.2 + 1) t x hd.2.2.2 (.inl (by omega))]
      rw [Bool.eq_iff_iff]
      simp; omega
theorem Gaps.done {t e : Int} {L R : List Sp} {k : Nat} (h : Gaps t L k e R) (hk : L.length ≤ k) : vf 0 t (gap R e t) = true ∧ ∀ x, 0 ≤ x → x < t → mem (gap R e t) x = !mem L x := by
  refine ⟨gap_vf R e t t h.v h.nx h.e1 (Int.le_refl _), fun x h0 hx => ?_⟩
  rw [gap_mem]
  by_cases c1 : x < e
  · rw [h.m x h0 c1]
    have : (decide (e ≤ x) && decide (x < t)) = false := by simp; omega
    rw [this, Bool.or_false]
  · have out : mem R x = false := vf_out R 0 e x h.v (.inr (by omega))
    rw [out, h.low x (by omega), List.drop_eq_nil_of_le hk]
    simp [mem]; omega

theorem compl_no (t : Int) (A : Option Addr) (n c : Nat) (L : List Sp) (w : World) (ht0 : -9223372036854775808 ≤ t) (ht : t ≤ 9223372036854775807)
    (hS : Spans w w.heap.size A n L) (hn : n ≤ 9223372036854775807) (h : er t [L] ≠ 0) :
    Calls Try.prog 16 #[.int .i64 t, .slice A n c] w (ErrRes w.heap.size (er t [L]) w) := by
  have hne : (er t [L] != 0) = true := by rw [bne_iff_ne]; exact h
  have hr := er_range t [L]
  have H := Lib.hid (fun T => check1 t A n c L T w ht0 ht hS hn)
  clear h hS
  generalize er t [L] = x at *
  go_enter Try.func16, Try.ntmps16
  go_wp2_with fail
  refine (H.out _).mono ?_
  rintro e w' ⟨rfl, hb⟩
  go_wp2_with fail
  go_ret2
  exact ⟨rfl, hb⟩

theorem compl_yes (t : Nat) (A : Option Addr) (n c : Nat) (L : List Sp) (w : World) (ht0 : 1 ≤ t) (ht : t ≤ 7200)
    (hS : Spans w w.heap.size A n L) (hn : n ≤ 9223372036854775807) (h1 : vl t L = true) :
    Calls Try.prog 16 #[.int .i64 (t : Int), .slice A n c] w (SetRes w.heap.size t (fun x => !mem L x) w) := by
  have v1 : vf 0 t L = true := by simp only [vl, Bool.and_eq_true] at h1; exact h1.2
  have he : er t [L] = 0 := (er_one t L).2 h1
  have HB : Hid (∀ T : TypeId, Calls Try.prog 42 #[.int .i64 (t : Int), .slice (some ⟨w.heap.size, 0, none⟩) 1 1] (w.alloc (.cells #[.slice A n c] T)) fun e w' => e = .returned (.int .i64 0) ∧ Below w.heap.size w w') := fun T => by
    have H := check1 t A n c L T w (by omega) (by omega) hS (by omega)
    rwa [he] at H
  have HS := Lib.hid hS
  have HG := Lib.hid (Gaps.start t L v1 (by omega))
  clear h1 hS he v1
  go_enter Try.func16, Try.ntmps16
  go_wp2_with fail
  refine (HB.out _).mono ?_
  rintro e w1 ⟨rfl, hb⟩
  clear HB
  have hz := hb.size
  go_wp2_with fail
  go_loopw [7, 8, 20] (fun u f i wr => ∃ (k : Nat) (e : Int) (A1 : Option Addr) (n1 c1 : Nat) (R : List Sp), k ≤ n ∧ i = .int .i64 k ∧ f = .int .i64 e ∧ u = .slice A1 n1 c1 ∧ Own wr w.heap.size (.slice A1 n1 c1) n1 R ∧ Hid (Gaps t L k e R) ∧ Below w.heap.size w wr) (fun _ _ i _ => n - (intOf i).toNat)
  case atStart => exact ⟨0, 0, none, 0, 0, [], Nat.zero_le _, rfl, rfl, rfl, Own.nil _ _, HG, hb⟩
  case round =>
    obtain ⟨k, e, A1, n1, c1, R, hk, rfl, rfl, rfl, hO, HGk, hbr⟩ := hrel
    have hz' := hbr.size
    have ln := vf_len R 0 e HGk.out.v (by have := HGk.out.e0; omega)
    rw [hO.1] at ln
    have et := HGk.out.e1
    have HO := Lib.hid hO
    clear hO
    by_cases hlt : k < n
    · obtain ⟨ad, p, rfl, hab, hp, d0, d1⟩ := (HS.out.below hbr).load hlt
      have HN := Lib.hid (HGk.out.step hp)
      clear hp
      obtain ⟨p1, p2⟩ := p
      simp only at d0 d1 HN
      have HO2 := Lib.hid (HO.out.alloc (.cells #[.int .i64 p1, .int .i64 p2] 29))
      have HB2 := Lib.hid (hbr.alloc hz' (.cells #[.int .i64 p1, .int .i64 p2] 29))
      go_wp2_with fail
      refine (gap_any w.heap.size A1 n1 c1 R e p1 _ HO2.out (by simp; omega) (by omega)).mono ?_
      rintro e' w3 ⟨A3, n3, c3, rfl, hO3, hb3, hk3⟩
      have hbw := HB2.out.trans hb3
      have s1 : w3.cell? ⟨wr.heap.size, 1, none⟩ = some (.int .i64 p2) := hk3 _ _ (by simp) (fun e => by have := (HO.out.2.lt wr.heap.size e.symm).2; omega)
      clear hk3
      go_wp2
      go_roundw
      case rel => exact ⟨k + 1, p2, A3, n3, c3, _, by omega, by go_num, rfl, rfl, hO3, HN.out.1, hbw⟩
      case measure => simp [intOf]; omega
    · have R' := Lib.hid (HGk.out.done (by have := HS.out.1; omega))
      go_wp2_with fail
      refine (gap_any w.heap.size A1 n1 c1 R e t _ HO.out hz' (by omega)).mono ?_
      rintro e' w3 ⟨A3, n3, c3, rfl, hO3, hb3, hk3⟩
      have hbw := hbr.trans hb3
      clear hb3 hk3
      go_wp2_with fail
      go_ret2
      exact ⟨A3, n3, c3, rfl, _, hO3, R'.out.1, R'.out.2, hbw⟩

end Go.Proofs.Ytapflikdoiedeaa.Compl
