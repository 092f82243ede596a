/-
  The table of the ends of a layout, as the program's check of links keeps it: what it holds behind some links, and what it tells.
-/
import Derived.Test.YtkfobijgjdgbgaaDoorPEnds
namespace Go.Proofs.YtkfobijgjdgbgaaDoor.PTab
open Go.RowKit Wd Mem Lay Recs PEnds
set_option linter.unusedVariables false

/-- what the seven cells of end x hold where the links ks have it -/
def Fits (x : Lay.End) (ks : List Lnk) (a0 b0 a1 b1 p q : Int) : Prop := match ks with
  | [] => True
  | [k] => other k x = (a0, b0) ∧ p = k.pt ∧ q = k.ps
  | k :: k2 :: _ => other k x = (a0, b0) ∧ other k2 x = (a1, b1) ∧ p = k.pt ∧ q = k.ps
def en (s e : Nat) : Lay.End := ((s : Int), (e : Int))
/-- the table in block g behind the links done -/
structure Tab (w : World) (g : Nat) (done : List Lnk) : Prop where
  fr : ∀ j, w.frozen? ⟨g, j, none⟩ = false
  cell : ∀ s e : Nat, s < 96 → e < 2 → ∃ a0 b0 a1 b1 p q, Seven w g (s * 14 + e * 7) (done.filter (has · (en s e))).length a0 b0 a1 b1 p q ∧ Fits (en s e) (done.filter (has · (en s e))) a0 b0 a1 b1 p q
theorem Tab.below {w w' : World} {B g : Nat} {done : List Lnk} (h : Tab w g done) (hb : Below B w w') (hg : g < B) : Tab w' g done :=
  ⟨fun j => (hb.frozen (p := ⟨g, j, none⟩) hg).trans (h.fr j), fun s e hs he => by
    obtain ⟨a0, b0, a1, b1, p, q, h1, h2⟩ := h.cell s e hs he
    exact ⟨a0, b0, a1, b1, p, q, h1.below hb hg, h2⟩⟩
theorem has_other (k : Lnk) (x y : Lay.End) (hx : has k x = true) (hne : x ≠ y) : has k y = decide (other k x = y) := by
  rw [Bool.eq_iff_iff, has_iff, decide_eq_true_eq]
  unfold other
  rcases (has_iff k x).1 hx with h | h
  · rw [if_pos h]
    constructor
    · rintro (e | e)
      · exact absurd (h.symm.trans e) hne
      · exact e
    · exact fun e => .inr e
  · by_cases h2 : k.x = x
    · rw [if_pos h2]
      constructor
      · rintro (e | e)
        · exact absurd (h2.symm.trans e) hne
        · exact e
      · exact fun e => .inr e
    · rw [if_neg h2]
      constructor
      · rintro (e | e)
        · exact e
        · exact absurd (h.symm.trans e) hne
      · exact fun e => .inl e
theorem pair_eq {a b : Int} {y : Lay.End} : decide ((a, b) = y) = ((a == y.1) && (b == y.2)) := by
  obtain ⟨c, d⟩ := y
  rw [Bool.eq_iff_iff]
  simp
/-- what 'leadTo' tells -/
theorem lead_eq (done : List Lnk) (x y : Lay.End) (hne : x ≠ y) {a0 b0 a1 b1 p q : Int} (h2 : (done.filter (has · x)).length ≤ 2) (hf : Fits x (done.filter (has · x)) a0 b0 a1 b1 p q) :
    lead (done.filter (has · x)).length a0 b0 a1 b1 y.1 y.2 = done.any fun j => has j x && has j y := by
  have e : (done.any fun j => has j x && has j y) = (done.filter (has · x)).any (fun j => has j y) := by
    rw [List.any_filter]
  have hm : ∀ k ∈ done.filter (has · x), has k x = true := fun k hk => (List.mem_filter.1 hk).2
  rw [e]
  generalize done.filter (has · x) = ks at *
  match ks, h2, hf, hm with
  | [], _, _, _ => rfl
  | [k], _, hf, hm =>
    obtain ⟨f1, _, _⟩ := hf
    have := has_other k x y (hm k (by simp)) hne
    simp only [List.length_cons, List.length_nil, lead, List.any_cons, List.any_nil, Bool.or_false, this, f1, pair_eq]
  | [k, k2], _, hf, hm =>
    obtain ⟨f1, f2, _, _⟩ := hf
    have h1 := has_other k x y (hm k (by simp)) hne
    have h2 := has_other k2 x y (hm k2 (by simp)) hne
    simp only [List.length_cons, List.length_nil, lead, List.any_cons, List.any_nil, Bool.or_false, h1, h2, f1, f2, pair_eq]
/-- what 'admit' tells -/
theorem adm_eq (done : List Lnk) (x : Lay.End) (k : Lnk) (hk : -1 ≤ k.pt) {a0 b0 a1 b1 p q : Int} (h2 : (done.filter (has · x)).length ≤ 2) (hf : Fits x (done.filter (has · x)) a0 b0 a1 b1 p q) :
    adm (done.filter (has · x)).length p q k.pt k.ps = free done k x := by
  unfold free
  generalize done.filter (has · x) = ks at *
  match ks, h2, hf with
  | [], _, _ => rfl
  | [o], _, hf =>
    obtain ⟨_, rfl, rfl⟩ := hf
    simp only [List.length_cons, List.length_nil, adm]
    rw [Bool.eq_iff_iff]
    simp only [Bool.and_eq_true, Bool.not_eq_true', beq_eq_false_iff_ne, beq_iff_eq, decide_eq_true_eq, decide_eq_false_iff_not, ne_eq]
    constructor
    · rintro ⟨h1, h2, h3⟩; exact ⟨⟨by omega, h2⟩, h3⟩
    · rintro ⟨⟨h1, h2⟩, h3⟩; exact ⟨by omega, h2, h3⟩
  | [_, _], _, _ => rfl
theorem en_inj {s e s' e' : Nat} (h : en s e ≠ en s' e') : s ≠ s' ∨ e ≠ e' := by
  by_cases h1 : s = s'
  · by_cases h2 : e = e'
    · exact absurd (by rw [h1, h2]) h
    · exact .inr h2
  · exact .inl h1
/-- the table behind one more link -/
theorem Tab.add {w w1 w2 : World} {g s e s' e' : Nat} {done : List Lnk} {k : Lnk} {a0 b0 a1 b1 p q a0' b0' a1' b1' p' q' : Int} {n n' : Nat} {r1 r2 : Ending} (h : Tab w g done) (hs : s < 96) (he : e < 2) (hs' : s' < 96) (he' : e' < 2)
    (hx : k.x = en s e) (hy : k.y = en s' e') (hne : en s e ≠ en s' e') (hn : n = (done.filter (has · (en s e))).length) (hn' : n' = (done.filter (has · (en s' e'))).length) (h1 : n ≤ 1) (h1' : n' ≤ 1)
    (f : Fits (en s e) (done.filter (has · (en s e))) a0 b0 a1 b1 p q) (f' : Fits (en s' e') (done.filter (has · (en s' e'))) a0' b0' a1' b1' p' q')
    (ha : AddPost g (s * 14 + e * 7) n a0 b0 a1 b1 p q s' e' k.pt k.ps w r1 w1) (hb : AddPost g (s' * 14 + e' * 7) n' a0' b0' a1' b1' p' q' s e k.pt k.ps w1 r2 w2) : Tab w2 g (done ++ [k]) := by
  obtain ⟨_, A1, A2, A3, _⟩ := ha
  obtain ⟨_, B1, B2, B3, _⟩ := hb
  have hd := en_inj hne
  have hox : other k (en s e) = en s' e' := by unfold other; rw [if_pos hx, hy]
  have hoy : other k (en s' e') = en s e := by
    unfold other
    rw [if_neg (by rw [hx]; exact hne), hx]
  have hhx : has k (en s e) = true := by rw [has_iff]; exact .inl hx
  have hhy : has k (en s' e') = true := by rw [has_iff]; exact .inr hy
  refine ⟨fun j => (B3 j).trans ((A3 j).trans (h.fr j)), fun t d ht hd2 => ?_⟩
  rw [List.filter_append]
  by_cases c1 : t = s ∧ d = e
  · obtain ⟨rfl, rfl⟩ := c1
    have keep : ∀ {m : Nat} {c0 d0 c1 d1 p0 q0 : Int}, Seven w1 g (t * 14 + d * 7) m c0 d0 c1 d1 p0 q0 → Seven w2 g (t * 14 + d * 7) m c0 d0 c1 d1 p0 q0 := fun hS => by
      obtain ⟨k0, k1, k2, k3, k4, k5, k6⟩ := hS
      exact ⟨(B2 _ (by omega)).trans k0, (B2 _ (by omega)).trans k1, (B2 _ (by omega)).trans k2, (B2 _ (by omega)).trans k3, (B2 _ (by omega)).trans k4, (B2 _ (by omega)).trans k5, (B2 _ (by omega)).trans k6⟩
    rw [show [k].filter (has · (en t d)) = [k] by simp [hhx]]
    generalize done.filter (has · (en t d)) = ks at *
    match ks, hn, f with
    | [], hn, f =>
      simp only [List.length_nil] at hn
      rw [if_pos hn] at A1
      exact ⟨_, _, _, _, _, _, keep A1, hox, rfl, rfl⟩
    | [o], hn, f =>
      simp only [List.length_cons, List.length_nil] at hn
      rw [if_neg (by omega)] at A1
      obtain ⟨f1, f2, f3⟩ := f
      exact ⟨_, _, _, _, _, _, keep A1, f1, hox, f2, f3⟩
    | _ :: _ :: _, hn, f => simp only [List.length_cons] at hn; omega
  · by_cases c2 : t = s' ∧ d = e'
    · obtain ⟨rfl, rfl⟩ := c2
      rw [show [k].filter (has · (en t d)) = [k] by simp [hhy]]
      generalize done.filter (has · (en t d)) = ks at *
      match ks, hn', f' with
      | [], hn, f =>
        simp only [List.length_nil] at hn
        rw [if_pos hn] at B1
        exact ⟨_, _, _, _, _, _, B1, hoy, rfl, rfl⟩
      | [o], hn, f =>
        simp only [List.length_cons, List.length_nil] at hn
        rw [if_neg (by omega)] at B1
        obtain ⟨f1, f2, f3⟩ := f
        exact ⟨_, _, _, _, _, _, B1, f1, hoy, f2, f3⟩
      | _ :: _ :: _, hn, f => simp only [List.length_cons] at hn; omega
    · have hno : has k (en t d) = false := by
        rw [← Bool.not_eq_true, has_iff, hx, hy]
        rintro (e1 | e1)
        · simp only [en, Prod.mk.injEq] at e1; exact c1 (by omega)
        · simp only [en, Prod.mk.injEq] at e1; exact c2 (by omega)
      rw [show [k].filter (has · (en t d)) = [] by simp [hno], List.append_nil]
      obtain ⟨c0, d0, c1', d1, p0, q0, ⟨k0, k1, k2, k3, k4, k5, k6⟩, hf⟩ := h.cell t d ht hd2
      exact ⟨c0, d0, c1', d1, p0, q0, ⟨(B2 _ (by omega)).trans ((A2 _ (by omega)).trans k0), (B2 _ (by omega)).trans ((A2 _ (by omega)).trans k1), (B2 _ (by omega)).trans ((A2 _ (by omega)).trans k2), (B2 _ (by omega)).trans ((A2 _ (by omega)).trans k3),
        (B2 _ (by omega)).trans ((A2 _ (by omega)).trans k4), (B2 _ (by omega)).trans ((A2 _ (by omega)).trans k5), (B2 _ (by omega)).trans ((A2 _ (by omega)).trans k6)⟩, hf⟩

theorem zeros : Tryd.zeroCells112 = Array.replicate 1344 (.int .i64 0) := by kernel_rfl
/-- the table, new -/
theorem Tab.new (w : World) : Tab (w.alloc (.cells Tryd.zeroCells112 112)) w.heap.size [] := by
  have hc : ∀ j, j < 1344 → (w.alloc (.cells Tryd.zeroCells112 112)).cell? ⟨w.heap.size, j, none⟩ = some (.int .i64 0) := fun j hj => by
    rw [World.cell?_alloc_new, zeros]
    simp [hj]
  refine ⟨fun j => by simp, fun s e hs he => ⟨0, 0, 0, 0, 0, 0, ⟨hc _ (by omega), hc _ (by omega), hc _ (by omega), hc _ (by omega), hc _ (by omega), hc _ (by omega), hc _ (by omega)⟩, trivial⟩⟩

theorem links_step {n p : Nat} {L : List Lnk} {k : Nat} {x : Lnk} (h : L[k]? = some x) :
    linksErr n p (L.take k) (L.drop k) = if linkErr n p (L.take k) x = 0 then linksErr n p (L.take (k + 1)) (L.drop (k + 1)) else linkErr n p (L.take k) x := by
  rw [Strs.drop_at h, PNames.take_succ h]
  rfl
end Go.Proofs.YtkfobijgjdgbgaaDoor.PTab
