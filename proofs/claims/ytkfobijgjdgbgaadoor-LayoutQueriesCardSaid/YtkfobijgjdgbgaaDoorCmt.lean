/-
  Plain mathematics of texts that differ in comments and space alone: no program in it.
-/
import Derived.Test.YtkfobijgjdgbgaaDoorLin
namespace Go.Proofs.YtkfobijgjdgbgaaDoor.Cmt
open Wd Lin

def wd (q : Nat) : Bs := match q with
  | 0 => [97]
  | 1 => [49, 50]
  | 2 => [117, 112]
  | _ => [45]
/-- a word -/
def Fine (w : Bs) : Prop := w ≠ [] ∧ w.all plain = true
theorem wd_fine (q : Nat) : Fine (wd q) := by
  unfold wd
  split <;> exact ⟨by simp, by decide⟩
theorem wd_len (q : Nat) : (wd q).length ≤ 2 := by
  unfold wd
  split <;> simp
theorem plain_ne (b : UInt8) (h : plain b = true) : b ≠ 35 ∧ b ≠ 10 ∧ foreign b = false := by
  refine ⟨?_, ?_, by simp [foreign, h]⟩ <;> (rintro rfl; revert h; decide)
theorem fine_mem {w : Bs} (h : Fine w) : ∀ b ∈ w, plain b = true := fun b hb => List.all_eq_true.1 h.2 b hb
theorem tw_app {p : UInt8 → Bool} (r : Bs) : ∀ l : Bs, (∀ b ∈ l, p b = true) → (l ++ r).takeWhile p = l ++ r.takeWhile p
  | [], _ => rfl
  | b :: l, h => by rw [List.cons_append, List.takeWhile_cons, h b List.mem_cons_self, if_pos rfl, tw_app r l (fun c hc => h c (List.mem_cons_of_mem _ hc)), List.cons_append]
theorem wst_fine (ln : Int) (w r : Bs) (L : List W) (k : Nat) (h : Fine w) (hr : ∀ b, r.head? = some b → plain b = false) :
    wst ln L false k (w ++ r) = wst ln (L ++ [(w, ln, (k : Int) + 1)]) false (k + w.length) r := by
  match w, h with
  | b :: u, h => exact wst_word ln b u r L k h.2 hr
  | [], h => exact absurd rfl h.1

theorem line_word (q : Int) (w : Bs) (h : Fine w) : lineErr q w = 0 ∧ lineWords q w = [(w, q, 1)] := by
  have hc : code w = w := by
    have := tw_app (p := (· != 35)) [] w (fun b hb => by simpa using (plain_ne b (fine_mem h b hb)).1)
    simpa [code] using this
  have hb : bad w = false := by
    unfold bad
    rw [hc, List.any_eq_false]
    intro b hb
    simp [(plain_ne b (fine_mem h b hb)).2.2]
  have hw : lineWords q w = [(w, q, 1)] := by
    unfold lineWords
    rw [hc]
    have := wst_fine q w [] [] 0 h (fun b hb => by simp at hb)
    rw [List.append_nil] at this
    rw [this]; rfl
  refine ⟨?_, hw⟩
  unfold lineErr
  rw [hb, hw]; rfl
theorem line_cmt (q : Int) (w c : Bs) (h : Fine w) : lineErr q (32 :: 9 :: (w ++ (32 :: 32 :: 35 :: c))) = 0 ∧ lineWords q (32 :: 9 :: (w ++ (32 :: 32 :: 35 :: c))) = [(w, q, 3)] := by
  have hc : code (32 :: 9 :: (w ++ (32 :: 32 :: 35 :: c))) = 32 :: 9 :: (w ++ [32, 32]) := by
    have := tw_app (p := (· != 35)) (32 :: 32 :: 35 :: c) (32 :: 9 :: w) (fun b hb => by
      simp only [List.mem_cons] at hb
      rcases hb with rfl | rfl | hb
      · decide
      · decide
      · simpa using (plain_ne b (fine_mem h b hb)).1)
    unfold code
    simp only [List.cons_append] at this
    rw [this]; rfl
  have h32 : plain 32 = false := by decide
  have h9 : plain 9 = false := by decide
  have hb : bad (32 :: 9 :: (w ++ (32 :: 32 :: 35 :: c))) = false := by
    unfold bad
    rw [hc, List.any_eq_false]
    intro b hb
    simp only [List.mem_cons, List.mem_append, List.not_mem_nil, or_false] at hb
    rcases hb with rfl | rfl | hb | rfl | rfl
    · decide
    · decide
    · simp [(plain_ne b (fine_mem h b hb)).2.2]
    · decide
    · decide
  have hw : lineWords q (32 :: 9 :: (w ++ (32 :: 32 :: 35 :: c))) = [(w, q, 3)] := by
    unfold lineWords
    rw [hc, wst_skip _ _ _ _ _ _ h32, wst_skip _ _ _ _ _ _ h9, wst_fine q w [32, 32] [] 2 h (fun b hb => by simp at hb; subst hb; decide), wst_skip _ _ _ _ _ _ h32, wst_skip _ _ _ _ _ _ h32]
    rfl
  refine ⟨?_, hw⟩
  unfold lineErr
  rw [hb, hw]; rfl

def tx : List Bs → Bs
  | [] => []
  | w :: ws => w ++ 10 :: tx ws
def ux (c : Bs) : List Bs → Bs
  | [] => []
  | w :: ws => (32 :: 9 :: (w ++ (32 :: 32 :: 35 :: c))) ++ 10 :: 10 :: ux c ws
def ta (q : Int) : List Bs → List (List W)
  | [] => []
  | w :: ws => [(w, q, 1)] :: ta (q + 1) ws
def tb (q : Int) : List Bs → List (List W)
  | [] => []
  | w :: ws => [(w, q, 3)] :: tb (q + 2) ws
theorem tx_snoc (w : Bs) : ∀ ws, tx (ws ++ [w]) = tx ws ++ (w ++ [10])
  | [] => by simp [tx]
  | v :: ws => by simp only [List.cons_append, tx, tx_snoc w ws, List.append_assoc]
theorem ux_snoc (c w : Bs) : ∀ ws, ux c (ws ++ [w]) = ux c ws ++ ((32 :: 9 :: (w ++ (32 :: 32 :: 35 :: c))) ++ [10, 10])
  | [] => by simp [ux]
  | v :: ws => by simp only [List.cons_append, ux, ux_snoc c w ws, List.append_assoc]
theorem split_line : ∀ (l r : Bs), (∀ b ∈ l, b ≠ 10) → split (l ++ 10 :: r) = l :: split r
  | [], r, _ => by simp [split]
  | b :: l, r, h => by
    have ih := split_line l r (fun c hc => h c (List.mem_cons_of_mem _ hc))
    have hb : (b == 10) = false := by rw [beq_eq_false_iff_ne]; exact h b List.mem_cons_self
    simp only [List.cons_append]
    conv => lhs; unfold split
    rw [hb, ih]
    rfl
theorem go_tx : ∀ (ws : List Bs) (T : List (List W)) (q : Int), (∀ w ∈ ws, Fine w) → go T q (split (tx ws)) = (T ++ ta q ws, 0, 0)
  | [], T, q, _ => by simp only [tx, ta, List.append_nil]; exact go_empty T q
  | w :: ws, T, q, h => by
    have hw := h w List.mem_cons_self
    obtain ⟨e1, e2⟩ := line_word q w hw
    simp only [tx]
    rw [split_line w _ (fun b hb => (plain_ne b (fine_mem hw b hb)).2.1)]
    simp only [go, e1, e2, if_true, List.length_singleton]
    rw [if_neg (by decide), go_tx ws _ (q + 1) (fun v hv => h v (List.mem_cons_of_mem _ hv))]
    simp only [ta, List.append_assoc, List.singleton_append]
theorem go_ux (c : Bs) (hc : ∀ b ∈ c, b ≠ 10) : ∀ (ws : List Bs) (T : List (List W)) (q : Int), (∀ w ∈ ws, Fine w) → go T q (split (ux c ws)) = (T ++ tb q ws, 0, 0)
  | [], T, q, _ => by simp only [ux, tb, List.append_nil]; exact go_empty T q
  | w :: ws, T, q, h => by
    have hw := h w List.mem_cons_self
    obtain ⟨e1, e2⟩ := line_cmt q w c hw
    have h0 : lineErr (q + 1) [] = 0 := by simp [lineErr, bad, code, lineWords, wst]
    have h1 : (lineWords (q + 1) []).length = 0 := by simp [lineWords, code, wst]
    simp only [ux]
    rw [split_line _ _ (fun b hb => by
      simp only [List.mem_cons, List.mem_append] at hb
      rcases hb with rfl | rfl | hb | rfl | rfl | rfl | hb
      · decide
      · decide
      · exact (plain_ne b (fine_mem hw b hb)).2.1
      · decide
      · decide
      · decide
      · exact hc b hb)]
    have h2 := split_line [] (ux c ws) (fun b hb => by cases hb)
    rw [List.nil_append] at h2
    rw [h2]
    simp only [go, e1, e2, h0, h1, if_true, List.length_singleton]
    rw [if_neg (by decide), show q + 1 + 1 = q + 2 by omega, go_ux c hc ws _ (q + 2) (fun v hv => h v (List.mem_cons_of_mem _ hv))]
    simp only [tb, List.append_assoc, List.singleton_append]
theorem ta_get : ∀ (ws : List Bs) (q : Int) (k : Nat), (ta q ws)[k]? = ws[k]?.map fun w => [(w, q + k, 1)]
  | [], q, k => by simp [ta]
  | w :: ws, q, 0 => by simp [ta]
  | w :: ws, q, k + 1 => by
    simp only [ta, List.getElem?_cons_succ]
    rw [ta_get ws (q + 1) k]
    congr 1; funext v; congr 3; omega
theorem tb_get : ∀ (ws : List Bs) (q : Int) (k : Nat), (tb q ws)[k]? = ws[k]?.map fun w => [(w, q + 2 * k, 3)]
  | [], q, k => by simp [tb]
  | w :: ws, q, 0 => by simp [tb]
  | w :: ws, q, k + 1 => by
    simp only [tb, List.getElem?_cons_succ]
    rw [tb_get ws (q + 2) k]
    congr 1; funext v; congr 3; omega
theorem ta_len : ∀ (ws : List Bs) (q : Int), (ta q ws).length = ws.length
  | [], q => rfl
  | w :: ws, q => by simp only [ta, List.length_cons, ta_len ws]
theorem tb_len : ∀ (ws : List Bs) (q : Int), (tb q ws).length = ws.length
  | [], q => rfl
  | w :: ws, q => by simp only [tb, List.length_cons, tb_len ws]
theorem tx_len : ∀ (ws : List Bs), (∀ w ∈ ws, w.length ≤ 2) → (tx ws).length ≤ 3 * ws.length
  | [], _ => by simp [tx]
  | w :: ws, h => by
    have h1 := h w List.mem_cons_self
    have h2 := tx_len ws (fun v hv => h v (List.mem_cons_of_mem _ hv))
    simp only [tx, List.length_append, List.length_cons]; omega
theorem ux_len (c : Bs) (hc : c.length ≤ 50) : ∀ (ws : List Bs), (∀ w ∈ ws, w.length ≤ 2) → (ux c ws).length ≤ 59 * ws.length
  | [], _ => by simp [ux]
  | w :: ws, h => by
    have h1 := h w List.mem_cons_self
    have h2 := ux_len c hc ws (fun v hv => h v (List.mem_cons_of_mem _ hv))
    simp only [ux, List.length_append, List.length_cons]; omega
end Go.Proofs.YtkfobijgjdgbgaaDoor.Cmt
