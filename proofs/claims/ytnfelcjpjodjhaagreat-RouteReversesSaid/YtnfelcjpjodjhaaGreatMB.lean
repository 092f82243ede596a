/-
  Plain mathematics of texts that differ in comments and space alone: no program in it.
  Plain mathematics of joined texts: the words of a joined text are the words that were joined. No program in it.
  No contract of the library is wanted here.
  Contracts of the functions that read numbers.
  Contracts of the two functions that read a number out of a text.
  The decimal representation of a number: plain mathematics, and the contract of the document's own function that makes it.
  Plain mathematics of the text of a layout: what its lines declare, and that a layout's text declares it. No program in it.
-/
import Derived.Test.YtnfelcjpjodjhaaGreatMA
import Derived.Test.YtnfelcjpjodjhaaGreatProg
import Derived.Laws.Concat
namespace Go.Proofs.YtnfelcjpjodjhaaGreat.Cmt
open Wd Lin

def wd (q : Nat) : Bs := match q with
  | 0 => [97]
  | 1 => [49, 50]
  | 2 => [117, 112]
  | _ => [45]
/-- a word -/
def Fine (w : Bs) : Prop := w ≠ [] ∧ w.all plain = true
theorem wd_fine (q : Nat) : Fine (wd q) := by
  unfold wd
  split <;> exact ⟨by simp, by decide⟩
theorem wd_len (q : Nat) : (wd q).length ≤ 2 := by
  unfold wd
  split <;> simp
theorem plain_ne (b : UInt8) (h : plain b = true) : b ≠ 35 ∧ b ≠ 10 ∧ foreign b = false := by
  refine ⟨?_, ?_, by simp [foreign, h]⟩ <;> (rintro rfl; revert h; decide)
theorem fine_mem {w : Bs} (h : Fine w) : ∀ b ∈ w, plain b = true := fun b hb => List.all_eq_true.1 h.2 b hb
theorem tw_app {p : UInt8 → Bool} (r : Bs) : ∀ l : Bs, (∀ b ∈ l, p b = true) → (l ++ r).takeWhile p = l ++ r.takeWhile p
  | [], _ => rfl
  | b :: l, h => by rw [List.cons_append, List.takeWhile_cons, h b List.mem_cons_self, if_pos rfl, tw_app r l (fun c hc => h c (List.mem_cons_of_mem _ hc)), List.cons_append]
theorem wst_fine (ln : Int) (w r : Bs) (L : List W) (k : Nat) (h : Fine w) (hr : ∀ b, r.head? = some b → plain b = false) :
    wst ln L false k (w ++ r) = wst ln (L ++ [(w, ln, (k : Int) + 1)]) false (k + w.length) r := by
  match w, h with
  | b :: u, h => exact wst_word ln b u r L k h.2 hr
  | [], h => exact absurd rfl h.1

theorem line_word (q : Int) (w : Bs) (h : Fine w) : lineErr q w = 0 ∧ lineWords q w = [(w, q, 1)] := by
  have hc : code w = w := by
    have := tw_app (p := (· != 35)) [] w (fun b hb => by simpa using (plain_ne b (fine_mem h b hb)).1)
    simpa [code] using this
  have hb : bad w = false := by
    unfold bad
    rw [hc, List.any_eq_false]
    intro b hb
    simp [(plain_ne b (fine_mem h b hb)).2.2]
  have hw : lineWords q w = [(w, q, 1)] := by
    unfold lineWords
    rw [hc]
    have := wst_fine q w [] [] 0 h (fun b hb => by simp at hb)
    rw [List.append_nil] at this
    rw [this]; rfl
  refine ⟨?_, hw⟩
  unfold lineErr
  rw [hb, hw]; rfl
theorem line_cmt (q : Int) (w c : Bs) (h : Fine w) : lineErr q (32 :: 9 :: (w ++ (32 :: 32 :: 35 :: c))) = 0 ∧ lineWords q (32 :: 9 :: (w ++ (32 :: 32 :: 35 :: c))) = [(w, q, 3)] := by
  have hc : code (32 :: 9 :: (w ++ (32 :: 32 :: 35 :: c))) = 32 :: 9 :: (w ++ [32, 32]) := by
    have := tw_app (p := (· != 35)) (32 :: 32 :: 35 :: c) (32 :: 9 :: w) (fun b hb => by
      simp only [List.mem_cons] at hb
      rcases hb with rfl | rfl | hb
      · decide
      · decide
      · simpa using (plain_ne b (fine_mem h b hb)).1)
    unfold code
    simp only [List.cons_append] at this
    rw [this]; rfl
  have h32 : plain 32 = false := by decide
  have h9 : plain 9 = false := by decide
  have hb : bad (32 :: 9 :: (w ++ (32 :: 32 :: 35 :: c))) = false := by
    unfold bad
    rw [hc, List.any_eq_false]
    intro b hb
    simp only [List.mem_cons, List.mem_append, List.not_mem_nil, or_false] at hb
    rcases hb with rfl | rfl | hb | rfl | rfl
    · decide
    · decide
    · simp [(plain_ne b (fine_mem h b hb)).2.2]
    · decide
    · decide
  have hw : lineWords q (32 :: 9 :: (w ++ (32 :: 32 :: 35 :: c))) = [(w, q, 3)] := by
    unfold lineWords
    rw [hc, wst_skip _ _ _ _ _ _ h32, wst_skip _ _ _ _ _ _ h9, wst_fine q w [32, 32] [] 2 h (fun b hb => by simp at hb; subst hb; decide), wst_skip _ _ _ _ _ _ h32, wst_skip _ _ _ _ _ _ h32]
    rfl
  refine ⟨?_, hw⟩
  unfold lineErr
  rw [hb, hw]; rfl

def tx : List Bs → Bs
  | [] => []
  | w :: ws => w ++ 10 :: tx ws
def ux (c : Bs) : List Bs → Bs
  | [] => []
  | w :: ws => (32 :: 9 :: (w ++ (32 :: 32 :: 35 :: c))) ++ 10 :: 10 :: ux c ws
def ta (q : Int) : List Bs → List (List W)
  | [] => []
  | w :: ws => [(w, q, 1)] :: ta (q + 1) ws
def tb (q : Int) : List Bs → List (List W)
  | [] => []
  | w :: ws => [(w, q, 3)] :: tb (q + 2) ws
theorem tx_snoc (w : Bs) : ∀ ws, tx (ws ++ [w]) = tx ws ++ (w ++ [10])
  | [] => by simp [tx]
  | v :: ws => by simp only [List.cons_append, tx, tx_snoc w ws, List.append_assoc]
theorem ux_snoc (c w : Bs) : ∀ ws, ux c (ws ++ [w]) = ux c ws ++ ((32 :: 9 :: (w ++ (32 :: 32 :: 35 :: c))) ++ [10, 10])
  | [] => by simp [ux]
  | v :: ws => by simp only [List.cons_append, ux, ux_snoc c w ws, List.append_assoc]
theorem split_line : ∀ (l r : Bs), (∀ b ∈ l, b ≠ 10) → split (l ++ 10 :: r) = l :: split r
  | [], r, _ => by simp [split]
  | b :: l, r, h => by
    have ih := split_line l r (fun c hc => h c (List.mem_cons_of_mem _ hc))
    have hb : (b == 10) = false := by rw [beq_eq_false_iff_ne]; exact h b List.mem_cons_self
    simp only [List.cons_append]
    conv => lhs; unfold split
    rw [hb, ih]
    rfl
theorem go_tx : ∀ (ws : List Bs) (T : List (List W)) (q : Int), (∀ w ∈ ws, Fine w) → go T q (split (tx ws)) = (T ++ ta q ws, 0, 0)
  | [], T, q, _ => by simp only [tx, ta, List.append_nil]; exact go_empty T q
  | w :: ws, T, q, h => by
    have hw := h w List.mem_cons_self
    obtain ⟨e1, e2⟩ := line_word q w hw
    simp only [tx]
    rw [split_line w _ (fun b hb => (plain_ne b (fine_mem hw b hb)).2.1)]
    simp only [go, e1, e2, if_true, List.length_singleton]
    rw [if_neg (by decide), go_tx ws _ (q + 1) (fun v hv => h v (List.mem_cons_of_mem _ hv))]
    simp only [ta, List.append_assoc, List.singleton_append]
theorem go_ux (c : Bs) (hc : ∀ b ∈ c, b ≠ 10) : ∀ (ws : List Bs) (T : List (List W)) (q : Int), (∀ w ∈ ws, Fine w) → go T q (split (ux c ws)) = (T ++ tb q ws, 0, 0)
  | [], T, q, _ => by simp only [ux, tb, List.append_nil]; exact go_empty T q
  | w :: ws, T, q, h => by
    have hw := h w List.mem_cons_self
    obtain ⟨e1, e2⟩ := line_cmt q w c hw
    have h0 : lineErr (q + 1) [] = 0 := by simp [lineErr, bad, code, lineWords, wst]
    have h1 : (lineWords (q + 1) []).length = 0 := by simp [lineWords, code, wst]
    simp only [ux]
    rw [split_line _ _ (fun b hb => by
      simp only [List.mem_cons, List.mem_append] at hb
      rcases hb with rfl | rfl | hb | rfl | rfl | rfl | hb
      · decide
      · decide
      · exact (plain_ne b (fine_mem hw b hb)).2.1
      · decide
      · decide
      · decide
      · exact hc b hb)]
    have h2 := split_line [] (ux c ws) (fun b hb => by cases hb)
    rw [List.nil_append] at h2
    rw [h2]
    simp only [go, e1, e2, h0, h1, if_true, List.length_singleton]
    rw [if_neg (by decide), show q + 1 + 1 = q + 2 by omega, go_ux c hc ws _ (q + 2) (fun v hv => h v (List.mem_cons_of_mem _ hv))]
    simp only [tb, List.append_assoc, List.singleton_append]
theorem ta_get : ∀ (ws : List Bs) (q : Int) (k : Nat), (ta q ws)[k]? = ws[k]?.map fun w => [(w, q + k, 1)]
  | [], q, k => by simp [ta]
  | w :: ws, q, 0 => by simp [ta]
  | w :: ws, q, k + 1 => by
    simp only [ta, List.getElem?_cons_succ]
    rw [ta_get ws (q + 1) k]
    congr 1; funext v; congr 3; omega
theorem tb_get : ∀ (ws : List Bs) (q : Int) (k : Nat), (tb q ws)[k]? = ws[k]?.map fun w => [(w, q + 2 * k, 3)]
  | [], q, k => by simp [tb]
  | w :: ws, q, 0 => by simp [tb]
  | w :: ws, q, k + 1 => by
    simp only [tb, List.getElem?_cons_succ]
    rw [tb_get ws (q + 2) k]
    congr 1; funext v; congr 3; omega
theorem ta_len : ∀ (ws : List Bs) (q : Int), (ta q ws).length = ws.length
  | [], q => rfl
  | w :: ws, q => by simp only [ta, List.length_cons, ta_len ws]
theorem tb_len : ∀ (ws : List Bs) (q : Int), (tb q ws).length = ws.length
  | [], q => rfl
  | w :: ws, q => by simp only [tb, List.length_cons, tb_len ws]
theorem tx_len : ∀ (ws : List Bs), (∀ w ∈ ws, w.length ≤ 2) → (tx ws).length ≤ 3 * ws.length
  | [], _ => by simp [tx]
  | w :: ws, h => by
    have h1 := h w List.mem_cons_self
    have h2 := tx_len ws (fun v hv => h v (List.mem_cons_of_mem _ hv))
    simp only [tx, List.length_append, List.length_cons]; omega
theorem ux_len (c : Bs) (hc : c.length ≤ 50) : ∀ (ws : List Bs), (∀ w ∈ ws, w.length ≤ 2) → (ux c ws).length ≤ 59 * ws.length
  | [], _ => by simp [ux]
  | w :: ws, h => by
    have h1 := h w List.mem_cons_self
    have h2 := ux_len c hc ws (fun v hv => h v (List.mem_cons_of_mem _ hv))
    simp only [ux, List.length_append, List.length_cons]; omega
end Go.Proofs.YtnfelcjpjodjhaaGreat.Cmt

namespace Go.Proofs.YtnfelcjpjodjhaaGreat.Back
open Wd Lin Bytes Strs Cmt

def sw (q : Int) : Nat → List ByteArray → List W
  | _, [] => []
  | k, s :: r => (bs s, q, (k : Int) + 1) :: sw q (k + s.size + 1) r
def tl (q : Int) : List (List ByteArray) → List (List W)
  | [] => []
  | L :: r => sw q 0 L :: tl (q + 1) r
/-- all are words -/
def AllFine (L : List ByteArray) : Prop := ∀ s ∈ L, Fine (bs s)
theorem sj_head (r : List ByteArray) (b : UInt8) (h : (sj false r).head? = some b) : plain b = false := by
  cases r with
  | nil => simp [sj] at h
  | cons s r => simp [sj] at h; subst h; decide
theorem wst_rest (q : Int) : ∀ (r : List ByteArray) (L0 : List W) (k : Nat), AllFine r → wst q L0 false k (sj false r) = L0 ++ sw q (k + 1) r
  | [], L0, k, _ => by simp [sj, wst, sw]
  | s :: r, L0, k, h => by
    have e : sj false (s :: r) = 32 :: (bs s ++ sj false r) := by simp [sj]
    rw [e, wst_skip _ _ _ _ _ _ (by decide), wst_fine q (bs s) (sj false r) L0 (k + 1) (h s List.mem_cons_self) (fun b hb => sj_head r b hb), wst_rest q r _ _ (fun v hv => h v (List.mem_cons_of_mem _ hv))]
    simp only [sw, List.append_assoc, List.singleton_append, bs_length]
theorem wst_sj (q : Int) (L : List ByteArray) (h : AllFine L) (hn : L ≠ []) : wst q [] false 0 (sj true L) = sw q 0 L := by
  cases L with
  | nil => exact absurd rfl hn
  | cons s r =>
    have e : sj true (s :: r) = bs s ++ sj false r := by simp [sj]
    rw [e, wst_fine q (bs s) (sj false r) [] 0 (h s List.mem_cons_self) (fun b hb => sj_head r b hb), wst_rest q r _ _ (fun v hv => h v (List.mem_cons_of_mem _ hv))]
    simp only [sw, List.nil_append, List.singleton_append, bs_length, Nat.zero_add]
    try rfl
theorem sj_mem : ∀ (f : Bool) (L : List ByteArray), AllFine L → ∀ b ∈ sj f L, plain b = true ∨ b = 32
  | f, [], _, b, hb => by simp [sj] at hb
  | f, s :: r, h, b, hb => by
    simp only [sj, List.mem_append] at hb
    rcases hb with hb | hb | hb
    · cases f
      · simp at hb; exact .inr hb
      · simp at hb
    · exact .inl (fine_mem (h s List.mem_cons_self) b hb)
    · exact sj_mem false r (fun v hv => h v (List.mem_cons_of_mem _ hv)) b hb
theorem sw_len (q : Int) : ∀ (L : List ByteArray) (k : Nat), (sw q k L).length = L.length
  | [], _ => rfl
  | s :: r, k => by simp only [sw, List.length_cons, sw_len q r]
theorem line_sj (q : Int) (L : List ByteArray) (h : AllFine L) (h1 : 1 ≤ L.length) (h2 : L.length ≤ 64) : lineErr q (sj true L) = 0 ∧ lineWords q (sj true L) = sw q 0 L := by
  have hm := sj_mem true L h
  have hc : code (sj true L) = sj true L := by
    have := tw_app (p := (· != 35)) [] (sj true L) (fun b hb => by
      rcases hm b hb with h | rfl
      · simpa using (plain_ne b h).1
      · decide)
    simpa [code] using this
  have hb : bad (sj true L) = false := by
    unfold bad
    rw [hc, List.any_eq_false]
    intro b hb
    rcases hm b hb with h | rfl
    · simp [(plain_ne b h).2.2]
    · decide
  have hw : lineWords q (sj true L) = sw q 0 L := by
    unfold lineWords
    rw [hc]
    exact wst_sj q L h (fun e => by rw [e] at h1; simp at h1)
  refine ⟨?_, hw⟩
  unfold lineErr
  rw [hb, hw, sw_len]
  have : ¬ 64 < L.length := by omega
  simp [this]
theorem go_jt : ∀ (LL : List (List ByteArray)) (T : List (List W)) (q : Int), (∀ L ∈ LL, AllFine L ∧ 1 ≤ L.length ∧ L.length ≤ 64) → go T q (split (jt LL)) = (T ++ tl q LL, 0, 0)
  | [], T, q, _ => by simp only [jt, tl, List.append_nil]; exact go_empty T q
  | L :: LL, T, q, h => by
    obtain ⟨h0, h1, h2⟩ := h L List.mem_cons_self
    obtain ⟨e1, e2⟩ := line_sj q L h0 h1 h2
    simp only [jt]
    rw [split_line (sj true L) _ (fun b hb => by
      rcases sj_mem true L h0 b hb with hp | rfl
      · exact (plain_ne b hp).2.1
      · decide)]
    simp only [go, e1, e2, if_true, sw_len]
    rw [if_neg (by omega), go_jt LL _ (q + 1) (fun v hv => h v (List.mem_cons_of_mem _ hv))]
    simp only [tl, List.append_assoc, List.singleton_append]
theorem sj_len : ∀ (f : Bool) (L : List ByteArray), (sj f L).length ≤ wt L
  | f, [] => by simp [sj]
  | f, s :: r => by
    have := sj_len false r
    simp only [sj, wt, List.length_append, bs_length]
    have h1 : ((if f then [] else [32] : Bs)).length ≤ 1 := by cases f <;> simp
    omega
theorem jt_len : ∀ (LL : List (List ByteArray)), (jt LL).length ≤ wtL LL
  | [] => by simp [jt]
  | L :: r => by
    have := jt_len r
    have := sj_len true L
    simp only [jt, wtL, List.length_append, List.length_cons]; omega
theorem fine_word {l : Bs} (h : Fine l) : isWord l = true := by
  unfold isWord
  have : l.isEmpty = false := by
    cases l with
    | nil => exact absurd rfl h.1
    | cons _ _ => rfl
  rw [this, h.2]; rfl
theorem join_fine (LL : List (List ByteArray)) (h : ∀ L ∈ LL, AllFine L ∧ 1 ≤ L.length ∧ L.length ≤ 64) : joinT LL = jt LL := by
  unfold joinT
  rw [if_pos]
  rw [List.all_eq_true]
  intro L hL
  obtain ⟨h0, h1, h2⟩ := h L hL
  unfold okL
  rw [decide_eq_true h1, decide_eq_true h2, Bool.true_and, Bool.true_and, List.all_eq_true]
  exact fun s hs => fine_word (h0 s hs)
theorem lines_join (LL : List (List ByteArray)) (h : ∀ L ∈ LL, AllFine L ∧ 1 ≤ L.length ∧ L.length ≤ 64) (hs : wtL LL ≤ 65536) : linesOf (joinT LL) = (tl 1 LL, 0, 0) := by
  rw [join_fine LL h]
  unfold linesOf
  rw [if_neg (by have := jt_len LL; omega), go_jt LL [] 1 h, List.nil_append]
theorem tl_len : ∀ (LL : List (List ByteArray)) (q : Int), (tl q LL).length = LL.length
  | [], _ => rfl
  | L :: r, q => by simp only [tl, List.length_cons, tl_len r]
theorem tl_get : ∀ (LL : List (List ByteArray)) (q : Int) (k : Nat), (tl q LL)[k]? = LL[k]?.map fun L => sw (q + k) 0 L
  | [], q, k => by simp [tl]
  | L :: r, q, 0 => by simp [tl]
  | L :: r, q, k + 1 => by
    simp only [tl, List.getElem?_cons_succ]
    rw [tl_get r (q + 1) k]
    congr 1; funext v; congr 1; omega
theorem sw_get (q : Int) : ∀ (L : List ByteArray) (k j : Nat) (s : ByteArray), L[j]? = some s → ∃ c, (sw q k L)[j]? = some (bs s, q, c)
  | [], k, j, s, h => by simp at h
  | x :: r, k, 0, s, h => by simp at h; subst h; exact ⟨_, rfl⟩
  | x :: r, k, j + 1, s, h => by
    simp at h
    obtain ⟨c, hc⟩ := sw_get q r (k + x.size + 1) j s h
    exact ⟨c, by simpa [sw] using hc⟩
theorem wt_snoc (s : ByteArray) : ∀ L : List ByteArray, wt (L ++ [s]) = wt L + s.size + 1
  | [] => by simp [wt]
  | x :: r => by simp only [List.cons_append, wt, wt_snoc s r]; omega
theorem wtL_snoc (L : List ByteArray) : ∀ M : List (List ByteArray), wtL (M ++ [L]) = wtL M + wt L + 1
  | [] => by simp [wtL]
  | x :: r => by simp only [List.cons_append, wtL, wtL_snoc L r]; omega
end Go.Proofs.YtnfelcjpjodjhaaGreat.Back

namespace Go.Proofs
end Go.Proofs

namespace Go.Proofs.YtnfelcjpjodjhaaGreat.Mag
open Go.ChangeShapes Go.WideShapes Go.ChangeAt Go.RowKit Wd Small
set_option linter.unusedVariables false

theorem rets {a b : Int} {x y : Bool} (h : a = b) (h2 : x = y) : Ending.returned (.tuple #[.int .i64 a, .bool x]) = Ending.returned (.tuple #[.int .i64 b, .bool y]) := by rw [h, h2]
theorem mag_no {l : Bs} (h : magOK l = false) : magnitude l = 0 := by simp [magnitude, h]
theorem mag_yes {l : Bs} (h : magOK l = true) : magnitude l = value 0 l := by simp [magnitude, h]

theorem bs_head (s : ByteArray) (h : 0 < s.size) : ∃ r, bs s = s[0] :: r ∧ r.length + 1 = s.size := by
  have e := bs_drop s 0 h
  rw [List.drop_zero] at e
  refine ⟨_, e, ?_⟩
  have hl := bs_length s
  rw [e] at hl
  simpa using hl
theorem ok_start (s : ByteArray) (h1 : 1 ≤ s.size) (h2 : s.size ≤ 1 ∨ ((s[0].toNat : Int) == 48) = false) :
    magOK (bs s) = (((bs s).drop 0).all digit && decide (value 0 ((bs s).drop 0) ≤ 1099511627776)) := by
  obtain ⟨r, e, hr⟩ := bs_head s (by omega)
  rw [List.drop_zero, e]
  have : (s[0] == 48 && decide (1 < (s[0] :: r).length)) = false := by
    rcases h2 with h2 | h2
    · have : ¬ 1 < r.length + 1 := by omega
      simp only [List.length_cons, decide_eq_false this, Bool.and_false]
    · have : (s[0] == 48) = false := by
        rw [beq_eq_false_iff_ne] at h2 ⊢
        intro e; apply h2; rw [e]; rfl
      simp only [this, Bool.false_and]
  simp only [magOK, List.head?_cons, List.isEmpty_cons, Bool.not_false, Bool.true_and, Option.some_beq_some, this]
theorem ok_lead (s : ByteArray) (h1 : 1 < s.size) (h2 : ((s[0].toNat : Int) == 48) = true) : magOK (bs s) = false := by
  obtain ⟨r, e, hr⟩ := bs_head s (by omega)
  have h3 : s[0] = 48 := UInt8.toNat_inj.1 (by have := eq_of_beq h2; simp; omega)
  rw [e, h3]
  have : (1 < r.length + 1) = True := by simp; omega
  simp only [magOK, List.head?_cons, List.length_cons, beq_self_eq_true, this, decide_true, Bool.and_self, Bool.not_true, Bool.and_false, Bool.false_and]
theorem ok_empty (s : ByteArray) (h : s.size = 0) : bs s = [] := List.eq_nil_of_length_eq_zero (by rw [bs_length]; exact h)

theorem ok_digit (s : ByteArray) (k : Nat) (v : Int) (hk : k < s.size) (hd : digit s[k] = true) (h : magOK (bs s) = (((bs s).drop k).all digit && decide (value v ((bs s).drop k) ≤ 1099511627776))) (hv : value 0 (bs s) = value v ((bs s).drop k)) :
    magOK (bs s) = (((bs s).drop (k + 1)).all digit && decide (value (10 * v + ((s[k].toNat : Int) - 48)) ((bs s).drop (k + 1)) ≤ 1099511627776)) ∧ value 0 (bs s) = value (10 * v + ((s[k].toNat : Int) - 48)) ((bs s).drop (k + 1)) := by
  rw [bs_drop s k hk] at h hv
  constructor
  · rw [h]; simp only [value, List.all_cons, hd, Bool.true_and]; try rfl
  · rw [hv]; rfl
theorem ok_stop (s : ByteArray) (k : Nat) (v : Int) (hk : k < s.size) (hd : digit s[k] = false) (h : magOK (bs s) = (((bs s).drop k).all digit && decide (value v ((bs s).drop k) ≤ 1099511627776))) : magOK (bs s) = false := by
  rw [bs_drop s k hk] at h
  rw [h]
  simp [hd]
theorem ok_big (l m : Bs) (v : Int) (h0 : 0 ≤ v) (hv : 1099511627776 < v) (h : magOK l = (m.all digit && decide (value v m ≤ 1099511627776))) : magOK l = false := by
  rw [h]
  cases ha : m.all digit with
  | false => rfl
  | true =>
    have := value_ge m v h0 ha
    simp; omega

end Go.Proofs.YtnfelcjpjodjhaaGreat.Mag

namespace Go.Proofs.YtnfelcjpjodjhaaGreat.Num
open Go.ChangeShapes Go.WideShapes Go.ChangeAt Go.RowKit Wd Small Mag
set_option linter.unusedVariables false

theorem prefix_yes (s : ByteArray) (h : minus (bs s) = true) : (⟨(Lib.trimPrefix s.data.toList [45]).toArray⟩ : ByteArray) = str ((bs s).drop 1) ∧ Lib.hasPrefix s.data.toList [45] = true := by
  have h2 : Lib.hasPrefix (bs s) [45] = true := by
    unfold minus at h
    match bs s, h with
    | b :: r, h => simp at h; subst h; simp [Lib.hasPrefix]
  have h3 : Lib.hasPrefix s.data.toList [45] = true := h2
  refine ⟨?_, h2⟩
  simp only [Lib.trimPrefix, h3, if_true, str]; rfl
theorem prefix_no (s : ByteArray) (h : minus (bs s) = false) : (⟨(Lib.trimPrefix s.data.toList [45]).toArray⟩ : ByteArray) = s ∧ Lib.hasPrefix s.data.toList [45] = false := by
  have h2 : Lib.hasPrefix (bs s) [45] = false := by
    unfold minus at h
    match bs s, h with
    | [], h => simp [Lib.hasPrefix]
    | b :: r, h => simp at h; simp [Lib.hasPrefix, List.isPrefixOf]; exact fun e => h e.symm
  have h3 : Lib.hasPrefix s.data.toList [45] = false := h2
  refine ⟨?_, h2⟩
  simp only [Lib.trimPrefix, h3, Bool.false_eq_true, if_false]

theorem num_minus {l : Bs} (h : minus l = true) : number l = - magnitude (l.drop 1) ∧ numOK l = (magOK (l.drop 1) && !decide (magnitude (l.drop 1) = 0)) := by simp [number, numOK, h]
theorem num_plain {l : Bs} (h : minus l = false) : number l = magnitude l ∧ numOK l = magOK l := by simp [number, numOK, h]

theorem mag_range (l : Bs) : 0 ≤ magnitude l ∧ magnitude l ≤ 1099511627776 := by
  unfold magnitude
  split
  · rename_i h
    simp only [magOK, Bool.and_eq_true, decide_eq_true_eq] at h
    exact ⟨value_ge l 0 (by omega) h.1.2, h.2⟩
  · omega
theorem num_range (l : Bs) : -1099511627776 ≤ number l ∧ number l ≤ 1099511627776 := by
  have h1 := mag_range l
  have h2 := mag_range (l.drop 1)
  unfold number
  split <;> omega

theorem num_empty (s : ByteArray) (h : s.size = 0) : number (bs s) = 0 ∧ numOK (bs s) = false := by
  rw [ok_empty s h]; exact ⟨rfl, rfl⟩
theorem minus_of (s : ByteArray) (h : 0 < s.size) (h2 : ((s[0].toNat : Int) == 45) = true) : minus (bs s) = true := by
  obtain ⟨r, e, hr⟩ := bs_head s h
  have h3 : s[0] = 45 := UInt8.toNat_inj.1 (by have := eq_of_beq h2; simp; omega)
  rw [e, h3]; rfl
theorem minus_not (s : ByteArray) (h : 0 < s.size) (h2 : ((s[0].toNat : Int) == 45) = false) : minus (bs s) = false := by
  obtain ⟨r, e, hr⟩ := bs_head s h
  rw [e]
  simp only [minus, List.head?_cons, Option.some_beq_some]
  rw [beq_eq_false_iff_ne] at h2 ⊢
  intro e; apply h2; rw [e]; rfl
theorem no_of_mag {l m : Bs} (hm : minus l = true) (he : m = l.drop 1) (h : magOK m = false) : number l = 0 ∧ numOK l = false := by
  subst he
  obtain ⟨e1, e2⟩ := num_minus hm
  rw [e1, e2, h, mag_no h]; exact ⟨rfl, rfl⟩
theorem no_of_zero {l m : Bs} (hm : minus l = true) (he : m = l.drop 1) (h : m.head? = some 48) : number l = 0 ∧ numOK l = false := by
  subst he
  obtain ⟨e1, e2⟩ := num_minus hm
  cases ho : magOK (l.drop 1) with
  | false => exact no_of_mag hm rfl ho
  | true =>
    have := (mag_pos _ ho).2 h
    rw [e1, e2, mag_yes ho, this]; exact ⟨rfl, by simp⟩
theorem no_plain {l : Bs} (hm : minus l = false) (h : magOK l = false) : number l = 0 ∧ numOK l = false := by
  obtain ⟨e1, e2⟩ := num_plain hm
  rw [e1, e2, h, mag_no h]; exact ⟨rfl, rfl⟩
theorem long_no (l : Bs) (h : 13 < l.length) : magOK l = false := by
  cases ho : magOK l with
  | false => rfl
  | true => have := magOK_short l ho; omega
theorem head_48 (s : ByteArray) (h : 0 < s.size) (h2 : (s[0].toNat : Int) = 48) : (bs s).head? = some 48 := by
  obtain ⟨r, e, hr⟩ := bs_head s h
  have h3 : s[0] = 48 := UInt8.toNat_inj.1 (by simp; omega)
  rw [e, h3]; rfl
theorem head_not (s : ByteArray) (h : 0 < s.size) (h2 : ¬ (s[0].toNat : Int) = 48) : (bs s).head? ≠ some 48 := by
  obtain ⟨r, e, hr⟩ := bs_head s h
  rw [e]
  simp only [List.head?_cons, ne_eq, Option.some.injEq]
  intro e; apply h2; rw [e]; rfl
theorem mag_of (l : Bs) (h0 : l ≠ []) (h1 : l.head? ≠ some 48 ∨ l.length ≤ 1) (h2 : l.all digit = true) : magOK l = decide (value 0 l ≤ 1099511627776) := by
  have : (l.head? == some 48 && decide (1 < l.length)) = false := by
    rcases h1 with h1 | h1
    · rw [beq_eq_false_iff_ne.2 h1, Bool.false_and]
    · rw [decide_eq_false (by omega : ¬ 1 < l.length), Bool.and_false]
  have h3 : l.isEmpty = false := by simpa using h0
  simp only [magOK, this, h2, h3, Bool.not_false, Bool.true_and]
theorem all_no (l : Bs) (h : l.all digit = false) : magOK l = false := by
  simp [magOK, h]
theorem pow_le (k : Nat) (h : k ≤ 12) (a : Int) (h2 : a < 10 ^ k) : a < 1000000000000 := by
  have h1 : (10 : Nat) ^ k ≤ 10 ^ 12 := Nat.pow_le_pow_right (by decide) h
  have h3 : ((10 : Int)) ^ k ≤ 10 ^ 12 := by exact_mod_cast h1
  omega
theorem pow_next (k : Nat) (a d : Int) (h2 : a < 10 ^ k) (hd : d ≤ 9) : 10 * a + d < 10 ^ (k + 1) := by
  rw [Int.pow_succ]; omega
theorem pow_13 (k : Nat) (h : k ≤ 13) (a : Int) (h2 : a < 10 ^ k) : a < 10000000000000 := by
  have h1 : (10 : Nat) ^ k ≤ 10 ^ 13 := Nat.pow_le_pow_right (by decide) h
  have h3 : ((10 : Int)) ^ k ≤ 10 ^ 13 := by exact_mod_cast h1
  omega
theorem dig_step (t : ByteArray) (k : Nat) (a : Int) (hk : k < t.size) (hd : digit t[k] = true) (h1 : (bs t).all digit = ((bs t).drop k).all digit) (h2 : value 0 (bs t) = value a ((bs t).drop k)) :
    (bs t).all digit = ((bs t).drop (k + 1)).all digit ∧ value 0 (bs t) = value (10 * a + ((t[k].toNat : Int) - 48)) ((bs t).drop (k + 1)) := by
  rw [bs_drop t k hk] at h1 h2
  rw [h1, h2]
  simp only [List.all_cons, hd, Bool.true_and]
  exact ⟨by trivial, rfl⟩
theorem dig_stop (t : ByteArray) (k : Nat) (hk : k < t.size) (hd : digit t[k] = false) (h1 : (bs t).all digit = ((bs t).drop k).all digit) : (bs t).all digit = false := by
  rw [bs_drop t k hk] at h1
  rw [h1]
  simp only [List.all_cons, hd, Bool.false_and]
theorem dig_end (t : ByteArray) (k : Nat) (a : Int) (hk : ¬ k < t.size) (h1 : (bs t).all digit = ((bs t).drop k).all digit) (h2 : value 0 (bs t) = value a ((bs t).drop k)) :
    (bs t).all digit = true ∧ value 0 (bs t) = a := by
  rw [bs_drop_nil t k (by omega)] at h1 h2
  exact ⟨h1, h2⟩

set_option maxHeartbeats 1000000 in
theorem r_num (s : ByteArray) (w : World) (hs : s.size ≤ 9223372036854775807) : Calls Tryz.prog 94 #[.string s] w fun e w' => e = .returned (.tuple #[.int .i64 (number (bs s)), .bool (numOK (bs s))]) ∧ w = w' := by
  by_cases hz : s.size = 0
  · have HR := Lib.hid (num_empty s hz)
    have hs0 : s = ByteArray.empty := bs_ext (by rw [ok_empty s hz]; rfl)
    subst hs0
    go_enter Tryz.func94, Tryz.ntmps94
    go_wp2_with fail
    go_ret2
    exact ⟨rets HR.out.1.symm HR.out.2.symm, rfl⟩
  have hpos : 0 < s.size := by omega
  cases h45 : ((s[0].toNat : Int) == 45) with
  | true =>
    obtain ⟨t, ht, hbt, htz⟩ : ∃ t, s.extract 1 s.size = t ∧ bs t = (bs s).drop 1 ∧ s.size - 1 = t.size := by
      refine ⟨_, rfl, ?_, by simp⟩
      rw [bs_extract, List.take_of_length_le (by rw [List.length_drop, bs_length]; omega)]
    have HM := Lib.hid (minus_of s hpos h45)
    have HB := Lib.hid hbt
    clear hbt
    go_enter Tryz.func94, Tryz.ntmps94
    go_wp2_with fail
    · have HQ := Lib.hid (no_of_zero HM.out HB.out (head_48 t (by omega) (by assumption)))
      go_ret2
      exact ⟨rets HQ.out.1.symm HQ.out.2.symm, rfl⟩
    · have HQ := Lib.hid (no_of_zero HM.out HB.out (head_48 t (by omega) (by assumption)))
      go_ret2
      exact ⟨rets HQ.out.1.symm HQ.out.2.symm, rfl⟩
    · have HH := Lib.hid (head_not t (by omega) (by assumption))
      have HF : Hid ((bs t).head? ≠ some 48 ∨ (bs t).length ≤ 1) := .inl HH.out
      have HNE : Hid (bs t ≠ []) := fun e => by have := bs_length t; rw [e] at this; simp at this; omega
      have hsz : t.size ≤ 13 := by omega
      go_loopw [6, 7] (fun v i wr => ∃ (k : Nat) (a : Int), k ≤ t.size ∧ 0 ≤ a ∧ v = .int .i64 a ∧ i = .int .i64 k ∧ Hid (a < 10 ^ k) ∧ Hid ((bs t).all digit = ((bs t).drop k).all digit) ∧ Hid (value 0 (bs t) = value a ((bs t).drop k)) ∧ w = wr) (fun _ i _ => t.size - (intOf i).toNat)
      case atStart => exact ⟨0, 0, by omega, by omega, rfl, rfl, by simp [Hid], rfl, rfl, rfl⟩
      case round =>
        obtain ⟨k, a, hk, ha0, rfl, rfl, HP, HA, HV, rfl⟩ := hrel
        have ha13 := pow_13 k (by omega) a HP.out
        by_cases hlt : k < t.size
        · have ha := pow_le k (by omega) a HP.out
          cases hd : digit t[k] with
          | false =>
            have HQ := Lib.hid (no_of_mag HM.out HB.out (all_no _ (dig_stop t k hlt hd HA.out)))
            clear HA HV HP
            go_wp2_with (go_at_call 116; refine (r_digit _ _).mono ?_; rintro e w' ⟨rfl, rfl⟩; rw [hd])
            go_ret2
            exact ⟨rets HQ.out.1.symm HQ.out.2.symm, rfl⟩
          | true =>
            obtain ⟨q1, q2⟩ := dig_step t k a hlt hd HA.out HV.out
            have HA2 := Lib.hid q1
            have HV2 := Lib.hid q2
            have hb := (digit_iff _).1 hd
            have HP2 := Lib.hid (pow_next k a ((t[k].toNat : Int) - 48) HP.out (by omega))
            clear HA HV HP q1 q2
            go_wp2_with (go_at_call 116; refine (r_digit _ _).mono ?_; rintro e w' ⟨rfl, rfl⟩; rw [hd])
            go_roundw
            case rel => exact ⟨k + 1, _, by omega, by omega, rfl, by go_num, HP2, HA2, HV2, by trivial⟩
            case measure => simp [intOf]; omega
        · obtain ⟨q1, q2⟩ := dig_end t k a hlt HA.out HV.out
          have q3 := mag_of (bs t) HNE.out HF.out q1
          rw [q2] at q3
          have HO := Lib.hid q3
          have HV2 := Lib.hid q2
          clear HA HV HP q1 q2 q3
          go_wp2_with fail
          · have hbig : 1099511627776 < a := by assumption
            have HQ := Lib.hid (no_of_mag HM.out HB.out (HO.out.trans (decide_eq_false (by omega))))
            go_ret2
            exact ⟨rets HQ.out.1.symm HQ.out.2.symm, rfl⟩
          · have hsm : a ≤ 1099511627776 := by assumption
            have ho := HO.out.trans (decide_eq_true hsm)
            have hmag := (mag_yes ho).trans HV2.out
            have HQ : Hid (number (bs s) = -a ∧ numOK (bs s) = true) := by
              obtain ⟨n1, n2⟩ := num_minus HM.out
              rw [← HB.out] at n1 n2
              rw [hmag] at n1 n2
              refine ⟨n1, ?_⟩
              rw [n2, ho]
              have : ¬ a = 0 := fun e => by
                have h48 := (mag_pos _ ho).1 (HV2.out.trans e)
                exact HH.out h48
              simp [this]
            clear ho hmag
            go_ret2
            exact ⟨rets (by rw [HQ.out.1]; try omega) HQ.out.2.symm, rfl⟩
    · have HQ := Lib.hid (no_of_mag HM.out HB.out (long_no _ (by rw [bs_length]; omega)))
      go_ret2
      exact ⟨rets HQ.out.1.symm HQ.out.2.symm, rfl⟩
    · have HQ := Lib.hid (no_of_mag HM.out HB.out (by rw [ok_empty t (by omega)]; rfl))
      go_ret2
      exact ⟨rets HQ.out.1.symm HQ.out.2.symm, rfl⟩
  | false =>
    have HM := Lib.hid (minus_not s hpos h45)
    go_enter Tryz.func94, Tryz.ntmps94
    go_wp2_with fail
    · have HF : Hid ((bs s).head? ≠ some 48 ∨ (bs s).length ≤ 1) := .inr (by rw [bs_length]; omega)
      have HNE : Hid (bs s ≠ []) := fun e => by have := bs_length s; rw [e] at this; simp at this; omega
      have hsz : s.size ≤ 13 := by omega
      go_loopw [6, 7] (fun v i wr => ∃ (k : Nat) (a : Int), k ≤ s.size ∧ 0 ≤ a ∧ v = .int .i64 a ∧ i = .int .i64 k ∧ Hid (a < 10 ^ k) ∧ Hid ((bs s).all digit = ((bs s).drop k).all digit) ∧ Hid (value 0 (bs s) = value a ((bs s).drop k)) ∧ w = wr) (fun _ i _ => s.size - (intOf i).toNat)
      case atStart => exact ⟨0, 0, by omega, by omega, rfl, rfl, by simp [Hid], rfl, rfl, rfl⟩
      case round =>
        obtain ⟨k, a, hk, ha0, rfl, rfl, HP, HA, HV, rfl⟩ := hrel
        have ha13 := pow_13 k (by omega) a HP.out
        by_cases hlt : k < s.size
        · have ha := pow_le k (by omega) a HP.out
          cases hd : digit s[k] with
          | false =>
            have HQ := Lib.hid (no_plain HM.out (all_no _ (dig_stop s k hlt hd HA.out)))
            clear HA HV HP
            go_wp2_with (go_at_call 116; refine (r_digit _ _).mono ?_; rintro e w' ⟨rfl, rfl⟩; rw [hd])
            go_ret2
            exact ⟨rets HQ.out.1.symm HQ.out.2.symm, rfl⟩
          | true =>
            obtain ⟨q1, q2⟩ := dig_step s k a hlt hd HA.out HV.out
            have HA2 := Lib.hid q1
            have HV2 := Lib.hid q2
            have hb := (digit_iff _).1 hd
            have HP2 := Lib.hid (pow_next k a ((s[k].toNat : Int) - 48) HP.out (by omega))
            clear HA HV HP q1 q2
            go_wp2_with (go_at_call 116; refine (r_digit _ _).mono ?_; rintro e w' ⟨rfl, rfl⟩; rw [hd])
            go_roundw
            case rel => exact ⟨k + 1, _, by omega, by omega, rfl, by go_num, HP2, HA2, HV2, by trivial⟩
            case measure => simp [intOf]; omega
        · obtain ⟨q1, q2⟩ := dig_end s k a hlt HA.out HV.out
          have q3 := mag_of (bs s) HNE.out HF.out q1
          rw [q2] at q3
          have HO := Lib.hid q3
          have HV2 := Lib.hid q2
          clear HA HV HP q1 q2 q3
          go_wp2_with fail
          · have hbig : 1099511627776 < a := by assumption
            have HQ := Lib.hid (no_plain HM.out (HO.out.trans (decide_eq_false (by omega))))
            go_ret2
            exact ⟨rets HQ.out.1.symm HQ.out.2.symm, rfl⟩
          · have hsm : a ≤ 1099511627776 := by assumption
            have ho := HO.out.trans (decide_eq_true hsm)
            have hmag := (mag_yes ho).trans HV2.out
            have HQ : Hid (number (bs s) = a ∧ numOK (bs s) = true) := by
              obtain ⟨n1, n2⟩ := num_plain HM.out
              exact ⟨n1.trans hmag, n2.trans ho⟩
            clear ho hmag
            go_ret2
            exact ⟨rets (by rw [HQ.out.1]; try omega) HQ.out.2.symm, rfl⟩
    · have HQ := Lib.hid (no_plain HM.out (ok_lead s (by omega) (by rw [beq_iff_eq]; assumption)))
      go_ret2
      exact ⟨rets HQ.out.1.symm HQ.out.2.symm, rfl⟩
    · have HF : Hid ((bs s).head? ≠ some 48 ∨ (bs s).length ≤ 1) := .inl (head_not s (by omega) (by assumption))
      have HNE : Hid (bs s ≠ []) := fun e => by have := bs_length s; rw [e] at this; simp at this; omega
      have hsz : s.size ≤ 13 := by omega
      go_loopw [6, 7] (fun v i wr => ∃ (k : Nat) (a : Int), k ≤ s.size ∧ 0 ≤ a ∧ v = .int .i64 a ∧ i = .int .i64 k ∧ Hid (a < 10 ^ k) ∧ Hid ((bs s).all digit = ((bs s).drop k).all digit) ∧ Hid (value 0 (bs s) = value a ((bs s).drop k)) ∧ w = wr) (fun _ i _ => s.size - (intOf i).toNat)
      case atStart => exact ⟨0, 0, by omega, by omega, rfl, rfl, by simp [Hid], rfl, rfl, rfl⟩
      case round =>
        obtain ⟨k, a, hk, ha0, rfl, rfl, HP, HA, HV, rfl⟩ := hrel
        have ha13 := pow_13 k (by omega) a HP.out
        by_cases hlt : k < s.size
        · have ha := pow_le k (by omega) a HP.out
          cases hd : digit s[k] with
          | false =>
            have HQ := Lib.hid (no_plain HM.out (all_no _ (dig_stop s k hlt hd HA.out)))
            clear HA HV HP
            go_wp2_with (go_at_call 116; refine (r_digit _ _).mono ?_; rintro e w' ⟨rfl, rfl⟩; rw [hd])
            go_ret2
            exact ⟨rets HQ.out.1.symm HQ.out.2.symm, rfl⟩
          | true =>
            obtain ⟨q1, q2⟩ := dig_step s k a hlt hd HA.out HV.out
            have HA2 := Lib.hid q1
            have HV2 := Lib.hid q2
            have hb := (digit_iff _).1 hd
            have HP2 := Lib.hid (pow_next k a ((s[k].toNat : Int) - 48) HP.out (by omega))
            clear HA HV HP q1 q2
            go_wp2_with (go_at_call 116; refine (r_digit _ _).mono ?_; rintro e w' ⟨rfl, rfl⟩; rw [hd])
            go_roundw
            case rel => exact ⟨k + 1, _, by omega, by omega, rfl, by go_num, HP2, HA2, HV2, by trivial⟩
            case measure => simp [intOf]; omega
        · obtain ⟨q1, q2⟩ := dig_end s k a hlt HA.out HV.out
          have q3 := mag_of (bs s) HNE.out HF.out q1
          rw [q2] at q3
          have HO := Lib.hid q3
          have HV2 := Lib.hid q2
          clear HA HV HP q1 q2 q3
          go_wp2_with fail
          · have hbig : 1099511627776 < a := by assumption
            have HQ := Lib.hid (no_plain HM.out (HO.out.trans (decide_eq_false (by omega))))
            go_ret2
            exact ⟨rets HQ.out.1.symm HQ.out.2.symm, rfl⟩
          · have hsm : a ≤ 1099511627776 := by assumption
            have ho := HO.out.trans (decide_eq_true hsm)
            have hmag := (mag_yes ho).trans HV2.out
            have HQ : Hid (number (bs s) = a ∧ numOK (bs s) = true) := by
              obtain ⟨n1, n2⟩ := num_plain HM.out
              exact ⟨n1.trans hmag, n2.trans ho⟩
            clear ho hmag
            go_ret2
            exact ⟨rets (by rw [HQ.out.1]; try omega) HQ.out.2.symm, rfl⟩
    · have HQ := Lib.hid (no_plain HM.out (long_no _ (by rw [bs_length]; omega)))
      go_ret2
      exact ⟨rets HQ.out.1.symm HQ.out.2.symm, rfl⟩

end Go.Proofs.YtnfelcjpjodjhaaGreat.Num

namespace Go.Proofs.YtnfelcjpjodjhaaGreat.Dec
open Go.ChangeShapes Go.WideShapes Go.ChangeAt Go.RowKit Wd Small Mag Num
set_option linter.unusedVariables false

def dig (q : Nat) : UInt8 := UInt8.ofNat (48 + q)
theorem dig_nat (q : Nat) (h : q < 10) : (dig q).toNat = 48 + q := by
  unfold dig
  rw [UInt8.toNat_ofNat']
  omega
/-- the digits of a number, none for 0 -/
def dz (a : Nat) : Bs := if h : a = 0 then [] else dz (a / 10) ++ [dig (a % 10)]
termination_by a
decreasing_by omega
theorem dz_zero : dz 0 = [] := by unfold dz; simp
theorem dz_step (a : Nat) (h : 0 < a) : dz a = dz (a / 10) ++ [dig (a % 10)] := by
  conv => lhs; unfold dz
  rw [dif_neg (by omega)]
def dec (n : Int) : Bs := if n = 0 then [48] else if n < 0 then 45 :: dz n.natAbs else dz n.natAbs

theorem value_snoc : ∀ (l : Bs) (v : Int) (b : UInt8), value v (l ++ [b]) = 10 * value v l + ((b.toNat : Int) - 48)
  | [], v, b => rfl
  | c :: l, v, b => by simp only [List.cons_append, value]; exact value_snoc l _ b
theorem dz_value (a : Nat) : value 0 (dz a) = a := by
  induction a using Nat.strongRecOn with
  | _ a ih =>
    by_cases h : a = 0
    · subst h; rw [dz_zero]; rfl
    · rw [dz_step a (by omega), value_snoc, ih (a / 10) (by omega), dig_nat _ (by omega)]
      omega
theorem dz_digits (a : Nat) : (dz a).all digit = true := by
  induction a using Nat.strongRecOn with
  | _ a ih =>
    by_cases h : a = 0
    · subst h; rw [dz_zero]; rfl
    · rw [dz_step a (by omega), List.all_append, ih (a / 10) (by omega)]
      have := dig_nat (a % 10) (by omega)
      simp [digit, this]; omega
theorem dz_ne (a : Nat) (h : 0 < a) : dz a ≠ [] := by rw [dz_step a h]; simp
theorem dz_head (a : Nat) (h : 0 < a) : ∃ q r, dz a = dig q :: r ∧ 0 < q ∧ q < 10 := by
  induction a using Nat.strongRecOn with
  | _ a ih =>
    rw [dz_step a h]
    by_cases h10 : a < 10
    · rw [show a / 10 = 0 by omega, dz_zero]
      exact ⟨a % 10, [], rfl, by omega, by omega⟩
    · obtain ⟨q, r, e, h1, h2⟩ := ih (a / 10) (by omega) (by omega)
      exact ⟨q, r ++ [dig (a % 10)], by rw [e]; rfl, h1, h2⟩
theorem dz_len (k : Nat) : ∀ a, a < 10 ^ k → (dz a).length ≤ k := by
  induction k with
  | zero => intro a h; have : a = 0 := by simpa using h
            subst this; rw [dz_zero]; simp
  | succ k ih =>
    intro a h
    by_cases h0 : a = 0
    · subst h0; rw [dz_zero]; simp
    · rw [dz_step a (by omega), List.length_append, List.length_singleton]
      have := ih (a / 10) (by rw [Nat.pow_succ] at h; omega)
      omega
theorem dz_mag (a : Nat) (h : 0 < a) : magOK (dz a) = decide ((a : Int) ≤ 1099511627776) := by
  obtain ⟨q, r, e, h1, h2⟩ := dz_head a h
  have hne : (dz a).head? ≠ some 48 := by
    rw [e]
    simp only [List.head?_cons, ne_eq, Option.some.injEq]
    intro e2
    have := dig_nat q h2
    rw [e2] at this
    have h48 : (48 : UInt8).toNat = 48 := rfl
    omega
  rw [mag_of (dz a) (dz_ne a h) (.inl hne) (dz_digits a), dz_value]
theorem dz_minus (a : Nat) (h : 0 < a) : minus (dz a) = false := by
  obtain ⟨q, r, e, h1, h2⟩ := dz_head a h
  rw [e]
  simp only [minus, List.head?_cons, Option.some_beq_some]
  rw [beq_eq_false_iff_ne]
  intro e2
  have := dig_nat q h2
  rw [e2] at this
  have h45 : (45 : UInt8).toNat = 45 := rfl
  omega
/-- the decimal representation of a number denotes it, up to the limit, and nothing beyond -/
theorem dec_num (n : Int) : numOK (dec n) = decide (-1099511627776 ≤ n ∧ n ≤ 1099511627776) ∧ (-1099511627776 ≤ n ∧ n ≤ 1099511627776 → number (dec n) = n) ∧ (¬ (-1099511627776 ≤ n ∧ n ≤ 1099511627776) → number (dec n) = 0) := by
  by_cases h0 : n = 0
  · subst h0
    exact ⟨by decide, fun _ => by decide, fun h => absurd ⟨by decide, by decide⟩ h⟩
  · have hp : 0 < n.natAbs := by omega
    have hm := dz_mag n.natAbs hp
    by_cases hn : n < 0
    · have e : dec n = 45 :: dz n.natAbs := by rw [dec, if_neg h0, if_pos hn]
      have hmin : minus (dec n) = true := by rw [e]; rfl
      obtain ⟨e1, e2⟩ := num_minus hmin
      have ed : (dec n).drop 1 = dz n.natAbs := by rw [e]; rfl
      rw [ed] at e1 e2
      rw [e1, e2, hm]
      by_cases hb : -1099511627776 ≤ n ∧ n ≤ 1099511627776
      · have hd : decide ((n.natAbs : Int) ≤ 1099511627776) = true := by simp; omega
        have hv := mag_yes (hm.trans hd)
        rw [dz_value] at hv
        rw [hd, hv]
        refine ⟨?_, fun _ => by omega, fun h => absurd hb h⟩
        rw [decide_eq_true hb]
        simp; omega
      · have hd : decide ((n.natAbs : Int) ≤ 1099511627776) = false := by simp; omega
        have hv := mag_no (hm.trans hd)
        rw [hd, hv, decide_eq_false hb]
        exact ⟨rfl, fun h => absurd h hb, fun _ => rfl⟩
    · have e : dec n = dz n.natAbs := by rw [dec, if_neg h0, if_neg hn]
      obtain ⟨e1, e2⟩ := num_plain (dz_minus n.natAbs hp)
      rw [e, e1, e2, hm]
      by_cases hb : -1099511627776 ≤ n ∧ n ≤ 1099511627776
      · have hd : decide ((n.natAbs : Int) ≤ 1099511627776) = true := by simp; omega
        have hv := mag_yes (hm.trans hd)
        rw [dz_value] at hv
        rw [hd, hv, decide_eq_true hb]
        exact ⟨rfl, fun _ => by omega, fun h => absurd hb h⟩
      · have hd : decide ((n.natAbs : Int) ≤ 1099511627776) = false := by simp; omega
        have hv := mag_no (hm.trans hd)
        rw [hd, hv, decide_eq_false hb]
        exact ⟨rfl, fun h => absurd h hb, fun _ => rfl⟩

theorem digits_at (q : Nat) (h : q < 10) : (⟨#[48, 49, 50, 51, 52, 53, 54, 55, 56, 57]⟩ : ByteArray).extract q (q + 1) = str [dig q] := by
  match q, h with
  | 0, _ => rfl
  | 1, _ => rfl
  | 2, _ => rfl
  | 3, _ => rfl
  | 4, _ => rfl
  | 5, _ => rfl
  | 6, _ => rfl
  | 7, _ => rfl
  | 8, _ => rfl
  | 9, _ => rfl
  | k + 10, h => exact absurd h (by omega)
theorem dec_small (q : Nat) (h : q < 10) : dec q = [dig q] := by
  unfold dec
  by_cases h0 : q = 0
  · subst h0; rfl
  · rw [if_neg (by omega), if_neg (by omega)]
    show dz (q : Int).natAbs = _
    rw [Int.natAbs_natCast, dz_step q (by omega), show q / 10 = 0 by omega, dz_zero, show q % 10 = q by omega]
    rfl
theorem cons_str (q : Nat) (t : Bs) : str [dig q] ++ str t = str (dig q :: t) := bs_ext (by rw [bs_append]; rfl)
theorem dz_next (n : Nat) (a : Nat) (t : Bs) (ha : 0 < a) (h : dz n = dz a ++ t) : dz n = dz (a / 10) ++ (dig (a % 10) :: t) := by
  rw [h, dz_step a ha, List.append_assoc]; rfl
theorem tmod_pos (a : Nat) : (a : Int).tmod 10 = ((a % 10 : Nat) : Int) ∧ (a : Int).tdiv 10 = ((a / 10 : Nat) : Int) := ⟨by rw [Int.tmod_eq_emod_of_nonneg (by omega)]; rfl, by rw [Int.tdiv_eq_ediv_of_nonneg (by omega)]; rfl⟩

theorem dec_len (n : Int) (h1 : -9223372036854775808 ≤ n) (h2 : n ≤ 9223372036854775807) : (dec n).length ≤ 20 := by
  have := dz_len 19 n.natAbs (by omega)
  unfold dec
  split
  · simp
  · split
    · simp only [List.length_cons]; omega
    · omega

/-- the number from 0 to n - 1 that an arbitrary integer picks -/
def pick (v n : Int) : Int := (v % 18446744073709551616) % n
theorem pick_range (v n : Int) (hn : 1 ≤ n) : 0 ≤ pick v n ∧ pick v n < n := ⟨Int.emod_nonneg _ (by omega), Int.emod_lt_of_pos _ (by omega)⟩
theorem pick_eq (v n : Int) (hn : 1 ≤ n) (hn2 : n ≤ 9223372036854775807) : wrap64 ((IntKind.u64.wrap v).tmod n) = pick v n := by
  have h := pick_range v n hn
  have e : IntKind.u64.wrap v = v % 18446744073709551616 := IntKind.wrap_u64 v
  have h0 : 0 ≤ v % 18446744073709551616 := Int.emod_nonneg _ (by omega)
  rw [e, Int.tmod_eq_emod_of_nonneg h0]
  exact IntWalk.wrap64_in _ ⟨by unfold pick at h; omega, by unfold pick at h; omega⟩
theorem pick_any (v n : Int) (w : World) (h1 : -9223372036854775808 ≤ v) (h2 : v ≤ 9223372036854775807) (hn : 1 ≤ n) (hn2 : n ≤ 9223372036854775807) :
    Calls Tryz.prog 13 #[.int .i64 v, .int .i64 n] w fun e w' => e = .returned (.int .i64 (pick v n)) ∧ w = w' := by
  have E := Lib.hid (pick_eq v n hn hn2)
  go_enter Tryz.func13, Tryz.ntmps13
  go_wp2
  go_ret
  exact ⟨ret1 E.out, rfl⟩

end Go.Proofs.YtnfelcjpjodjhaaGreat.Dec

namespace Go.Proofs.YtnfelcjpjodjhaaGreat.LayT
open Wd Lin Strs Cmt Back Lay Dec

/-! ### the first index of a name -/

/-- the first index of a name in a list, counted from k; -1 for none -/
def place (k : Int) : List Bs → Bs → Int
  | [], _ => -1
  | a :: r, s => if a = s then k else place (k + 1) r s
theorem place_get : ∀ (l : List Bs) (k : Int) (j : Nat) (s : Bs), l.Nodup → l[j]? = some s → place k l s = k + j
  | [], k, j, s, _, h => by simp at h
  | a :: r, k, 0, s, _, h => by
    simp only [List.getElem?_cons_zero, Option.some.injEq] at h
    simp [place, h]
  | a :: r, k, j + 1, s, hn, h => by
    simp only [List.getElem?_cons_succ] at h
    rw [List.nodup_cons] at hn
    have hne : a ≠ s := fun e => hn.1 (e ▸ List.mem_of_getElem? h)
    rw [place, if_neg hne, place_get r (k + 1) j s hn.2 h]
    omega
theorem place_range : ∀ (l : List Bs) (k : Int) (s : Bs), place k l s = -1 ∨ (k ≤ place k l s ∧ place k l s < k + l.length)
  | [], k, s => .inl rfl
  | a :: r, k, s => by
    unfold place
    split
    · exact .inr ⟨Int.le_refl _, by simp only [List.length_cons]; omega⟩
    · rcases place_range r (k + 1) s with h | h
      · exact .inl h
      · exact .inr ⟨by omega, by simp only [List.length_cons]; omega⟩

/-! ### what a line declares -/

def kwStation : Bs := [115, 116, 97, 116, 105, 111, 110]
def kwPoint : Bs := [112, 111, 105, 110, 116]
def kwSection : Bs := [115, 101, 99, 116, 105, 111, 110]
def kwLink : Bs := [108, 105, 110, 107]
def kwAt : Bs := [97, 116]
/-- the end that a word denotes, or -1 -/
def endOf (w : Bs) : Int := if w = [65] then 0 else if w = [66] then 1 else -1
/-- a line of a section: its words behind the keyword, and those behind the three numbers -/
def declSec (l : Lay) (nm len lim gr : Bs) (more : List Bs) : Lay × Int :=
  if !numOK len || !numOK lim || !numOK gr || !(more.head?.all (· == kwAt)) then (l, 2)
  else match more with
    | [_, st] => if place 0 l.stations st < 0 then (l, 3) else ({ l with sections := l.sections ++ [⟨nm, number len, number lim, number gr, place 0 l.stations st⟩] }, 0)
    | _ => ({ l with sections := l.sections ++ [⟨nm, number len, number lim, number gr, -1⟩] }, 0)
def declLink (l : Lay) (a ae b be : Bs) (more : List Bs) : Lay × Int :=
  if decide (endOf ae < 0) || decide (endOf be < 0) || !((more.drop 1).head?.all fun w => w == [48] || w == [49]) then (l, 2)
  else if place 0 (l.sections.map Sec.name) a < 0 ∨ place 0 (l.sections.map Sec.name) b < 0 then (l, 3)
  else match more with
    | [p, q] => if place 0 l.points p < 0 then (l, 3) else ({ l with links := l.links ++ [⟨place 0 (l.sections.map Sec.name) a, endOf ae, place 0 (l.sections.map Sec.name) b, endOf be, place 0 l.points p, if q = [49] then 1 else 0⟩] }, 0)
    | _ => ({ l with links := l.links ++ [⟨place 0 (l.sections.map Sec.name) a, endOf ae, place 0 (l.sections.map Sec.name) b, endOf be, -1, 0⟩] }, 0)
def decl (l : Lay) : List Bs → Lay × Int
  | [k, nm] => if k = kwStation then ({ l with stations := l.stations ++ [nm] }, 0) else if k = kwPoint then ({ l with points := l.points ++ [nm] }, 0) else (l, 2)
  | [k, x1, x2, x3, x4] => if k = kwSection then declSec l x1 x2 x3 x4 [] else if k = kwLink then declLink l x1 x2 x3 x4 [] else (l, 2)
  | [k, x1, x2, x3, x4, x5, x6] => if k = kwSection then declSec l x1 x2 x3 x4 [x5, x6] else if k = kwLink then declLink l x1 x2 x3 x4 [x5, x6] else (l, 2)
  | _ => (l, 2)
def zero : Lay := ⟨[], [], [], []⟩
def texts (w : List W) : List Bs := w.map (·.1)
/-- what Parse answers for the lines that are left, behind what earlier lines declared -/
def fold (l : Lay) : List (List W) → Lay × Int × Int
  | [] => if check l = 0 then (l, 0, 0) else (zero, 0, check l)
  | w :: r => if (decl l (texts w)).2 = 0 then fold (decl l (texts w)).1 r else (zero, (w.head?.map (·.2.1)).getD 0, (decl l (texts w)).2)
def parse (s : Bs) : Lay × Int × Int := if (linesOf s).2.2 = 0 then fold zero (linesOf s).1 else (zero, (linesOf s).2.1, (linesOf s).2.2)

/-! ### the lines of a layout -/

def endBs (e : Int) : Bs := if e = 0 then [65] else [66]
def secLine (l : Lay) (s : Sec) : List Bs := [kwSection, s.name, dec s.len, dec s.lim, dec s.grade] ++ if 0 ≤ s.st then [kwAt, (l.stations[s.st.toNat]?).getD []] else []
def nameOf (l : Lay) (i : Int) : Bs := ((l.sections.map Sec.name)[i.toNat]?).getD []
def linkLine (l : Lay) (k : Lnk) : List Bs := [kwLink, nameOf l k.a, endBs k.ae, nameOf l k.b, endBs k.be] ++ if 0 ≤ k.pt then [(l.points[k.pt.toNat]?).getD [], dec k.ps] else []
def lines (l : Lay) : List (List Bs) := l.stations.map (fun s => [kwStation, s]) ++ (l.points.map (fun s => [kwPoint, s]) ++ (l.sections.map (secLine l) ++ l.links.map (linkLine l)))
def strs (L : List (List Bs)) : List (List ByteArray) := L.map fun w => w.map str
def format (l : Lay) : Bs := if check l = 0 then jt (strs (lines l)) else []

/-! ### what a valid layout keeps -/

theorem names_ok : ∀ (l done : List Bs), done.Nodup → namesErr done l = 0 → (∀ s ∈ l, isName s = true) ∧ (done ++ l).Nodup
  | [], done, hn, _ => ⟨by simp, by simpa using hn⟩
  | s :: r, done, hn, h => by
    unfold namesErr at h
    split at h
    · cases h
    · next h1 =>
      split at h
      · cases h
      · next h2 =>
        have hs : s ∉ done := by simpa using h2
        have hd : (done ++ [s]).Nodup := by
          rw [List.nodup_append]
          exact ⟨hn, by simp, fun a ha b hb => by simp at hb; subst hb; exact fun e => hs (e ▸ ha)⟩
        obtain ⟨i1, i2⟩ := names_ok r (done ++ [s]) hd h
        refine ⟨fun v hv => ?_, by simpa using i2⟩
        rcases List.mem_cons.1 hv with rfl | hv
        · simpa using h1
        · exact i1 v hv
theorem secs_ok (q : Nat) : ∀ (l : List Sec) (done : List Bs), done.Nodup → secsErr q done l = 0 → (∀ s ∈ l, isName s.name = true ∧ secErr q s = 0) ∧ (done ++ l.map Sec.name).Nodup
  | [], done, hn, _ => ⟨by simp, by simpa using hn⟩
  | s :: r, done, hn, h => by
    unfold secsErr at h
    split at h
    · cases h
    · next h1 =>
      split at h
      · cases h
      · next h2 =>
        split at h
        · next h3 =>
          have hs : s.name ∉ done := by simpa using h2
          have hd : (done ++ [s.name]).Nodup := by
            rw [List.nodup_append]
            exact ⟨hn, by simp, fun a ha b hb => by simp at hb; subst hb; exact fun e => hs (e ▸ ha)⟩
          obtain ⟨i1, i2⟩ := secs_ok q r (done ++ [s.name]) hd h
          refine ⟨fun v hv => ?_, by simpa using i2⟩
          rcases List.mem_cons.1 hv with rfl | hv
          · exact ⟨by simpa using h1, h3⟩
          · exact i1 v hv
        · next h3 => exact absurd h h3

/-- a valid layout, as far as its text goes -/
structure Valid (l : Lay) : Prop where
  st : ∀ s ∈ l.stations, isName s = true
  stn : l.stations.Nodup
  pt : ∀ s ∈ l.points, isName s = true
  ptn : l.points.Nodup
  sec : ∀ s ∈ l.sections, isName s.name = true ∧ secErr l.stations.length s = 0
  secn : (l.sections.map Sec.name).Nodup
  lnk : ∀ k ∈ l.links, inr l.sections.length l.points.length k = true
theorem valid_of {l : Lay} (h : check l = 0) : Valid l := by
  have h0 := h
  unfold check at h
  split at h
  · cases h
  · split at h
    · cases h
    · split at h
      · next h1 => exact absurd h h1
      · next h1 =>
        split at h
        · next h2 => exact absurd h h2
        · next h2 =>
          split at h
          · next h3 => exact absurd h h3
          · next h3 =>
            obtain ⟨a1, a2⟩ := names_ok l.stations [] (by simp) (by simpa using h1)
            obtain ⟨b1, b2⟩ := names_ok l.points [] (by simp) (by simpa using h2)
            obtain ⟨c1, c2⟩ := secs_ok _ l.sections [] (by simp) (by simpa using h3)
            exact ⟨a1, by simpa using a2, b1, by simpa using b2, c1, by simpa using c2, fun k hk => ((good_links _ h0).range k hk).1⟩
theorem sec_range {q : Nat} {s : Sec} (h : secErr q s = 0) : 1 ≤ s.len ∧ s.len ≤ 400 ∧ 1000 ≤ s.lim ∧ s.lim ≤ 100000 ∧ -40 ≤ s.grade ∧ s.grade ≤ 40 ∧ -1 ≤ s.st ∧ s.st < q := by
  unfold secErr at h
  split at h
  · next hc => simp only [Bool.and_eq_true, decide_eq_true_eq] at hc; omega
  · cases h
theorem inr_range {n p : Nat} {k : Lnk} (h : inr n p k = true) : 0 ≤ k.a ∧ k.a < n ∧ 0 ≤ k.b ∧ k.b < n ∧ 0 ≤ k.ae ∧ k.ae ≤ 1 ∧ 0 ≤ k.be ∧ k.be ≤ 1 ∧ -1 ≤ k.pt ∧ k.pt < p ∧ 0 ≤ k.ps ∧ k.ps ≤ 1 ∧ (k.pt < 0 → k.ps = 0) := by
  unfold inr at h
  simp only [Bool.and_eq_true, decide_eq_true_eq, Bool.not_eq_true', Bool.and_eq_false_iff, decide_eq_false_iff_not, Bool.not_eq_false'] at h
  omega

/-! ### each line declares its element -/

theorem num_back (n : Int) (h1 : -1099511627776 ≤ n) (h2 : n ≤ 1099511627776) : numOK (dec n) = true ∧ number (dec n) = n := by
  obtain ⟨a, b, _⟩ := dec_num n
  exact ⟨by rw [a]; exact decide_eq_true ⟨h1, h2⟩, b ⟨h1, h2⟩⟩
theorem end_back (e : Int) (h1 : 0 ≤ e) (h2 : e ≤ 1) : endOf (endBs e) = e := by
  have : e = 0 ∨ e = 1 := by omega
  rcases this with rfl | rfl <;> decide
theorem nth_some {l : List Bs} {i : Int} (h0 : 0 ≤ i) (h1 : i < l.length) : l[i.toNat]? = some ((l[i.toNat]?).getD []) := by
  have : i.toNat < l.length := by omega
  simp [this]
theorem place_nth {l : List Bs} (hn : l.Nodup) {i : Int} (h0 : 0 ≤ i) (h1 : i < l.length) : place 0 l ((l[i.toNat]?).getD []) = i := by
  rw [place_get l 0 i.toNat _ hn (nth_some h0 h1)]
  omega

theorem decl_sec (l d : Lay) (s : Sec) (hq : d.stations = l.stations) (hn : l.stations.Nodup) (hs : secErr l.stations.length s = 0) : decl d (secLine l s) = ({ d with sections := d.sections ++ [s] }, 0) := by
  obtain ⟨r1, r2, r3, r4, r5, r6, r7, r8⟩ := sec_range hs
  obtain ⟨a1, a2⟩ := num_back s.len (by omega) (by omega)
  obtain ⟨b1, b2⟩ := num_back s.lim (by omega) (by omega)
  obtain ⟨c1, c2⟩ := num_back s.grade (by omega) (by omega)
  unfold secLine
  by_cases h : 0 ≤ s.st
  · rw [if_pos h]
    have hp := place_nth hn h r8
    simp only [List.cons_append, List.nil_append, decl, if_true, declSec, a1, a2, b1, b2, c1, c2, hq, hp]
    simp only [Bool.not_true, Bool.or_self, List.head?_cons, Option.all_some, beq_self_eq_true, Bool.false_eq_true, if_false]
    rw [if_neg (by omega)]
  · rw [if_neg h]
    have : s.st = -1 := by omega
    simp only [List.append_nil, decl, if_true, declSec, a1, a2, b1, b2, c1, c2]
    simp only [Bool.not_true, Bool.or_self, List.head?_nil, Option.all_none, Bool.false_eq_true, if_false, ← this]

theorem decl_link (l d : Lay) (k : Lnk) (hp : d.points = l.points) (hs : d.sections = l.sections) (hpn : l.points.Nodup) (hsn : (l.sections.map Sec.name).Nodup) (hk : inr l.sections.length l.points.length k = true) :
    decl d (linkLine l k) = ({ d with links := d.links ++ [k] }, 0) := by
  obtain ⟨r1, r2, r3, r4, r5, r6, r7, r8, r9, r10, r11, r12, r13⟩ := inr_range hk
  have ha : place 0 (l.sections.map Sec.name) (nameOf l k.a) = k.a := place_nth hsn r1 (by simpa using r2)
  have hb : place 0 (l.sections.map Sec.name) (nameOf l k.b) = k.b := place_nth hsn r3 (by simpa using r4)
  have hlk : kwLink ≠ kwSection := by decide
  unfold linkLine
  by_cases h : 0 ≤ k.pt
  · rw [if_pos h]
    have hpl := place_nth hpn h r10
    have hq : (dec k.ps == [48] || dec k.ps == [49]) = true ∧ (if dec k.ps = [49] then (1 : Int) else 0) = k.ps := by
      have : k.ps = 0 ∨ k.ps = 1 := by omega
      rcases this with e | e
      · have := dec_small 0 (by omega)
        rw [e]; simp at this; rw [this]; decide
      · have := dec_small 1 (by omega)
        rw [e]; simp at this; rw [this]; decide
    simp only [List.cons_append, List.nil_append, decl, hlk, if_true, if_false, declLink, end_back _ r5 r6, end_back _ r7 r8, hp, hs, ha, hb, hpl, hq.2]
    simp only [List.drop_succ_cons, List.drop_zero, List.head?_cons, Option.all_some, hq.1, Bool.not_true, Bool.or_false]
    have e1 : ¬ k.ae < 0 := by omega
    have e2 : ¬ k.be < 0 := by omega
    have e3 : ¬ (k.a < 0 ∨ k.b < 0) := by omega
    have e4 : ¬ k.pt < 0 := by omega
    simp [e1, e2, e3, e4]
  · rw [if_neg h]
    have e0 : k.pt = -1 := by omega
    have e5 : k.ps = 0 := r13 (by omega)
    have e1 : ¬ k.ae < 0 := by omega
    have e2 : ¬ k.be < 0 := by omega
    have e3 : ¬ (k.a < 0 ∨ k.b < 0) := by omega
    have ek : (⟨k.a, k.ae, k.b, k.be, -1, 0⟩ : Lnk) = k := by rw [← e0]; conv => lhs; rw [← e5]
    simp only [List.append_nil, decl, hlk, if_true, if_false, declLink, end_back _ r5 r6, end_back _ r7 r8, hs, ha, hb]
    simp [e1, e2, e3, ek]

/-! ### the lines of a layout declare it -/

/-- words as they stand in a line -/
def Texts (L : List (List Bs)) (ws : List (List W)) : Prop := ws.map texts = L
theorem fold_step (d d' : Lay) (w : List W) (r : List (List W)) (h : decl d (texts w) = (d', 0)) : fold d (w :: r) = fold d' r := by
  rw [fold, h, if_pos rfl]
theorem fold_cons {d d' : Lay} {x : List Bs} {L : List (List Bs)} {ws : List (List W)} {P : Lay × Int × Int} (hw : Texts (x :: L) ws) (h : decl d x = (d', 0)) (hr : ∀ ws, Texts L ws → fold d' ws = P) : fold d ws = P := by
  unfold Texts at hw
  cases ws with
  | nil => simp at hw
  | cons w r =>
    simp only [List.map_cons, List.cons.injEq] at hw
    rw [fold_step d d' w r (by rw [hw.1]; exact h)]
    exact hr r hw.2
theorem fold_stations : ∀ (st : List Bs) (d : Lay) (L : List (List Bs)) (ws : List (List W)) (P : Lay × Int × Int), Texts (st.map (fun s => [kwStation, s]) ++ L) ws → (∀ ws, Texts L ws → fold { d with stations := d.stations ++ st } ws = P) → fold d ws = P
  | [], d, L, ws, P, hw, hr => by
    have := hr ws (by simpa using hw)
    simpa using this
  | s :: st, d, L, ws, P, hw, hr => by
    refine fold_cons (d' := { d with stations := d.stations ++ [s] }) hw (by simp [decl]) (fun ws' hw' => ?_)
    exact fold_stations st _ L ws' P hw' (fun v hv => by simpa using hr v hv)
theorem fold_points : ∀ (st : List Bs) (d : Lay) (L : List (List Bs)) (ws : List (List W)) (P : Lay × Int × Int), Texts (st.map (fun s => [kwPoint, s]) ++ L) ws → (∀ ws, Texts L ws → fold { d with points := d.points ++ st } ws = P) → fold d ws = P
  | [], d, L, ws, P, hw, hr => by
    have := hr ws (by simpa using hw)
    simpa using this
  | s :: st, d, L, ws, P, hw, hr => by
    refine fold_cons (d' := { d with points := d.points ++ [s] }) hw (by simp [decl, show kwPoint ≠ kwStation by decide]) (fun ws' hw' => ?_)
    exact fold_points st _ L ws' P hw' (fun v hv => by simpa using hr v hv)
theorem fold_secs (l : Lay) (hv : Valid l) : ∀ (ss : List Sec) (d : Lay) (L : List (List Bs)) (ws : List (List W)) (P : Lay × Int × Int), d.stations = l.stations → (∀ s ∈ ss, s ∈ l.sections) → Texts (ss.map (secLine l) ++ L) ws → (∀ ws, Texts L ws → fold { d with sections := d.sections ++ ss } ws = P) → fold d ws = P
  | [], d, L, ws, P, _, _, hw, hr => by
    have := hr ws (by simpa using hw)
    simpa using this
  | s :: ss, d, L, ws, P, hd, hm, hw, hr => by
    refine fold_cons (d' := { d with sections := d.sections ++ [s] }) hw (decl_sec l d s hd hv.stn (hv.sec s (hm s List.mem_cons_self)).2) (fun ws' hw' => ?_)
    exact fold_secs l hv ss _ L ws' P hd (fun x hx => hm x (List.mem_cons_of_mem _ hx)) hw' (fun v hv => by simpa using hr v hv)
theorem fold_links (l : Lay) (hv : Valid l) : ∀ (ks : List Lnk) (d : Lay) (L : List (List Bs)) (ws : List (List W)) (P : Lay × Int × Int), d.points = l.points → d.sections = l.sections → (∀ k ∈ ks, k ∈ l.links) → Texts (ks.map (linkLine l) ++ L) ws → (∀ ws, Texts L ws → fold { d with links := d.links ++ ks } ws = P) → fold d ws = P
  | [], d, L, ws, P, _, _, _, hw, hr => by
    have := hr ws (by simpa using hw)
    simpa using this
  | k :: ks, d, L, ws, P, hp, hs, hm, hw, hr => by
    refine fold_cons (d' := { d with links := d.links ++ [k] }) hw (decl_link l d k hp hs hv.ptn hv.secn (hv.lnk k (hm k List.mem_cons_self))) (fun ws' hw' => ?_)
    exact fold_links l hv ks _ L ws' P hp hs (fun x hx => hm x (List.mem_cons_of_mem _ hx)) hw' (fun v hv => by simpa using hr v hv)
/-- the lines of a valid layout declare it -/
theorem fold_lines (l : Lay) (h : check l = 0) (ws : List (List W)) (hw : Texts (lines l) ws) : fold zero ws = (l, 0, 0) := by
  have hv := valid_of h
  refine fold_stations l.stations zero _ ws _ hw (fun ws hw => ?_)
  refine fold_points l.points _ _ ws _ hw (fun ws hw => ?_)
  refine fold_secs l hv l.sections _ _ ws _ (by simp [zero]) (fun _ h => h) hw (fun ws hw => ?_)
  refine fold_links l hv l.links _ [] ws _ (by simp [zero]) (by simp [zero]) (fun _ h => h) (by simpa using hw) (fun ws hw => ?_)
  have : ws = [] := by simpa [Texts] using hw
  subst this
  simp [fold, zero, h]

/-! ### the words of a layout's lines -/

theorem later_plain (b : UInt8) (h : later b = true) : plain b = true := by
  unfold later letter digit under at h
  unfold plain
  simp only [Bool.or_eq_true, Bool.and_eq_true, decide_eq_true_eq, Bool.not_eq_true', decide_eq_false_iff_not] at *
  omega
theorem name_fine {s : Bs} (h : isName s = true) : Fine s := by
  cases s with
  | nil => cases h
  | cons b r =>
    unfold isName at h
    simp only [Bool.and_eq_true] at h
    refine ⟨by simp, ?_⟩
    rw [List.all_cons, Bool.and_eq_true]
    refine ⟨later_plain b (by unfold later; rw [h.1.2]; rfl), ?_⟩
    rw [List.all_eq_true]
    exact fun x hx => later_plain x (List.all_eq_true.1 h.2 x hx)
theorem digit_plain (b : UInt8) (h : digit b = true) : plain b = true := later_plain b (by unfold later; rw [h]; simp)
theorem dec_fine (n : Int) : Fine (dec n) := by
  have hd : ∀ a : Nat, (dz a).all plain = true := fun a => by
    rw [List.all_eq_true]
    exact fun x hx => digit_plain x (List.all_eq_true.1 (dz_digits a) x hx)
  unfold dec
  split
  · exact ⟨by simp, by decide⟩
  · split
    · exact ⟨by simp, by rw [List.all_cons, hd]; decide⟩
    · exact ⟨dz_ne _ (by omega), hd _⟩
theorem endBs_fine (e : Int) : Fine (endBs e) := by
  unfold endBs
  split <;> exact ⟨by simp, by decide⟩
/-- a word of at most 20 bytes -/
def Short (w : Bs) : Prop := Fine w ∧ w.length ≤ 20
theorem name_short {s : Bs} (h : isName s = true) : Short s := by
  refine ⟨name_fine h, ?_⟩
  cases s with
  | nil => cases h
  | cons b r =>
    unfold isName at h
    simp only [Bool.and_eq_true, decide_eq_true_eq] at h
    simp only [List.length_cons]; omega
theorem dec_short (n : Int) (h1 : -9223372036854775808 ≤ n) (h2 : n ≤ 9223372036854775807) : Short (dec n) := ⟨dec_fine n, dec_len n h1 h2⟩
theorem endBs_short (e : Int) : Short (endBs e) := by
  refine ⟨endBs_fine e, ?_⟩
  unfold endBs
  split <;> simp
theorem lines_fine (l : Lay) (h : check l = 0) : ∀ L ∈ lines l, (∀ w ∈ L, Short w) ∧ 1 ≤ L.length ∧ L.length ≤ 7 := by
  have hv := valid_of h
  intro L hL
  have k1 : Short kwStation := ⟨⟨by decide, by decide⟩, by decide⟩
  have k2 : Short kwPoint := ⟨⟨by decide, by decide⟩, by decide⟩
  have k3 : Short kwSection := ⟨⟨by decide, by decide⟩, by decide⟩
  have k4 : Short kwLink := ⟨⟨by decide, by decide⟩, by decide⟩
  have k5 : Short kwAt := ⟨⟨by decide, by decide⟩, by decide⟩
  unfold lines at hL
  simp only [List.mem_append, List.mem_map] at hL
  rcases hL with ⟨s, hs, rfl⟩ | ⟨s, hs, rfl⟩ | ⟨s, hs, rfl⟩ | ⟨k, hk, rfl⟩
  · refine ⟨fun w hw => ?_, by simp, by simp⟩
    simp at hw
    rcases hw with rfl | rfl
    · exact k1
    · exact name_short (hv.st _ hs)
  · refine ⟨fun w hw => ?_, by simp, by simp⟩
    simp at hw
    rcases hw with rfl | rfl
    · exact k2
    · exact name_short (hv.pt _ hs)
  · obtain ⟨r1, r2, r3, r4, r5, r6, r7, r8⟩ := sec_range (hv.sec s hs).2
    have n1 := name_short (hv.sec s hs).1
    unfold secLine
    by_cases h0 : 0 ≤ s.st
    · rw [if_pos h0]
      have n2 := name_short (hv.st _ (List.mem_of_getElem? (nth_some h0 r8)))
      refine ⟨fun w hw => ?_, by simp, by simp⟩
      simp only [List.cons_append, List.nil_append, List.mem_cons, List.not_mem_nil, or_false] at hw
      rcases hw with rfl | rfl | rfl | rfl | rfl | rfl | rfl
      · exact k3
      · exact n1
      · exact dec_short _ (by omega) (by omega)
      · exact dec_short _ (by omega) (by omega)
      · exact dec_short _ (by omega) (by omega)
      · exact k5
      · exact n2
    · rw [if_neg h0]
      refine ⟨fun w hw => ?_, by simp, by simp⟩
      simp only [List.append_nil, List.mem_cons, List.not_mem_nil, or_false] at hw
      rcases hw with rfl | rfl | rfl | rfl | rfl
      · exact k3
      · exact n1
      · exact dec_short _ (by omega) (by omega)
      · exact dec_short _ (by omega) (by omega)
      · exact dec_short _ (by omega) (by omega)
  · obtain ⟨r1, r2, r3, r4, r5, r6, r7, r8, r9, r10, r11, r12, r13⟩ := inr_range (hv.lnk k hk)
    have nm : ∀ i : Int, 0 ≤ i → i < l.sections.length → Short (nameOf l i) := fun i h0 h1 => by
      have hm := List.mem_of_getElem? (nth_some (l := l.sections.map Sec.name) h0 (by simpa using h1))
      obtain ⟨s, hs, he⟩ := List.mem_map.1 hm
      have := name_short (hv.sec s hs).1
      rw [he] at this
      exact this
    unfold linkLine
    by_cases h0 : 0 ≤ k.pt
    · rw [if_pos h0]
      have n2 := name_short (hv.pt _ (List.mem_of_getElem? (nth_some h0 r10)))
      refine ⟨fun w hw => ?_, by simp, by simp⟩
      simp only [List.cons_append, List.nil_append, List.mem_cons, List.not_mem_nil, or_false] at hw
      rcases hw with rfl | rfl | rfl | rfl | rfl | rfl | rfl
      · exact k4
      · exact nm _ r1 r2
      · exact endBs_short _
      · exact nm _ r3 r4
      · exact endBs_short _
      · exact n2
      · exact dec_short _ (by omega) (by omega)
    · rw [if_neg h0]
      refine ⟨fun w hw => ?_, by simp, by simp⟩
      simp only [List.append_nil, List.mem_cons, List.not_mem_nil, or_false] at hw
      rcases hw with rfl | rfl | rfl | rfl | rfl
      · exact k4
      · exact nm _ r1 r2
      · exact endBs_short _
      · exact nm _ r3 r4
      · exact endBs_short _

theorem texts_sw (q : Int) : ∀ (L : List Bs) (k : Nat), texts (sw q k (L.map str)) = L
  | [], k => rfl
  | s :: r, k => by
    simp only [List.map_cons, sw, texts]
    rw [show (sw q (k + (str s).size + 1) (r.map str)).map (·.1) = r from texts_sw q r _, bs_str]
theorem texts_tl : ∀ (L : List (List Bs)) (q : Int), Texts L (tl q (strs L))
  | [], q => rfl
  | x :: L, q => by
    unfold Texts
    simp only [strs, List.map_cons, tl]
    rw [texts_sw, show (tl (q + 1) (L.map fun w => w.map str)).map texts = L from texts_tl L (q + 1)]
theorem wt_short : ∀ (L : List Bs), (∀ w ∈ L, Short w) → wt (L.map str) ≤ 21 * L.length
  | [], _ => by simp [wt]
  | w :: r, h => by
    have := wt_short r (fun x hx => h x (List.mem_cons_of_mem _ hx))
    have h1 := (h w List.mem_cons_self).2
    simp only [List.map_cons, wt, size_str, List.length_cons]; omega
theorem wtL_short : ∀ (L : List (List Bs)), (∀ x ∈ L, (∀ w ∈ x, Short w) ∧ x.length ≤ 7) → wtL (strs L) ≤ 148 * L.length
  | [], _ => by simp [strs, wtL]
  | x :: L, h => by
    have := wtL_short L (fun y hy => h y (List.mem_cons_of_mem _ hy))
    obtain ⟨h1, h2⟩ := h x List.mem_cons_self
    have h3 := wt_short x h1
    unfold strs at this
    simp only [strs, List.map_cons, wtL, List.length_cons]; omega
theorem limits {l : Lay} (h : check l = 0) : l.stations.length ≤ 24 ∧ l.points.length ≤ 48 ∧ l.sections.length ≤ 96 ∧ l.links.length ≤ 192 := by
  unfold check at h
  split at h
  · cases h
  · omega
/-- no layout's text is too long -/
theorem format_len (l : Lay) : (format l).length ≤ 53280 := by
  unfold format
  split
  · next h =>
    have h1 := jt_len (strs (lines l))
    have h2 := wtL_short (lines l) (fun x hx => ⟨(lines_fine l h x hx).1, (lines_fine l h x hx).2.2⟩)
    have h3 : (lines l).length = l.stations.length + (l.points.length + (l.sections.length + l.links.length)) := by simp [lines]
    have := limits h
    omega
  · simp
/-- the text of a valid layout declares it -/
theorem parse_format (l : Lay) (h : check l = 0) : parse (format l) = (l, 0, 0) := by
  have hf : ∀ L ∈ strs (lines l), AllFine L ∧ 1 ≤ L.length ∧ L.length ≤ 64 := by
    intro L hL
    obtain ⟨M, hM, rfl⟩ := List.mem_map.1 hL
    obtain ⟨h1, h2, h3⟩ := lines_fine l h M hM
    refine ⟨fun s hs => ?_, by simpa using h2, by simp only [List.length_map]; omega⟩
    obtain ⟨w, hw, rfl⟩ := List.mem_map.1 hs
    exact (h1 w hw).1
  have hl : linesOf (format l) = (tl 1 (strs (lines l)), 0, 0) := by
    unfold linesOf
    rw [if_neg (by have := format_len l; omega)]
    unfold format
    rw [if_pos h, go_jt _ [] 1 hf, List.nil_append]
  unfold parse
  rw [hl, if_pos rfl]
  exact fold_lines l h _ (texts_tl _ 1)
end Go.Proofs.YtnfelcjpjodjhaaGreat.LayT
