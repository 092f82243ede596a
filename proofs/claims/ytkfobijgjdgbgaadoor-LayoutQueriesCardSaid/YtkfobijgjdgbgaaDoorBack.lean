/-
  Plain mathematics of joined texts: the words of a joined text are the words that were joined. No program in it.
-/
import Derived.Test.YtkfobijgjdgbgaaDoorStrs
import Derived.Test.YtkfobijgjdgbgaaDoorCmt
namespace Go.Proofs.YtkfobijgjdgbgaaDoor.Back
open Wd Lin Bytes Strs Cmt

def sw (q : Int) : Nat → List ByteArray → List W
  | _, [] => []
  | k, s :: r => (bs s, q, (k : Int) + 1) :: sw q (k + s.size + 1) r
def tl (q : Int) : List (List ByteArray) → List (List W)
  | [] => []
  | L :: r => sw q 0 L :: tl (q + 1) r
/-- all are words -/
def AllFine (L : List ByteArray) : Prop := ∀ s ∈ L, Fine (bs s)
theorem sj_head (r : List ByteArray) (b : UInt8) (h : (sj false r).head? = some b) : plain b = false := by
  cases r with
  | nil => simp [sj] at h
  | cons s r => simp [sj] at h; subst h; decide
theorem wst_rest (q : Int) : ∀ (r : List ByteArray) (L0 : List W) (k : Nat), AllFine r → wst q L0 false k (sj false r) = L0 ++ sw q (k + 1) r
  | [], L0, k, _ => by simp [sj, wst, sw]
  | s :: r, L0, k, h => by
    have e : sj false (s :: r) = 32 :: (bs s ++ sj false r) := by simp [sj]
    rw [e, wst_skip _ _ _ _ _ _ (by decide), wst_fine q (bs s) (sj false r) L0 (k + 1) (h s List.mem_cons_self) (fun b hb => sj_head r b hb), wst_rest q r _ _ (fun v hv => h v (List.mem_cons_of_mem _ hv))]
    simp only [sw, List.append_assoc, List.singleton_append, bs_length]
theorem wst_sj (q : Int) (L : List ByteArray) (h : AllFine L) (hn : L ≠ []) : wst q [] false 0 (sj true L) = sw q 0 L := by
  cases L with
  | nil => exact absurd rfl hn
  | cons s r =>
    have e : sj true (s :: r) = bs s ++ sj false r := by simp [sj]
    rw [e, wst_fine q (bs s) (sj false r) [] 0 (h s List.mem_cons_self) (fun b hb => sj_head r b hb), wst_rest q r _ _ (fun v hv => h v (List.mem_cons_of_mem _ hv))]
    simp only [sw, List.nil_append, List.singleton_append, bs_length, Nat.zero_add]
    try rfl
theorem sj_mem : ∀ (f : Bool) (L : List ByteArray), AllFine L → ∀ b ∈ sj f L, plain b = true ∨ b = 32
  | f, [], _, b, hb => by simp [sj] at hb
  | f, s :: r, h, b, hb => by
    simp only [sj, List.mem_append] at hb
    rcases hb with hb | hb | hb
    · cases f
      · simp at hb; exact .inr hb
      · simp at hb
    · exact .inl (fine_mem (h s List.mem_cons_self) b hb)
    · exact sj_mem false r (fun v hv => h v (List.mem_cons_of_mem _ hv)) b hb
theorem sw_len (q : Int) : ∀ (L : List ByteArray) (k : Nat), (sw q k L).length = L.length
  | [], _ => rfl
  | s :: r, k => by simp only [sw, List.length_cons, sw_len q r]
theorem line_sj (q : Int) (L : List ByteArray) (h : AllFine L) (h1 : 1 ≤ L.length) (h2 : L.length ≤ 64) : lineErr q (sj true L) = 0 ∧ lineWords q (sj true L) = sw q 0 L := by
  have hm := sj_mem true L h
  have hc : code (sj true L) = sj true L := by
    have := tw_app (p := (· != 35)) [] (sj true L) (fun b hb => by
      rcases hm b hb with h | rfl
      · simpa using (plain_ne b h).1
      · decide)
    simpa [code] using this
  have hb : bad (sj true L) = false := by
    unfold bad
    rw [hc, List.any_eq_false]
    intro b hb
    rcases hm b hb with h | rfl
    · simp [(plain_ne b h).2.2]
    · decide
  have hw : lineWords q (sj true L) = sw q 0 L := by
    unfold lineWords
    rw [hc]
    exact wst_sj q L h (fun e => by rw [e] at h1; simp at h1)
  refine ⟨?_, hw⟩
  unfold lineErr
  rw [hb, hw, sw_len]
  have : ¬ 64 < L.length := by omega
  simp [this]
theorem go_jt : ∀ (LL : List (List ByteArray)) (T : List (List W)) (q : Int), (∀ L ∈ LL, AllFine L ∧ 1 ≤ L.length ∧ L.length ≤ 64) → go T q (split (jt LL)) = (T ++ tl q LL, 0, 0)
  | [], T, q, _ => by simp only [jt, tl, List.append_nil]; exact go_empty T q
  | L :: LL, T, q, h => by
    obtain ⟨h0, h1, h2⟩ := h L List.mem_cons_self
    obtain ⟨e1, e2⟩ := line_sj q L h0 h1 h2
    simp only [jt]
    rw [split_line (sj true L) _ (fun b hb => by
      rcases sj_mem true L h0 b hb with hp | rfl
      · exact (plain_ne b hp).2.1
      · decide)]
    simp only [go, e1, e2, if_true, sw_len]
    rw [if_neg (by omega), go_jt LL _ (q + 1) (fun v hv => h v (List.mem_cons_of_mem _ hv))]
    simp only [tl, List.append_assoc, List.singleton_append]
theorem sj_len : ∀ (f : Bool) (L : List ByteArray), (sj f L).length ≤ wt L
  | f, [] => by simp [sj]
  | f, s :: r => by
    have := sj_len false r
    simp only [sj, wt, List.length_append, bs_length]
    have h1 : ((if f then [] else [32] : Bs)).length ≤ 1 := by cases f <;> simp
    omega
theorem jt_len : ∀ (LL : List (List ByteArray)), (jt LL).length ≤ wtL LL
  | [] => by simp [jt]
  | L :: r => by
    have := jt_len r
    have := sj_len true L
    simp only [jt, wtL, List.length_append, List.length_cons]; omega
theorem fine_word {l : Bs} (h : Fine l) : isWord l = true := by
  unfold isWord
  have : l.isEmpty = false := by
    cases l with
    | nil => exact absurd rfl h.1
    | cons _ _ => rfl
  rw [this, h.2]; rfl
theorem join_fine (LL : List (List ByteArray)) (h : ∀ L ∈ LL, AllFine L ∧ 1 ≤ L.length ∧ L.length ≤ 64) : joinT LL = jt LL := by
  unfold joinT
  rw [if_pos]
  rw [List.all_eq_true]
  intro L hL
  obtain ⟨h0, h1, h2⟩ := h L hL
  unfold okL
  rw [decide_eq_true h1, decide_eq_true h2, Bool.true_and, Bool.true_and, List.all_eq_true]
  exact fun s hs => fine_word (h0 s hs)
theorem lines_join (LL : List (List ByteArray)) (h : ∀ L ∈ LL, AllFine L ∧ 1 ≤ L.length ∧ L.length ≤ 64) (hs : wtL LL ≤ 65536) : linesOf (joinT LL) = (tl 1 LL, 0, 0) := by
  rw [join_fine LL h]
  unfold linesOf
  rw [if_neg (by have := jt_len LL; omega), go_jt LL [] 1 h, List.nil_append]
theorem tl_len : ∀ (LL : List (List ByteArray)) (q : Int), (tl q LL).length = LL.length
  | [], _ => rfl
  | L :: r, q => by simp only [tl, List.length_cons, tl_len r]
theorem tl_get : ∀ (LL : List (List ByteArray)) (q : Int) (k : Nat), (tl q LL)[k]? = LL[k]?.map fun L => sw (q + k) 0 L
  | [], q, k => by simp [tl]
  | L :: r, q, 0 => by simp [tl]
  | L :: r, q, k + 1 => by
    simp only [tl, List.getElem?_cons_succ]
    rw [tl_get r (q + 1) k]
    congr 1; funext v; congr 1; omega
theorem sw_get (q : Int) : ∀ (L : List ByteArray) (k j : Nat) (s : ByteArray), L[j]? = some s → ∃ c, (sw q k L)[j]? = some (bs s, q, c)
  | [], k, j, s, h => by simp at h
  | x :: r, k, 0, s, h => by simp at h; subst h; exact ⟨_, rfl⟩
  | x :: r, k, j + 1, s, h => by
    simp at h
    obtain ⟨c, hc⟩ := sw_get q r (k + x.size + 1) j s h
    exact ⟨c, by simpa [sw] using hc⟩
theorem wt_snoc (s : ByteArray) : ∀ L : List ByteArray, wt (L ++ [s]) = wt L + s.size + 1
  | [] => by simp [wt]
  | x :: r => by simp only [List.cons_append, wt, wt_snoc s r]; omega
theorem wtL_snoc (L : List ByteArray) : ∀ M : List (List ByteArray), wtL (M ++ [L]) = wtL M + wt L + 1
  | [] => by simp [wtL]
  | x :: r => by simp only [List.cons_append, wtL, wtL_snoc L r]; omega
end Go.Proofs.YtkfobijgjdgbgaaDoor.Back
