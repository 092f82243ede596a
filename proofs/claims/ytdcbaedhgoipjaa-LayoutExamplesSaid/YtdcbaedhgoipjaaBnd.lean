/-
  Plain mathematics: how long the lines and words of a text can be. No program in it.
-/
import Derived.Test.YtdcbaedhgoipjaaLin
import Derived.Test.YtdcbaedhgoipjaaLayT
namespace Go.Proofs.Ytdcbaedhgoipjaa.Bnd
open Wd Lin

theorem addTo_max {L : List W} {n : Nat} (b : UInt8) (h : ∀ x ∈ L, x.1.length ≤ n) : ∀ x ∈ addTo L b, x.1.length ≤ n + 1 := by
  rcases List.eq_nil_or_concat L with rfl | ⟨M, ⟨t, y⟩, rfl⟩
  · intro x hx; simp [addTo] at hx
  · rw [List.concat_eq_append] at h ⊢
    rw [addTo_snoc]
    intro x hx
    rw [List.mem_append] at hx
    rcases hx with hx | hx
    · have := h x (List.mem_append_left _ hx); omega
    · have h2 := h (t, y) (by simp)
      simp at hx; subst hx
      simp only [List.length_append, List.length_cons, List.length_nil]
      simp only at h2
      omega
theorem wst_max (ln : Int) : ∀ (r : Bs) (L : List W) (p : Bool) (k n : Nat), (∀ x ∈ L, x.1.length ≤ n) → ∀ x ∈ wst ln L p k r, x.1.length ≤ n + r.length + 1
  | [], L, p, k, n, h => fun x hx => by have := h x hx; simp; omega
  | b :: r, L, p, k, n, h => by
    intro x hx
    unfold wst at hx
    split at hx
    · split at hx
      · have := wst_max ln r (addTo L b) true (k + 1) (n + 1) (addTo_max b h) x hx
        simp only [List.length_cons]; omega
      · have := wst_max ln r (L ++ [([b], ln, (k : Int) + 1)]) true (k + 1) (n + 1) (fun y hy => by
          rw [List.mem_append] at hy
          rcases hy with hy | hy
          · have := h y hy; omega
          · simp at hy; subst hy; simp) x hx
        simp only [List.length_cons]; omega
    · have := wst_max ln r L false (k + 1) n h x hx
      simp only [List.length_cons]; omega
theorem lineWords_max (ln : Int) (l : Bs) : ∀ x ∈ lineWords ln l, x.1.length ≤ l.length + 1 := by
  intro x hx
  have := wst_max ln (code l) [] false 0 0 (by simp) x hx
  have h2 : (code l).length ≤ l.length := by
    unfold code
    exact List.Sublist.length_le (List.takeWhile_sublist _)
  omega
theorem split_max : ∀ (l : Bs), (∀ x ∈ split l, x.length ≤ l.length) ∧ (split l).length ≤ l.length + 1
  | [] => by simp [split]
  | b :: r => by
    obtain ⟨h1, h2⟩ := split_max r
    unfold split
    split
    · refine ⟨fun x hx => ?_, ?_⟩
      · simp only [List.mem_cons] at hx
        rcases hx with rfl | hx
        · simp
        · have := h1 x hx; simp; omega
      · simp; omega
    · split
      · refine ⟨fun x hx => ?_, ?_⟩
        · simp at hx; subst hx; simp
        · simp
      · next h t he =>
        rw [he] at h1 h2
        refine ⟨fun x hx => ?_, ?_⟩
        · simp only [List.mem_cons] at hx
          rcases hx with rfl | hx
          · have := h1 h (by simp); simp; omega
          · have := h1 x (by simp [hx]); simp; omega
        · simp only [List.length_cons] at h2 ⊢; omega
/-- a line of words, as a text can have it -/
def Fit (w : List W) : Prop := w ≠ [] ∧ w.length ≤ 64 ∧ ∀ x ∈ w, x.1.length ≤ 65537
theorem one_more {m : Nat} (T : List (List W)) (x : List W) (h : T.length ≤ m) : (if x.length = 0 then T else T ++ [x]).length ≤ m + 1 := by
  split
  · omega
  · simp; omega
theorem go_max : ∀ (ls : List Bs) (T : List (List W)) (ln : Int) (m : Nat), (∀ w ∈ T, Fit w) → T.length ≤ m → (∀ l ∈ ls, l.length ≤ 65536) → (∀ w ∈ (go T ln ls).1, Fit w) ∧ (go T ln ls).1.length ≤ m + ls.length
  | [], T, ln, m, h, hm, _ => ⟨h, by simp [go]; omega⟩
  | l :: r, T, ln, m, h, hm, hl => by
    unfold go
    split
    · next he =>
      have hw : (lineWords ln l).length ≤ 64 := by
        unfold lineErr at he
        split at he
        · cases he
        · split at he
          · cases he
          · omega
      have := go_max r (if (lineWords ln l).length = 0 then T else T ++ [lineWords ln l]) (ln + 1) (m + 1) (by
        split
        · exact h
        · next hne =>
          intro w hw2
          rw [List.mem_append] at hw2
          rcases hw2 with hw2 | hw2
          · exact h w hw2
          · simp at hw2; subst hw2
            exact ⟨fun e => hne (by rw [e]; rfl), hw, fun x hx => by have h1 := lineWords_max ln l x hx; have h2 := hl l (by simp); omega⟩) (one_more T (lineWords ln l) hm) (fun x hx => hl x (by simp [hx]))
      exact ⟨this.1, by simp only [List.length_cons]; omega⟩
    · exact ⟨by simp, by simp⟩
theorem lines_max (l : Bs) : (∀ w ∈ (linesOf l).1, Fit w) ∧ (linesOf l).1.length ≤ 65537 := by
  unfold linesOf
  split
  · exact ⟨by simp, by simp⟩
  · obtain ⟨h1, h2⟩ := split_max l
    have := go_max (split l) [] 1 0 (by simp) (by simp) (fun x hx => by have := h1 x hx; omega)
    exact ⟨this.1, by omega⟩
end Go.Proofs.Ytdcbaedhgoipjaa.Bnd
