/-
  Contract of the document's own function that gathers the marked residues into a list of spans.
-/
import Derived.Test.YtapflikdoiedeaaMarks
namespace Go.Proofs.Ytapflikdoiedeaa.Gather
open Go.ChangeShapes Go.WideShapes Go.ChangeAt Go.RowKit Plain Mem Nums Valid Errs Marks
set_option linter.unusedVariables false

theorem info29 : (Try.prog.info? 29).map (fun i => (i.zero, i.size, i.bytes)) = some (some (.agg #[.int .i64 0, .int .i64 0]), 2, 16) := by kernel_rfl

/-- what a call leaves that returns a set as memory of its own: the valid list of the residues below t at which f says yes -/
def IsSet (B : Nat) (t : Int) (f : Int → Bool) (w : World) (A : Option Addr) (n c : Nat) (w' : World) : Prop :=
  ∃ L, Own w' B (.slice A n c) n L ∧ vf 0 t L = true ∧ (∀ x, 0 ≤ x → x < t → mem L x = f x) ∧ Below B w w'
def SetPost (B : Nat) (t : Int) (f : Int → Bool) (w : World) (e : Ending) (w' : World) : Prop := ∃ A n c, e = .returned (.slice A n c) ∧ IsSet B t f w A n c w'

theorem last_cases (L : List Sp) (x : Int) : (∃ M p, L = M ++ [p] ∧ p.2 = x) ∨ (∀ M p, L = M ++ [p] → p.2 ≠ x) := by
  by_cases h : ∃ M p, L = M ++ [p] ∧ p.2 = x
  · exact .inl h
  · exact .inr fun M p e h2 => h ⟨M, p, e, h2⟩

theorem spans_any (g t c : Nat) (f : Int → Bool) (w : World) (ht : t ≤ 7200) (hR : Row w g t f) :
    Calls Try.prog 53 #[.slice (some ⟨g, 0, none⟩) t c] w (SetPost w.heap.size t f w) := by
  obtain ⟨i0, hi, hz0, hz1, hz2⟩ := info_parts info29
  have hgl := hR.lt
  go_enter Try.func53, Try.ntmps53
  go_wp2
  go_loopw [3, 4] (fun o x wr => ∃ (k n cc : Nat) (A : Option Addr) (L : List Sp), k ≤ t ∧ x = .int .i64 k ∧ o = .slice A n cc ∧ Own wr w.heap.size (.slice A n cc) n L ∧ Hid (vf 0 k L = true) ∧ Hid (∀ y, 0 ≤ y → y < (k : Int) → mem L y = f y) ∧ Below w.heap.size w wr) (fun _ x _ => t - (intOf x).toNat)
  case atStart => exact ⟨0, 0, 0, none, [], Nat.zero_le _, rfl, rfl, Own.nil _ _, rfl, fun y h0 h1 => by omega, Below.refl _ _⟩
  case round =>
    obtain ⟨k, n, cc, A, L, hk, rfl, rfl, hO, hV, hM, hbw⟩ := hrel
    have hz := hbw.size
    have hn : n ≤ 7201 := by
      have h1 := vf_len L 0 k hV.out (by omega)
      have h2 := hO.1
      omega
    by_cases hlt : k < t
    · have c0 := (hR.below hbw hgl).cell hlt
      cases hf : f k with
      | false =>
        rw [hf] at c0
        have R : Hid (vf 0 ((k + 1 : Nat) : Int) L = true) := vf_mono L 0 0 k _ (Int.le_refl _) (by omega) hV.out
        have R2 : Hid (∀ y, 0 ≤ y → y < ((k + 1 : Nat) : Int) → mem L y = f y) := fun y h0 h1 => by
          by_cases e : y = k
          · subst e; rw [hf]; exact vf_out L 0 _ _ hV.out (.inr (Int.le_refl _))
          · exact hM.out y h0 (by omega)
        clear hf hV hM
        go_wp2
        go_roundw
        case rel => exact ⟨k + 1, n, cc, A, L, by omega, by go_num, rfl, hO, R, R2, hbw⟩
        case measure => simp [intOf]; omega
      | true =>
        rw [hf] at c0
        rcases last_cases L k with ⟨M, p, rfl, hp⟩ | hno
        · obtain ⟨q, rfl⟩ : ∃ q, n = q + 1 := ⟨M.length, by have := hO.1; simp at this; exact this.symm⟩
          obtain ⟨b, rfl, hb1, hb2, d0, d1, d2⟩ := hO.last
          have hO2 := Lib.hid (hO.put (k + 1))
          have R : Hid (vf 0 ((k + 1 : Nat) : Int) (M ++ [(p.1, (k : Int) + 1)]) = true) := by
            have h := (vf_snoc M 0 k p).1 hV.out
            exact (vf_snoc M 0 _ _).2 ⟨vf_mono M 0 0 k _ (Int.le_refl _) (by omega) h.1, h.2.1, by simp only; omega, by simp only; omega⟩
          have R2 : Hid (∀ y, 0 ≤ y → y < ((k + 1 : Nat) : Int) → mem (M ++ [(p.1, (k : Int) + 1)]) y = f y) := fun y h0 h1 => by
            have h := (vf_snoc M 0 k p).1 hV.out
            by_cases e : y = k
            · subst e; rw [hf, mem_append, mem_one]; simp; right; omega
            · rw [← hM.out y h0 (by omega), mem_append, mem_one, mem_append, mem_one]
              congr 2
              simp; omega
          rw [hp] at d1
          clear hf hV hM hp hO
          go_wp2
          go_roundw
          case rel => exact ⟨k + 1, q + 1, cc, _, _, by omega, by go_num, rfl, hO2.out, R, R2, hbw.setCell hb1 _⟩
          case measure => simp [intOf]; omega
        · have R : Hid (vf 0 ((k + 1 : Nat) : Int) (L ++ [((k : Int), (k : Int) + 1)]) = true) := by
            refine (vf_snoc L 0 _ _).2 ⟨vf_mono L 0 0 k _ (Int.le_refl _) (by omega) hV.out, ?_, by simp only; omega, by simp only; omega⟩
            by_cases hL : L = []
            · subst hL; rw [nx_nil]; simp only; omega
            · obtain ⟨M, p, rfl⟩ := snoc_of L hL
              have h := (vf_snoc M 0 k p).1 hV.out
              have := hno M p rfl
              rw [nx_snoc]; simp only; omega
          have R2 : Hid (∀ y, 0 ≤ y → y < ((k + 1 : Nat) : Int) → mem (L ++ [((k : Int), (k : Int) + 1)]) y = f y) := fun y h0 h1 => by
            by_cases e : y = k
            · subst e; rw [hf, mem_append, mem_one]; simp; right; omega
            · rw [← hM.out y h0 (by omega), mem_append, mem_one]
              have : (decide ((k : Int) ≤ y) && decide (y < (k : Int) + 1)) = false := by simp; omega
              simp [this]
          have hl := Lib.hid hO.1
          have hown := hO.2
          by_cases hn0 : n = 0
          · subst hn0
            clear hf hV hM hno hO
            go_wp2_with (at_builtin; refine wpList_append_own _ rfl (.tmp 38) (.tmp 43) 22 rfl w.heap.size 29 i0 _ 2 16 Try.underlying22 hi hz0 hz1 hz2 rfl (by omega) (.slice A 0 cc) 0 (cs L) rfl (hown.alloc _) ⟨wr.heap.size, 0, none⟩ 1 1 [.int .i64 (k : Int), .int .i64 ((k : Int) + 1)] rfl rfl (new_pair _ _ _ _) (one_pair _ _) (by unfold maxLen; omega) (by omega) (by simp; omega) ?_)
            intro v w1 hown' hgrow _
            obtain ⟨A', c', rfl, hO', hb'⟩ := appended hbw hz hl.out hown hown' hgrow
            clear hown hown' hgrow
            go_wp2
            go_roundw
            case rel => exact ⟨k + 1, 0 + 1, c', A', _, by omega, by go_num, rfl, hO', R, R2, hb'⟩
            case measure => simp [intOf]; omega
          · obtain ⟨q, rfl⟩ : ∃ q, n = q + 1 := ⟨n - 1, by omega⟩
            obtain ⟨M, p, rfl⟩ := snoc_of L (fun e => by rw [e] at hl; have := hl.out; simp at this)
            obtain ⟨b, rfl, hb1, hb2, d0, d1, d2⟩ := hO.last
            have ne : ((p.2 : Int) == (k : Int)) = false := by simpa using hno M p rfl
            clear hf hV hM hno hO
            obtain ⟨p1, p2⟩ := p
            simp only at ne d0 d1 R R2
            go_wp2_with (at_builtin; refine wpList_append_own _ rfl (.tmp 38) (.tmp 43) 22 rfl w.heap.size 29 i0 _ 2 16 Try.underlying22 hi hz0 hz1 hz2 rfl (by omega) (.slice (some ⟨b, 0, none⟩) (q + 1) cc) (q + 1) (cs (M ++ [(p1, p2)])) rfl (hown.alloc _) ⟨wr.heap.size, 0, none⟩ 1 1 [.int .i64 (k : Int), .int .i64 ((k : Int) + 1)] rfl rfl (new_pair _ _ _ _) (one_pair _ _) (by unfold maxLen; omega) (by omega) (by simp; omega) ?_)
            intro v w1 hown' hgrow _
            obtain ⟨A', c', rfl, hO', hb'⟩ := appended hbw hz hl.out hown hown' hgrow
            clear hown hown' hgrow
            go_wp2
            go_roundw
            case rel => exact ⟨k + 1, q + 1 + 1, c', A', _, by omega, by go_num, rfl, hO', R, R2, hb'⟩
            case measure => simp [intOf]; omega
    · have e : k = t := by omega
      have R : Hid (vf 0 t L = true) := by rw [← e]; exact hV
      have R2 : Hid (∀ y, 0 ≤ y → y < (t : Int) → mem L y = f y) := by rw [← e]; exact hM
      clear e hV hM
      go_wp2
      go_ret
      exact ⟨A, n, cc, rfl, L, hO, R.out, R2.out, hbw⟩

end Go.Proofs.Ytapflikdoiedeaa.Gather
