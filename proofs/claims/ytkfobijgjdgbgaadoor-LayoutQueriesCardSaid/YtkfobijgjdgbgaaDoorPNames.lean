/-
  Contracts of the program's functions that check lists of names.
-/
import Derived.Test.YtkfobijgjdgbgaaDoorKeep
import Derived.Test.YtkfobijgjdgbgaaDoorNames
namespace Go.Proofs.YtkfobijgjdgbgaaDoor.PNames
open Go.ChangeShapes Go.WideShapes Go.ChangeAt Go.RowKit Wd Small Mem Lay Recs Keep Names
set_option linter.unusedVariables false

/-- the error of a name behind the names done -/
def nameErr (done : List Bs) (s : Bs) : Int := if isName s = false then 3 else if done.contains s then 5 else 0
theorem nameErr_bad {done : List Bs} {s : Bs} (h : isName s = false) : nameErr done s = 3 := by simp [nameErr, h]
theorem nameErr_dup {done : List Bs} {s : Bs} (h : isName s = true) (h2 : done.contains s = true) : nameErr done s = 5 := by unfold nameErr; rw [h, h2]; rfl
theorem nameErr_ok {done : List Bs} {s : Bs} (h : isName s = true) (h2 : done.contains s = false) : nameErr done s = 0 := by unfold nameErr; rw [h, h2]; rfl
theorem nameErr_len {done : List Bs} {s : Bs} (h : isName s = true) : s.length ≤ 12 := by
  cases s with
  | nil => simp
  | cons b r =>
    simp only [isName, Bool.and_eq_true, decide_eq_true_eq] at h
    simp only [List.length_cons]
    omega
theorem take_succ {α : Type} {L : List α} {k : Nat} {s : α} (h : L[k]? = some s) : L.take (k + 1) = L.take k ++ [s] := by
  rw [List.take_add_one, h]; rfl
theorem names_step {L : List Bs} {k : Nat} {s : Bs} (h : L[k]? = some s) :
    namesErr (L.take k) (L.drop k) = if nameErr (L.take k) s = 0 then namesErr (L.take (k + 1)) (L.drop (k + 1)) else nameErr (L.take k) s := by
  rw [Strs.drop_at h, take_succ h, show namesErr (L.take k) (s :: L.drop (k + 1)) = if isName s = false then 3 else if (L.take k).contains s then 5 else namesErr (L.take k ++ [s]) (L.drop (k + 1)) from rfl]
  unfold nameErr
  by_cases h1 : isName s = false
  · rw [if_pos h1, if_pos h1, if_neg (by decide)]
  · rw [if_neg h1, if_neg h1]
    by_cases h2 : (L.take k).contains s = true
    · rw [if_pos h2, if_pos h2, if_neg (by decide)]
    · rw [if_neg h2, if_neg h2, if_pos rfl]

/-- what a call leaves that adds a name to a set -/
def NamePost (b n : Nat) (done : List Bs) (s : Bs) (w : World) (e : Ending) (w' : World) : Prop :=
  e = .returned (.int .i64 (nameErr done s)) ∧ (nameErr done s = 0 → Seen w' b (n + 1) (done ++ [s])) ∧ w.grownBy w' (some b)

theorem add_name (b n : Nat) (done : List Bs) (s : Bs) (w : World) (h : Seen w b n done) (hs : s.length ≤ 9223372036854775807) (hn : n < 9223372036854775807) :
    Calls Tryd.prog 61 #[.map (some b), .string (str s)] w (NamePost b n done s w) := by
  have hl := h.look hs
  have H := Lib.hid h
  clear h
  cases hN : isName s with
  | false =>
    have E := Lib.hid (nameErr_bad (done := done) hN)
    clear hl
    go_enter Tryd.func61, Tryd.ntmps61
    go_wp2_with (go_at_call 82; refine (p_name _ _ (by rw [size_str]; omega)).mono ?_; rintro e w' ⟨rfl, rfl⟩; rw [bs_str, hN])
    go_ret
    exact ⟨ret1 E.out.symm, fun h => absurd h (by rw [E.out]; decide), World.grownBy.refl w _⟩
  | true =>
    cases hC : done.contains s with
    | true =>
      have E := Lib.hid (nameErr_dup hN hC)
      rw [hC] at hl
      clear hC
      go_enter Tryd.func61, Tryd.ntmps61
      go_wp2_with (go_at_call 82; refine (p_name _ _ (by rw [size_str]; omega)).mono ?_; rintro e w' ⟨rfl, rfl⟩; rw [bs_str, hN])
      go_ret
      exact ⟨ret1 E.out.symm, fun h => absurd h (by rw [E.out]; decide), World.grownBy.refl w _⟩
    | false =>
      have E := Lib.hid (nameErr_ok hN hC)
      rw [hC] at hl
      clear hC
      go_enter Tryd.func61, Tryd.ntmps61
      go_wp2_with (first | (go_at_call 82; refine (p_name _ _ (by rw [size_str]; omega)).mono ?_; rintro e w' ⟨rfl, rfl⟩; rw [bs_str, hN]) | (at_mapUpdate; refine wpList_seen _ rfl _ _ _ rfl b n done s rfl H.out hs hn rfl rfl ?_; intro w1 hS hg))
      go_ret
      exact ⟨ret1 E.out.symm, fun _ => hS, hg⟩

/-- what a call leaves that answers an error and has changed no old memory -/
def ErrPost (z : Int) (w : World) (e : Ending) (w' : World) : Prop := e = .returned (.int .i64 z) ∧ Below w.heap.size w w'

set_option maxHeartbeats 1000000 in
theorem check_names (A : Option Addr) (n c : Nat) (L : List Bs) (w : World) (hL : Rd sR w w.heap.size A n L) (hn : n ≤ 1000) (hsz : ∀ s ∈ L, s.length ≤ 9223372036854775807) :
    Calls Tryd.prog 30 #[.slice A n c] w (ErrPost (namesErr [] L) w) := by
  have hmm := make_seen w n
  have HS := Lib.hid (Seen.made w)
  have HB := Lib.hid ((Below.refl w.heap.size w).alloc (Nat.le_refl _) (.map #[] 0))
  have E : Hid (namesErr [] L = namesErr (L.take 0) (L.drop 0)) := rfl
  have HSZ := Lib.hid hsz
  clear hsz
  go_enter Tryd.func30, Tryd.ntmps30
  go_wp2_with fail
  clear hmm
  go_loopw [12] (fun i wr => ∃ (k : Nat), k ≤ n ∧ i = .int .i64 k ∧ Seen wr w.heap.size k (L.take k) ∧ Hid (namesErr [] L = namesErr (L.take k) (L.drop k)) ∧ Below w.heap.size w wr) (fun i _ => n - (intOf i).toNat)
  case atStart => exact ⟨0, Nat.zero_le _, rfl, HS.out, E, HB.out⟩
  case round =>
    obtain ⟨k, hk, rfl, hS, HE, hbw⟩ := hrel
    clear HS HB E
    by_cases hlt : k < n
    · obtain ⟨ad, s, rfl, hab, hs, c0⟩ := loadS (hL.below hbw) hlt
      have hsl := HSZ.out s (List.mem_of_getElem? hs)
      have HX := Lib.hid (HE.out.trans (names_step hs))
      have HT := Lib.hid (take_succ hs)
      have hgb := hS.lt
      have HSn := Lib.hid hS
      have hz := hbw.size
      clear hs HE hL hS
      cases hz0 : decide (nameErr (L.take k) s = 0) with
      | true =>
        have h0 := of_decide_eq_true hz0
        have HX2 : Hid (namesErr [] L = namesErr (L.take (k + 1)) (L.drop (k + 1))) := by rw [Hid, HX.out, if_pos h0]
        clear HX hz0
        go_wp2_with fail
        refine (add_name w.heap.size k (L.take k) s _ HSn.out hsl (by omega)).mono ?_
        rintro e w1 ⟨rfl, hS1, hg1⟩
        have hS2 := hS1 h0
        rw [← HT.out] at hS2
        have hb1 : Below w.heap.size w w1 := hbw.grown hg1 hz (fun j hj => by injection hj with hj; omega)
        rw [h0]
        clear hS1 hg1 h0 HT HSn
        go_wp2_with fail
        go_roundw
        case rel => exact ⟨k + 1, by omega, by go_num, hS2, HX2, hb1⟩
        case measure => simp [intOf]; omega
      | false =>
        have h0 := of_decide_eq_false hz0
        have HX2 : Hid (namesErr [] L = nameErr (L.take k) s) := by rw [Hid, HX.out, if_neg h0]
        clear HX hz0
        go_wp2_with fail
        refine (add_name w.heap.size k (L.take k) s _ HSn.out hsl (by omega)).mono ?_
        rintro e w1 ⟨rfl, hS1, hg1⟩
        have hb1 : Below w.heap.size w w1 := hbw.grown hg1 hz (fun j hj => by injection hj with hj; omega)
        clear hS1 hg1 HT HSn
        have hne : ((nameErr (L.take k) s : Int) != 0) = true := by rw [bne_iff_ne]; exact h0
        clear h0
        generalize nameErr (L.take k) s = z at *
        go_wp2_with fail
        go_ret
        exact ⟨ret1 HX2.out.symm, hb1⟩
    · have HX : Hid (namesErr [] L = 0) := by rw [Hid, HE.out, List.drop_eq_nil_of_le (by have := hL.1; omega)]; rfl
      clear HE hL hS
      go_wp2_with fail
      go_ret
      exact ⟨ret1 HX.out.symm, hbw⟩
end Go.Proofs.YtkfobijgjdgbgaaDoor.PNames
