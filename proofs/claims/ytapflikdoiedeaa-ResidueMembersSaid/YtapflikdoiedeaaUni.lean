/-
  One contract for each operation on sets, for every period and every lists: the program's and the document's, told in the same words; and that the package is awake.
-/
import Derived.Test.YtapflikdoiedeaaSource
import Derived.Test.YtapflikdoiedeaaRefShift
import Derived.Test.YtapflikdoiedeaaRefSum
import Derived.Test.YtapflikdoiedeaaSum
import Derived.Test.YtapflikdoiedeaaCompl
import Derived.Test.YtapflikdoiedeaaInter
import Derived.Test.YtapflikdoiedeaaSame
namespace Go.Proofs.Ytapflikdoiedeaa.Uni
open Go.ChangeShapes Go.WideShapes Go.ChangeAt Go.RowKit Plain Mem Nums Valid Errs Gather RefOps
set_option linter.unusedVariables false

/-- the set that a call returns with error x -/
def Is (x t : Int) (f : Int → Bool) (L : List Sp) : Prop := (x = 0 → vf 0 t L = true ∧ ∀ y, 0 ≤ y → y < t → mem L y = f y) ∧ (x ≠ 0 → L = [])
def Res (x t : Int) (f : Int → Bool) (w : World) (e : Ending) (w' : World) : Prop :=
  ∃ A n c L, e = .returned (.tuple #[.slice A n c, .int .i64 x]) ∧ Own w' w.heap.size (.slice A n c) n L ∧ n ≤ c ∧ c ≤ 9223372036854775807 ∧ Is x t f L ∧ Below w.heap.size w w'

theorem is_same {x t : Int} {f : Int → Bool} {L M : List Sp} (h : Is x t f L) (h' : Is x t f M) : L = M := by
  by_cases hx : x = 0
  · obtain ⟨h1, h2⟩ := h.1 hx
    obtain ⟨k1, k2⟩ := h'.1 hx
    refine vf_ext L M 0 t h1 k1 fun y => ?_
    by_cases hy : 0 ≤ y ∧ y < t
    · rw [h2 y hy.1 hy.2, k2 y hy.1 hy.2]
    · rw [vf_out L 0 t y h1 (by omega), vf_out M 0 t y k1 (by omega)]
  · rw [h.2 hx, h'.2 hx]
theorem is_congr {x t : Int} {f g : Int → Bool} {L : List Sp} (h : Is x t f L) (e : ∀ y, 0 ≤ y → y < t → f y = g y) : Is x t g L :=
  ⟨fun hx => ⟨(h.1 hx).1, fun y a b => ((h.1 hx).2 y a b).trans (e y a b)⟩, h.2⟩
theorem is_own {t : Int} {L : List Sp} (h : vl t L = true) : Is 0 t (mem L) L :=
  ⟨fun _ => ⟨by simp only [vl, Bool.and_eq_true] at h; exact h.2, fun _ _ _ => rfl⟩, fun h => absurd rfl h⟩
theorem is_vl {x t : Int} {f : Int → Bool} {L : List Sp} (h : Is x t f L) (hx : x = 0) (ht : 1 ≤ t ∧ t ≤ 7200) : vl t L = true := by
  have : vp t = true := (vp_iff t).2 ht
  simp [vl, this, (h.1 hx).1]

theorem own_form {w : World} {B n c : Nat} {A : Option Addr} {L : List Sp} (h : Own w B (.slice A n c) n L) : n ≤ c ∧ c ≤ 9223372036854775807 := by
  obtain ⟨A', c', e, h1, h2⟩ := h.form
  injection e with _ _ e
  subst e
  exact ⟨h1, by unfold maxLen at h2; omega⟩

theorem res_of_err {x t : Int} {f : Int → Bool} {w w' : World} {e : Ending} (hx : x ≠ 0) (h : ErrRes w.heap.size x w e w') : Res x t f w e w' :=
  ⟨none, 0, 0, [], h.1, Own.nil _ _, Nat.le_refl _, by omega, ⟨fun e => absurd e hx, fun _ => rfl⟩, h.2⟩
theorem res_of_set {x t : Int} {f : Int → Bool} {w w' : World} {e : Ending} (hx : x = 0) (h : SetRes w.heap.size t f w e w') : Res x t f w e w' := by
  subst hx
  obtain ⟨A, n, c, rfl, L, hO, hv, hm, hb⟩ := h
  exact ⟨A, n, c, L, rfl, hO, (own_form hO).1, (own_form hO).2, ⟨fun _ => ⟨hv, hm⟩, fun h => absurd rfl h⟩, hb⟩

theorem vl_nat {t : Int} {L : List Sp} (h : vl t L = true) : ∃ k : Nat, t = k ∧ 1 ≤ k ∧ k ≤ 7200 := by
  have hp : vp t = true := by simp only [vl, Bool.and_eq_true] at h; exact h.1
  have := (vp_iff t).1 hp
  exact ⟨t.toNat, by omega, by omega, by omega⟩

def mk (t : Int) : Int := if vp t then 0 else 4

theorem make_u (t s n : Int) (w : World) (ht0 : -9223372036854775808 ≤ t) (ht : t ≤ 9223372036854775807) (hs0 : -9223372036854775808 ≤ s) (hs1 : s ≤ 9223372036854775807) (hn0 : -9223372036854775808 ≤ n) (hn1 : n ≤ 9223372036854775807) :
    Calls Try.prog 15 #[.int .i64 t, .int .i64 s, .int .i64 n] w (Res (mk t) t (arc t s n) w) := by
  cases h : vp t with
  | true =>
    have e : mk t = 0 := by simp [mk, h]
    have := (vp_iff t).1 h
    obtain ⟨k, rfl⟩ : ∃ k : Nat, t = k := ⟨t.toNat, by omega⟩
    exact (Ops.make_yes k s n w (by omega) (by omega) hs0 hs1 hn0 hn1).mono fun e' w' hh => res_of_set e hh
  | false =>
    have e : mk t = 4 := by simp [mk, h]
    rw [e]
    exact (Ops.make_no t s n w ht0 ht h).mono fun e' w' hh => res_of_err (by omega) hh

theorem makeref_u (t s n : Int) (w : World) (ht0 : -9223372036854775808 ≤ t) (ht : t ≤ 9223372036854775807) (hs0 : -9223372036854775808 ≤ s) (hs1 : s ≤ 9223372036854775807) (hn0 : -9223372036854775808 ≤ n) (hn1 : n ≤ 9223372036854775807) :
    Calls Try.prog 26 #[.int .i64 t, .int .i64 s, .int .i64 n] w (Res (mk t) t (arc t s n) w) := by
  cases h : vp t with
  | true =>
    have e : mk t = 0 := by simp [mk, h]
    have := (vp_iff t).1 h
    obtain ⟨k, rfl⟩ : ∃ k : Nat, t = k := ⟨t.toNat, by omega⟩
    exact (RefMake.makeref_yes k s n w (by omega) (by omega) hs0 hs1 hn0 hn1).mono fun e' w' hh => res_of_set e hh
  | false =>
    have e : mk t = 4 := by simp [mk, h]
    rw [e]
    exact (RefMake.makeref_no t s n w ht0 ht h).mono fun e' w' hh => res_of_err (by omega) hh

theorem union_u (t : Int) (A : Option Addr) (n c : Nat) (L : List Sp) (A2 : Option Addr) (n2 c2 : Nat) (M : List Sp) (w : World) (ht0 : -9223372036854775808 ≤ t) (ht : t ≤ 9223372036854775807)
    (hS : Spans w w.heap.size A n L) (hn : n ≤ c) (hc : c ≤ 9223372036854775807) (hS2 : Spans w w.heap.size A2 n2 M) (hn2 : n2 ≤ c2) (hc2 : c2 ≤ 9223372036854775807) :
    Calls Try.prog 28 #[.int .i64 t, .slice A n c, .slice A2 n2 c2] w (Res (er t [L, M]) t (fun x => mem L x || mem M x) w) := by
  by_cases h : er t [L, M] = 0
  · obtain ⟨h1, h2⟩ := (er_two t L M).1 h
    obtain ⟨k, rfl, k0, k1⟩ := vl_nat h1
    exact (Ops.union_yes k A n c L A2 n2 c2 M w k0 k1 hS hn hc hS2 hn2 hc2 h1 h2).mono fun e w' hh => res_of_set h hh
  · exact (Ops.union_no t A n c L A2 n2 c2 M w ht0 ht hS (by omega) hS2 (by omega) h).mono fun e w' hh => res_of_err h hh

theorem unionref_u (t : Int) (A : Option Addr) (n c : Nat) (L : List Sp) (A2 : Option Addr) (n2 c2 : Nat) (M : List Sp) (w : World) (ht0 : -9223372036854775808 ≤ t) (ht : t ≤ 9223372036854775807)
    (hS : Spans w w.heap.size A n L) (hn : n ≤ c) (hc : c ≤ 9223372036854775807) (hS2 : Spans w w.heap.size A2 n2 M) (hn2 : n2 ≤ c2) (hc2 : c2 ≤ 9223372036854775807) :
    Calls Try.prog 29 #[.int .i64 t, .slice A n c, .slice A2 n2 c2] w (Res (er t [L, M]) t (fun x => mem L x || mem M x) w) := by
  by_cases h : er t [L, M] = 0
  · obtain ⟨h1, h2⟩ := (er_two t L M).1 h
    obtain ⟨k, rfl, k0, k1⟩ := vl_nat h1
    exact (unionref_yes k A n c L A2 n2 c2 M w k0 k1 hS (by omega) hS2 (by omega) h1 h2).mono fun e w' hh => res_of_set h hh
  · exact (unionref_no t A n c L A2 n2 c2 M w ht0 ht hS (by omega) hS2 (by omega) h).mono fun e w' hh => res_of_err h hh

theorem inter_u (t : Int) (A : Option Addr) (n c : Nat) (L : List Sp) (A2 : Option Addr) (n2 c2 : Nat) (M : List Sp) (w : World) (ht0 : -9223372036854775808 ≤ t) (ht : t ≤ 9223372036854775807)
    (hS : Spans w w.heap.size A n L) (hn : n ≤ c) (hc : c ≤ 9223372036854775807) (hS2 : Spans w w.heap.size A2 n2 M) (hn2 : n2 ≤ c2) (hc2 : c2 ≤ 9223372036854775807) :
    Calls Try.prog 30 #[.int .i64 t, .slice A n c, .slice A2 n2 c2] w (Res (er t [L, M]) t (fun x => mem L x && mem M x) w) := by
  by_cases h : er t [L, M] = 0
  · obtain ⟨h1, h2⟩ := (er_two t L M).1 h
    obtain ⟨k, rfl, k0, k1⟩ := vl_nat h1
    exact (Inter.inter_yes k A n c L A2 n2 c2 M w k0 k1 hS hn hc hS2 hn2 hc2 h1 h2).mono fun e w' hh => res_of_set h hh
  · exact (Inter.inter_no t A n c L A2 n2 c2 M w ht0 ht hS (by omega) hS2 (by omega) h).mono fun e w' hh => res_of_err h hh

theorem interref_u (t : Int) (A : Option Addr) (n c : Nat) (L : List Sp) (A2 : Option Addr) (n2 c2 : Nat) (M : List Sp) (w : World) (ht0 : -9223372036854775808 ≤ t) (ht : t ≤ 9223372036854775807)
    (hS : Spans w w.heap.size A n L) (hn : n ≤ c) (hc : c ≤ 9223372036854775807) (hS2 : Spans w w.heap.size A2 n2 M) (hn2 : n2 ≤ c2) (hc2 : c2 ≤ 9223372036854775807) :
    Calls Try.prog 31 #[.int .i64 t, .slice A n c, .slice A2 n2 c2] w (Res (er t [L, M]) t (fun x => mem L x && mem M x) w) := by
  by_cases h : er t [L, M] = 0
  · obtain ⟨h1, h2⟩ := (er_two t L M).1 h
    obtain ⟨k, rfl, k0, k1⟩ := vl_nat h1
    exact (interref_yes k A n c L A2 n2 c2 M w k0 k1 hS (by omega) hS2 (by omega) h1 h2).mono fun e w' hh => res_of_set h hh
  · exact (interref_no t A n c L A2 n2 c2 M w ht0 ht hS (by omega) hS2 (by omega) h).mono fun e w' hh => res_of_err h hh

theorem sum_u (t : Int) (A : Option Addr) (n c : Nat) (L : List Sp) (A2 : Option Addr) (n2 c2 : Nat) (M : List Sp) (w : World) (ht0 : -9223372036854775808 ≤ t) (ht : t ≤ 9223372036854775807)
    (hS : Spans w w.heap.size A n L) (hn : n ≤ c) (hc : c ≤ 9223372036854775807) (hS2 : Spans w w.heap.size A2 n2 M) (hn2 : n2 ≤ c2) (hc2 : c2 ≤ 9223372036854775807) :
    Calls Try.prog 18 #[.int .i64 t, .slice A n c, .slice A2 n2 c2] w (Res (er t [L, M]) t (sumOf t L M) w) := by
  by_cases h : er t [L, M] = 0
  · obtain ⟨h1, h2⟩ := (er_two t L M).1 h
    obtain ⟨k, rfl, k0, k1⟩ := vl_nat h1
    exact (SumOf.sum_yes k A n c L A2 n2 c2 M w k0 k1 hS hn hc hS2 hn2 hc2 h1 h2).mono fun e w' hh => res_of_set h hh
  · exact (SumOf.sum_no t A n c L A2 n2 c2 M w ht0 ht hS (by omega) hS2 (by omega) h).mono fun e w' hh => res_of_err h hh

theorem sumref_u (t : Int) (A : Option Addr) (n c : Nat) (L : List Sp) (A2 : Option Addr) (n2 c2 : Nat) (M : List Sp) (w : World) (ht0 : -9223372036854775808 ≤ t) (ht : t ≤ 9223372036854775807)
    (hS : Spans w w.heap.size A n L) (hn : n ≤ c) (hc : c ≤ 9223372036854775807) (hS2 : Spans w w.heap.size A2 n2 M) (hn2 : n2 ≤ c2) (hc2 : c2 ≤ 9223372036854775807) :
    Calls Try.prog 34 #[.int .i64 t, .slice A n c, .slice A2 n2 c2] w (Res (er t [L, M]) t (sumOf t L M) w) := by
  by_cases h : er t [L, M] = 0
  · obtain ⟨h1, h2⟩ := (er_two t L M).1 h
    obtain ⟨k, rfl, k0, k1⟩ := vl_nat h1
    exact (RefSum.sumref_yes k A n c L A2 n2 c2 M w k0 k1 hS (by omega) hS2 (by omega) h1 h2).mono fun e w' hh => res_of_set h hh
  · exact (RefSum.sumref_no t A n c L A2 n2 c2 M w ht0 ht hS (by omega) hS2 (by omega) h).mono fun e w' hh => res_of_err h hh

theorem compl_u (t : Int) (A : Option Addr) (n c : Nat) (L : List Sp) (w : World) (ht0 : -9223372036854775808 ≤ t) (ht : t ≤ 9223372036854775807) 
    (hS : Spans w w.heap.size A n L) (hn : n ≤ c) (hc : c ≤ 9223372036854775807) :
    Calls Try.prog 16 #[.int .i64 t, .slice A n c] w (Res (er t [L]) t (fun x => !mem L x) w) := by
  by_cases h : er t [L] = 0
  · have h1 := (er_one t L).1 h
    obtain ⟨k, rfl, k0, k1⟩ := vl_nat h1
    exact (Compl.compl_yes k A n c L  w k0 k1 hS (by omega) h1).mono fun e w' hh => res_of_set h hh
  · exact (Compl.compl_no t A n c L  w ht0 ht hS (by omega) h).mono fun e w' hh => res_of_err h hh

theorem complref_u (t : Int) (A : Option Addr) (n c : Nat) (L : List Sp) (w : World) (ht0 : -9223372036854775808 ≤ t) (ht : t ≤ 9223372036854775807) 
    (hS : Spans w w.heap.size A n L) (hn : n ≤ c) (hc : c ≤ 9223372036854775807) :
    Calls Try.prog 32 #[.int .i64 t, .slice A n c] w (Res (er t [L]) t (fun x => !mem L x) w) := by
  by_cases h : er t [L] = 0
  · have h1 := (er_one t L).1 h
    obtain ⟨k, rfl, k0, k1⟩ := vl_nat h1
    exact (complref_yes k A n c L  w k0 k1 hS (by omega) h1).mono fun e w' hh => res_of_set h hh
  · have h' : er t [L, []] ≠ 0 := by rw [er_more]; exact h
    have k := complref_no t A n c L  w ht0 ht hS (by omega) h'
    rw [er_more] at k
    exact k.mono fun e w' hh => res_of_err h hh

theorem shift_u (t : Int) (A : Option Addr) (n c : Nat) (L : List Sp) (d : Int) (w : World) (ht0 : -9223372036854775808 ≤ t) (ht : t ≤ 9223372036854775807) (hd0 : -9223372036854775808 ≤ d) (hd1 : d ≤ 9223372036854775807)
    (hS : Spans w w.heap.size A n L) (hn : n ≤ c) (hc : c ≤ 9223372036854775807) :
    Calls Try.prog 17 #[.int .i64 t, .slice A n c, .int .i64 d] w (Res (er t [L]) t (turned t d (mem L)) w) := by
  by_cases h : er t [L] = 0
  · have h1 := (er_one t L).1 h
    obtain ⟨k, rfl, k0, k1⟩ := vl_nat h1
    exact (Ops.shift_yes k A n c L d w k0 k1 hd0 hd1 hS hn hc h1).mono fun e w' hh => res_of_set h hh
  · exact (Ops.shift_no t A n c L d w ht0 ht hS (by omega) h).mono fun e w' hh => res_of_err h hh

theorem shiftref_u (t : Int) (A : Option Addr) (n c : Nat) (L : List Sp) (d : Int) (w : World) (ht0 : -9223372036854775808 ≤ t) (ht : t ≤ 9223372036854775807) (hd0 : -9223372036854775808 ≤ d) (hd1 : d ≤ 9223372036854775807)
    (hS : Spans w w.heap.size A n L) (hn : n ≤ c) (hc : c ≤ 9223372036854775807) :
    Calls Try.prog 33 #[.int .i64 t, .slice A n c, .int .i64 d] w (Res (er t [L]) t (turned t d (mem L)) w) := by
  by_cases h : er t [L] = 0
  · have h1 := (er_one t L).1 h
    obtain ⟨k, rfl, k0, k1⟩ := vl_nat h1
    exact (RefShift.shiftref_yes k A n c L d w k0 k1 hd0 hd1 hS (by omega) h1).mono fun e w' hh => res_of_set h hh
  · have h' : er t [L, []] ≠ 0 := by rw [er_more]; exact h
    have k := RefShift.shiftref_no t A n c L d w ht0 ht hS (by omega) h'
    rw [er_more] at k
    exact k.mono fun e w' hh => res_of_err h hh

theorem same_yes (A : Option Addr) (n c : Nat) (L : List Sp) (A2 : Option Addr) (n2 c2 : Nat) (M : List Sp) (w : World) (h : L = M)
    (hS : Spans w w.heap.size A n L) (hn : n ≤ 9223372036854775807) (hS2 : Spans w w.heap.size A2 n2 M) (hn2 : n2 ≤ 9223372036854775807) :
    Calls Try.prog 20 #[.slice A n c, .slice A2 n2 c2] w fun e w' => e = .returned (.bool true) ∧ Below w.heap.size w w' := by
  have k := Same.same_any A n c L A2 n2 c2 M w hS hn hS2 hn2
  have e : Same.same L M = true := by simp [Same.same, h]
  rwa [e] at k

theorem awake_any (w : World) : Calls Try.prog 22 #[] w fun e w' => e = .returned (.bool true) ∧ Below w.heap.size w w' := by
  go_enter Try.func22, Try.ntmps22
  go_wp2_with fail
  refine (Ops.make_yes 7 2 3 w (by omega) (by omega) (by omega) (by omega) (by omega) (by omega)).mono ?_
  rintro e w1 ⟨A, n, c, rfl, L, hO, hv, hm, hb⟩
  have hf := own_form hO
  have hL : L = [(2, 5)] := by
    refine vf_ext L _ 0 7 hv (by decide) fun y => ?_
    by_cases hy : 0 ≤ y ∧ y < 7
    · rw [hm y hy.1 hy.2]
      have hc : y = 0 ∨ y = 1 ∨ y = 2 ∨ y = 3 ∨ y = 4 ∨ y = 5 ∨ y = 6 := by omega
      rcases hc with rfl | rfl | rfl | rfl | rfl | rfl | rfl <;> decide
    · rw [vf_out L 0 7 y hv (by omega), vf_out [(2, 5)] 0 7 y (by decide) (by omega)]
  have HL := Lib.hid hL
  have hS := hO.spans
  clear hL hO hm hv
  go_wp2_with fail
  refine (same_yes A n c L (some ⟨w1.heap.size, 0, none⟩) 1 1 [(2, 5)] _ HL.out ((hS.below ((Below.refl _ _).alloc (Nat.le_refl _) _)).more (by simp)) (by omega) ((Ops.one_span w1 2 5 29).more (by simp)) (by omega)).mono ?_
  rintro e w2 ⟨rfl, hb2⟩
  have hb3 := (hb.alloc hb.size _).trans (hb2.mono (by have := hb.size; simp; omega))
  clear hb2
  go_wp2_with fail
  go_ret
  exact ⟨rfl, hb3⟩

theorem make_x (t s n : Int) (w : World) (x : Int) (hx : mk t = x) (ht0 : -9223372036854775808 ≤ t) (ht : t ≤ 9223372036854775807) (hs0 : -9223372036854775808 ≤ s) (hs1 : s ≤ 9223372036854775807) (hn0 : -9223372036854775808 ≤ n) (hn1 : n ≤ 9223372036854775807) :
    Calls Try.prog 15 #[.int .i64 t, .int .i64 s, .int .i64 n] w (Res x t (arc t s n) w) := hx ▸ make_u t s n w ht0 ht hs0 hs1 hn0 hn1
theorem makeref_x (t s n : Int) (w : World) (x : Int) (hx : mk t = x) (ht0 : -9223372036854775808 ≤ t) (ht : t ≤ 9223372036854775807) (hs0 : -9223372036854775808 ≤ s) (hs1 : s ≤ 9223372036854775807) (hn0 : -9223372036854775808 ≤ n) (hn1 : n ≤ 9223372036854775807) :
    Calls Try.prog 26 #[.int .i64 t, .int .i64 s, .int .i64 n] w (Res x t (arc t s n) w) := hx ▸ makeref_u t s n w ht0 ht hs0 hs1 hn0 hn1
theorem union_x (t : Int) (A : Option Addr) (n c : Nat) (L : List Sp) (A2 : Option Addr) (n2 c2 : Nat) (M : List Sp) (w : World) (x : Int) (hx : er t [L, M] = x) (ht0 : -9223372036854775808 ≤ t) (ht : t ≤ 9223372036854775807)
    (hS : Spans w w.heap.size A n L) (hn : n ≤ c) (hc : c ≤ 9223372036854775807) (hS2 : Spans w w.heap.size A2 n2 M) (hn2 : n2 ≤ c2) (hc2 : c2 ≤ 9223372036854775807) :
    Calls Try.prog 28 #[.int .i64 t, .slice A n c, .slice A2 n2 c2] w (Res x t (fun x => mem L x || mem M x) w) := hx ▸ union_u t A n c L A2 n2 c2 M w ht0 ht hS hn hc hS2 hn2 hc2
theorem unionref_x (t : Int) (A : Option Addr) (n c : Nat) (L : List Sp) (A2 : Option Addr) (n2 c2 : Nat) (M : List Sp) (w : World) (x : Int) (hx : er t [L, M] = x) (ht0 : -9223372036854775808 ≤ t) (ht : t ≤ 9223372036854775807)
    (hS : Spans w w.heap.size A n L) (hn : n ≤ c) (hc : c ≤ 9223372036854775807) (hS2 : Spans w w.heap.size A2 n2 M) (hn2 : n2 ≤ c2) (hc2 : c2 ≤ 9223372036854775807) :
    Calls Try.prog 29 #[.int .i64 t, .slice A n c, .slice A2 n2 c2] w (Res x t (fun x => mem L x || mem M x) w) := hx ▸ unionref_u t A n c L A2 n2 c2 M w ht0 ht hS hn hc hS2 hn2 hc2
theorem inter_x (t : Int) (A : Option Addr) (n c : Nat) (L : List Sp) (A2 : Option Addr) (n2 c2 : Nat) (M : List Sp) (w : World) (x : Int) (hx : er t [L, M] = x) (ht0 : -9223372036854775808 ≤ t) (ht : t ≤ 9223372036854775807)
    (hS : Spans w w.heap.size A n L) (hn : n ≤ c) (hc : c ≤ 9223372036854775807) (hS2 : Spans w w.heap.size A2 n2 M) (hn2 : n2 ≤ c2) (hc2 : c2 ≤ 9223372036854775807) :
    Calls Try.prog 30 #[.int .i64 t, .slice A n c, .slice A2 n2 c2] w (Res x t (fun x => mem L x && mem M x) w) := hx ▸ inter_u t A n c L A2 n2 c2 M w ht0 ht hS hn hc hS2 hn2 hc2
theorem interref_x (t : Int) (A : Option Addr) (n c : Nat) (L : List Sp) (A2 : Option Addr) (n2 c2 : Nat) (M : List Sp) (w : World) (x : Int) (hx : er t [L, M] = x) (ht0 : -9223372036854775808 ≤ t) (ht : t ≤ 9223372036854775807)
    (hS : Spans w w.heap.size A n L) (hn : n ≤ c) (hc : c ≤ 9223372036854775807) (hS2 : Spans w w.heap.size A2 n2 M) (hn2 : n2 ≤ c2) (hc2 : c2 ≤ 9223372036854775807) :
    Calls Try.prog 31 #[.int .i64 t, .slice A n c, .slice A2 n2 c2] w (Res x t (fun x => mem L x && mem M x) w) := hx ▸ interref_u t A n c L A2 n2 c2 M w ht0 ht hS hn hc hS2 hn2 hc2
theorem sum_x (t : Int) (A : Option Addr) (n c : Nat) (L : List Sp) (A2 : Option Addr) (n2 c2 : Nat) (M : List Sp) (w : World) (x : Int) (hx : er t [L, M] = x) (ht0 : -9223372036854775808 ≤ t) (ht : t ≤ 9223372036854775807)
    (hS : Spans w w.heap.size A n L) (hn : n ≤ c) (hc : c ≤ 9223372036854775807) (hS2 : Spans w w.heap.size A2 n2 M) (hn2 : n2 ≤ c2) (hc2 : c2 ≤ 9223372036854775807) :
    Calls Try.prog 18 #[.int .i64 t, .slice A n c, .slice A2 n2 c2] w (Res x t (sumOf t L M) w) := hx ▸ sum_u t A n c L A2 n2 c2 M w ht0 ht hS hn hc hS2 hn2 hc2
theorem sumref_x (t : Int) (A : Option Addr) (n c : Nat) (L : List Sp) (A2 : Option Addr) (n2 c2 : Nat) (M : List Sp) (w : World) (x : Int) (hx : er t [L, M] = x) (ht0 : -9223372036854775808 ≤ t) (ht : t ≤ 9223372036854775807)
    (hS : Spans w w.heap.size A n L) (hn : n ≤ c) (hc : c ≤ 9223372036854775807) (hS2 : Spans w w.heap.size A2 n2 M) (hn2 : n2 ≤ c2) (hc2 : c2 ≤ 9223372036854775807) :
    Calls Try.prog 34 #[.int .i64 t, .slice A n c, .slice A2 n2 c2] w (Res x t (sumOf t L M) w) := hx ▸ sumref_u t A n c L A2 n2 c2 M w ht0 ht hS hn hc hS2 hn2 hc2
theorem compl_x (t : Int) (A : Option Addr) (n c : Nat) (L : List Sp) (w : World) (x : Int) (hx : er t [L] = x) (ht0 : -9223372036854775808 ≤ t) (ht : t ≤ 9223372036854775807)
    (hS : Spans w w.heap.size A n L) (hn : n ≤ c) (hc : c ≤ 9223372036854775807) :
    Calls Try.prog 16 #[.int .i64 t, .slice A n c] w (Res x t (fun x => !mem L x) w) := hx ▸ compl_u t A n c L w ht0 ht hS hn hc
theorem complref_x (t : Int) (A : Option Addr) (n c : Nat) (L : List Sp) (w : World) (x : Int) (hx : er t [L] = x) (ht0 : -9223372036854775808 ≤ t) (ht : t ≤ 9223372036854775807)
    (hS : Spans w w.heap.size A n L) (hn : n ≤ c) (hc : c ≤ 9223372036854775807) :
    Calls Try.prog 32 #[.int .i64 t, .slice A n c] w (Res x t (fun x => !mem L x) w) := hx ▸ complref_u t A n c L w ht0 ht hS hn hc
theorem shift_x (t : Int) (A : Option Addr) (n c : Nat) (L : List Sp) (d : Int) (w : World) (x : Int) (hx : er t [L] = x) (ht0 : -9223372036854775808 ≤ t) (ht : t ≤ 9223372036854775807) (hd0 : -9223372036854775808 ≤ d) (hd1 : d ≤ 9223372036854775807)
    (hS : Spans w w.heap.size A n L) (hn : n ≤ c) (hc : c ≤ 9223372036854775807) :
    Calls Try.prog 17 #[.int .i64 t, .slice A n c, .int .i64 d] w (Res x t (turned t d (mem L)) w) := hx ▸ shift_u t A n c L d w ht0 ht hd0 hd1 hS hn hc
theorem shiftref_x (t : Int) (A : Option Addr) (n c : Nat) (L : List Sp) (d : Int) (w : World) (x : Int) (hx : er t [L] = x) (ht0 : -9223372036854775808 ≤ t) (ht : t ≤ 9223372036854775807) (hd0 : -9223372036854775808 ≤ d) (hd1 : d ≤ 9223372036854775807)
    (hS : Spans w w.heap.size A n L) (hn : n ≤ c) (hc : c ≤ 9223372036854775807) :
    Calls Try.prog 33 #[.int .i64 t, .slice A n c, .int .i64 d] w (Res x t (turned t d (mem L)) w) := hx ▸ shiftref_u t A n c L d w ht0 ht hd0 hd1 hS hn hc

theorem ints_more {w : World} {B B' n : Nat} {A : Option Addr} (h : Source.Ints w B A n) (hB : B ≤ B') : Source.Ints w B' A n := fun j hj => by
  obtain ⟨ad, z, e, h1, h2⟩ := h j hj
  exact ⟨ad, z, e, by omega, h2⟩

end Go.Proofs.Ytapflikdoiedeaa.Uni
