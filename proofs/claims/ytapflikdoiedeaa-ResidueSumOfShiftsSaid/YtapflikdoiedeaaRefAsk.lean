/-
  Contracts of the document's own questions of a set: is a residue in it, how many, which is the next.
-/
import Derived.Test.YtapflikdoiedeaaErrs
import Derived.Test.YtapflikdoiedeaaQMath
namespace Go.Proofs.Ytapflikdoiedeaa.RefAsk
open Go.ChangeShapes Go.WideShapes Go.ChangeAt Go.RowKit Plain Mem Nums Valid Errs
set_option linter.unusedVariables false

/-- whether the residue of x is in the set -/
def hasB (t : Int) (L : List Sp) (x : Int) : Bool := vl t L && mem L (x % t)
def countI (t : Int) (L : List Sp) : Int := if vl t L then size L else 0

theorem take_get (L : List Sp) (k : Nat) (p : Sp) (x : Int) (h : L[k]? = some p) : mem (L.take (k + 1)) x = (mem (L.take k) x || (decide (p.1 ≤ x) && decide (x < p.2))) := by
  have hk : k < L.length := (List.getElem?_eq_some_iff.1 h).1
  have e : L[k] = p := (List.getElem?_eq_some_iff.1 h).2
  rw [List.take_succ_eq_append_getElem hk, mem_append, mem_one, e]

theorem hasref_any (t : Int) (A : Option Addr) (n c : Nat) (L : List Sp) (x : Int) (w : World) (ht0 : -9223372036854775808 ≤ t) (ht : t ≤ 9223372036854775807) (hx0 : -9223372036854775808 ≤ x) (hx1 : x ≤ 9223372036854775807)
    (hS : Spans w w.heap.size A n L) (hn : n ≤ 9223372036854775807) :
    Calls Try.prog 37 #[.int .i64 t, .slice A n c, .int .i64 x] w fun e w' => e = .returned (.bool (hasB t L x)) ∧ Below w.heap.size w w' := by
  have HS := Lib.hid hS
  cases hv : vl t L with
  | false =>
    have E : Hid (hasB t L x = false) := by simp [Hid, hasB, hv]
    have HC := Lib.hid (validref_no t A n c L w ht0 ht hS hn hv)
    clear hv hS
    go_enter Try.func37, Try.ntmps37
    go_wp2_with fail
    refine HC.out.mono ?_
    rintro e w1 ⟨rfl, hb⟩
    go_wp2_with fail
    go_ret
    exact ⟨retb E.out.symm, hb⟩
  | true =>
    have hp : 1 ≤ t ∧ t ≤ 7200 := (vp_iff t).1 (by simp only [vl, Bool.and_eq_true] at hv; exact hv.1)
    have E : Hid (hasB t L x = mem L (x % t)) := by simp [Hid, hasB, hv]
    have HC := Lib.hid (validref_yes t A n c L w ht0 ht hS hn hv)
    have m0 : 0 ≤ x % t := Int.emod_nonneg _ (by omega)
    have m1 : x % t < t := Int.emod_lt_of_pos _ (by omega)
    clear hv hS
    go_enter Try.func37, Try.ntmps37
    go_wp2_with fail
    refine HC.out.mono ?_
    rintro e w1 ⟨rfl, hb⟩
    go_wp2_with fail
    refine (mod_ref x t _ hx0 hx1 (by omega) (by omega)).mono ?_
    rintro e w2 ⟨rfl, rfl⟩
    generalize x % t = r at *
    go_wp2_with fail
    go_loopw [8] (fun i wr => ∃ k : Nat, k ≤ n ∧ i = .int .i64 k ∧ Hid (mem (L.take k) r = false) ∧ wr = w1) (fun i _ => n - (intOf i).toNat)
    case atStart => exact ⟨0, Nat.zero_le _, rfl, rfl, rfl⟩
    case round =>
      obtain ⟨k, hk, rfl, hM, rfl⟩ := hrel
      by_cases hlt : k < n
      · obtain ⟨ad, p, rfl, hab, hp', c0, c1⟩ := (HS.out.below hb).load hlt
        have HT := Lib.hid (take_get L k p r hp')
        have HG : Hid (p.1 ≤ r → r < p.2 → mem L r = true) := fun a b => mem_get L k p r hp' a b
        clear hp'
        obtain ⟨p1, p2⟩ := p
        simp only at c0 c1 HT HG
        by_cases t1 : p1 ≤ r
        · by_cases t2 : r < p2
          · have R : Hid (hasB t L x = true) := E.out.trans (HG.out t1 t2)
            go_wp2
            go_ret
            exact ⟨retb R.out.symm, hb⟩
          · have d2 : decide (r < p2) = false := by simpa using t2
            go_wp2
            go_roundw
            case rel => exact ⟨k + 1, by omega, by go_num, by rw [Hid, HT.out, hM.out]; simp; omega, (by simp)⟩
            case measure => simp [intOf]; omega
        · have d1 : decide (p1 ≤ r) = false := by simpa using t1
          go_wp2
          go_roundw
          case rel => exact ⟨k + 1, by omega, by go_num, by rw [Hid, HT.out, hM.out]; simp; omega, (by simp)⟩
          case measure => simp [intOf]; omega
      · have R : Hid (hasB t L x = false) := by
          rw [Hid, E.out, ← hM.out, List.take_of_length_le (by have := HS.out.1; omega)]
        go_wp2
        go_ret
        exact ⟨retb R.out.symm, hb⟩

theorem countref_any (t : Int) (A : Option Addr) (n c : Nat) (L : List Sp) (w : World) (ht0 : -9223372036854775808 ≤ t) (ht : t ≤ 9223372036854775807)
    (hS : Spans w w.heap.size A n L) (hn : n ≤ 9223372036854775807) :
    Calls Try.prog 39 #[.int .i64 t, .slice A n c] w fun e w' => e = .returned (.int .i64 (countI t L)) ∧ Below w.heap.size w w' := by
  have HS := Lib.hid hS
  cases hv : vl t L with
  | false =>
    have E : Hid (countI t L = 0) := by simp [Hid, countI, hv]
    have HC := Lib.hid (validref_no t A n c L w ht0 ht hS hn hv)
    clear hv hS
    go_enter Try.func39, Try.ntmps39
    go_wp2_with fail
    refine HC.out.mono ?_
    rintro e w1 ⟨rfl, hb⟩
    go_wp2_with fail
    go_ret
    exact ⟨ret1 E.out.symm, hb⟩
  | true =>
    have hp : 1 ≤ t ∧ t ≤ 7200 := (vp_iff t).1 (by simp only [vl, Bool.and_eq_true] at hv; exact hv.1)
    have hvf : Hid (vf 0 t L = true) := by simp only [vl, Bool.and_eq_true] at hv; exact hv.2
    have E : Hid (countI t L = size L) := by simp [Hid, countI, hv]
    have HC := Lib.hid (validref_yes t A n c L w ht0 ht hS hn hv)
    clear hv hS
    go_enter Try.func39, Try.ntmps39
    go_wp2_with fail
    refine HC.out.mono ?_
    rintro e w1 ⟨rfl, hb⟩
    go_wp2_with fail
    go_loopw [5, 6] (fun s i wr => ∃ (k : Nat) (m : Int), k ≤ n ∧ i = .int .i64 k ∧ s = .int .i64 m ∧ Hid (m = size (L.take k)) ∧ Below w.heap.size w wr) (fun _ i _ => n - (intOf i).toNat)
    case atStart => exact ⟨0, 0, Nat.zero_le _, rfl, rfl, rfl, hb⟩
    case round =>
      obtain ⟨k, m, hk, rfl, rfl, hm, hbr⟩ := hrel
      by_cases hlt : k < n
      · obtain ⟨ad, p, rfl, hab, hp', c0, c1⟩ := (HS.out.below hbr).load hlt
        have HT := Lib.hid (size_take L k p hp')
        have r1 := size_range (L.take k) 0 t (vf_take L 0 t k hvf.out) (by omega)
        have r2 := size_range (L.take (k + 1)) 0 t (vf_take L 0 t (k + 1) hvf.out) (by omega)
        rw [HT.out] at r2
        rw [← hm.out] at r1 r2
        clear hp'
        obtain ⟨p1, p2⟩ := p
        simp only at c0 c1 HT r2
        have s1 : IntKind.i64.wrap (p2 - p1) = p2 - p1 := IntWalk.i64_in _ (by omega)
        have s2 : IntKind.i64.wrap (m + (p2 - p1)) = m + (p2 - p1) := IntWalk.i64_in _ (by omega)
        go_wp2
        go_quiet (fail)
        clear s1 s2
        go_wp2
        go_roundw
        case rel => exact ⟨k + 1, _, by omega, by go_num, rfl, by rw [Hid, HT.out, hm.out], below_draws hbr _⟩
        case measure => simp [intOf]; omega
      · have R : Hid (countI t L = m) := by rw [Hid, E.out, hm.out, List.take_of_length_le (by have := HS.out.1; omega)]
        go_wp2
        go_ret
        exact ⟨ret1 R.out.symm, hbr⟩

def NextPost (t : Int) (L : List Sp) (s : Int) (w : World) (e : Ending) (w' : World) : Prop :=
  ∃ d ok, e = .returned (.tuple #[.int .i64 d, .bool ok]) ∧ NextIs (vl t L) t (mem L) s d ok ∧ Below w.heap.size w w'

theorem hasref_is (t : Int) (A : Option Addr) (n c : Nat) (L : List Sp) (x : Int) (b : Bool) (w : World) (ht0 : -9223372036854775808 ≤ t) (ht : t ≤ 9223372036854775807) (hx0 : -9223372036854775808 ≤ x) (hx1 : x ≤ 9223372036854775807)
    (hS : Spans w w.heap.size A n L) (hn : n ≤ 9223372036854775807) (h : hasB t L x = b) :
    Calls Try.prog 37 #[.int .i64 t, .slice A n c, .int .i64 x] w fun e w' => e = .returned (.bool b) ∧ Below w.heap.size w w' := by
  have k := hasref_any t A n c L x w ht0 ht hx0 hx1 hS hn
  rwa [h] at k

theorem nextref_any (t : Int) (A : Option Addr) (n c : Nat) (L : List Sp) (s : Int) (w : World) (ht0 : -9223372036854775808 ≤ t) (ht : t ≤ 9223372036854775807) (hx0 : -9223372036854775808 ≤ s) (hx1 : s ≤ 9223372036854775807)
    (hS : Spans w w.heap.size A n L) (hn : n ≤ 9223372036854775807) :
    Calls Try.prog 35 #[.int .i64 t, .slice A n c, .int .i64 s] w (NextPost t L s w) := by
  have HS := Lib.hid hS
  cases hv : vl t L with
  | false =>
    have E : Hid (NextIs (vl t L) t (mem L) s 0 false) := .inr ⟨rfl, rfl, .inl hv⟩
    have HC := Lib.hid (validref_no t A n c L w ht0 ht hS hn hv)
    clear hv hS
    go_enter Try.func35, Try.ntmps35
    go_wp2_with fail
    refine HC.out.mono ?_
    rintro e w1 ⟨rfl, hb⟩
    go_wp2_with fail
    go_ret2
    exact ⟨0, false, rfl, E.out, hb⟩
  | true =>
    have HV := Lib.hid hv
    have hp : 1 ≤ t ∧ t ≤ 7200 := (vp_iff t).1 (by simp only [vl, Bool.and_eq_true] at hv; exact hv.1)
    have HC := Lib.hid (validref_yes t A n c L w ht0 ht hS hn hv)
    have m0 : 0 ≤ s % t := Int.emod_nonneg _ (by omega)
    have m1 : s % t < t := Int.emod_lt_of_pos _ (by omega)
    clear hv hS
    go_enter Try.func35, Try.ntmps35
    go_wp2_with fail
    refine HC.out.mono ?_
    rintro e w1 ⟨rfl, hb⟩
    go_wp2_with fail
    refine (mod_ref s t _ hx0 hx1 (by omega) (by omega)).mono ?_
    rintro e w2 ⟨rfl, rfl⟩
    have HE : Hid (∀ d ok, NextIs (vl t L) t (mem L) (s % t) d ok → NextIs (vl t L) t (mem L) s d ok) := fun d ok h => h.mod
    generalize s % t = r at *
    go_wp2_with fail
    go_loopw [9] (fun i wr => ∃ k : Nat, k ≤ t ∧ i = .int .i64 k ∧ Hid (∀ j, 0 ≤ j → j < (k : Int) → mem L ((r + j) % t) = false) ∧ Below w.heap.size w wr) (fun i _ => t.toNat - (intOf i).toNat)
    case atStart => exact ⟨0, by omega, rfl, fun j a b => by omega, hb⟩
    case round =>
      obtain ⟨k, hk, rfl, hM, hbr⟩ := hrel
      have hz := hbr.size
      by_cases hlt : (k : Int) < t
      · cases hm : mem L ((r + k) % t) with
        | false =>
          have HH := Lib.hid (fun (wx : World) (hbx : Below w.heap.size w wx) => hasref_is t A n c L (r + k) false wx ht0 ht (by omega) (by omega) ((HS.out.below hbx).more hbx.size) hn (by have := HV.out; simp [hasB, this, hm]))
          have HN : Hid (∀ j, 0 ≤ j → j < ((k + 1 : Nat) : Int) → mem L ((r + j) % t) = false) := fun j a b => by
            by_cases e : j = k
            · rw [e]; exact hm
            · exact hM.out j a (by omega)
          clear hm hM
          go_wp2_with fail
          refine (HH.out _ hbr).mono ?_
          rintro e w3 ⟨rfl, hb3⟩
          go_wp2_with fail
          go_roundw
          case rel => exact ⟨k + 1, by omega, by go_num, HN, hbr.trans (hb3.mono hz)⟩
          case measure => simp [intOf]; omega
        | true =>
          have HH := Lib.hid (fun (wx : World) (hbx : Below w.heap.size w wx) => hasref_is t A n c L (r + k) true wx ht0 ht (by omega) (by omega) ((HS.out.below hbx).more hbx.size) hn (by have := HV.out; simp [hasB, this, hm]))
          have HN : Hid (NextIs (vl t L) t (mem L) s k true) := HE.out _ _ (.inl ⟨rfl, HV.out, by omega, hlt, hm, fun j a b => hM.out j a b⟩)
          clear hm hM
          go_wp2_with fail
          refine (HH.out _ hbr).mono ?_
          rintro e w3 ⟨rfl, hb3⟩
          go_wp2_with fail
          go_ret2
          exact ⟨k, true, rfl, HN.out, hbr.trans (hb3.mono hz)⟩
      · have HN : Hid (NextIs (vl t L) t (mem L) s 0 false) := HE.out _ _ (.inr ⟨rfl, rfl, .inr fun j a b => hM.out j a (by omega)⟩)
        clear hM
        go_wp2
        go_ret2
        exact ⟨0, false, rfl, HN.out, hbr⟩

end Go.Proofs.Ytapflikdoiedeaa.RefAsk
