/-
  Contract of the program's function that merges two ascending lists of spans into one list in which spans neither overlap nor touch.
-/
import Derived.Test.YtapflikdoiedeaaJoin
namespace Go.Proofs.Ytapflikdoiedeaa.Unite
open Go.ChangeShapes Go.WideShapes Go.ChangeAt Go.RowKit Plain Mem Nums Valid Errs Marks Gather Join
set_option linter.unusedVariables false

/-- what a call leaves that returns a valid list of its own of the numbers at which f says yes -/
def IsList (B : Nat) (T : Int) (f : Int → Bool) (w : World) (A : Option Addr) (n c : Nat) (w' : World) : Prop :=
  ∃ U, Own w' B (.slice A n c) n U ∧ vf 0 T U = true ∧ (∀ x, mem U x = f x) ∧ Below B w w'
def ListPost (B : Nat) (T : Int) (f : Int → Bool) (w : World) (e : Ending) (w' : World) : Prop := ∃ A n c, e = .returned (.slice A n c) ∧ IsList B T f w A n c w'

def lenV : Value → Nat
  | .slice _ n _ => n
  | _ => 0

theorem af_low (L : List Sp) (a b T : Int) (h : af a T L = true) (hb : ∀ p r, L = p :: r → b ≤ p.1) : af b T L = true := by
  cases L with
  | nil => rfl
  | cons p r =>
    rw [af_cons] at h ⊢
    exact ⟨hb p r rfl, h.2⟩
theorem af_head (a T : Int) (p : Sp) (r : List Sp) (h : af a T (p :: r) = true) : a ≤ p.1 ∧ p.1 < p.2 ∧ p.2 ≤ T ∧ af p.1 T r = true := (af_cons a T p r).1 h

/-- what holds of the merged list and of the two lists that are left -/
structure Mid (T : Int) (f : Int → Bool) (U La Lb : List Sp) : Prop where
  u : vf 0 T U = true
  a : af (lf U) T La = true
  b : af (lf U) T Lb = true
  m : ∀ x, (mem U x || (mem La x || mem Lb x)) = f x

theorem nx_ge (L : List Sp) (a t : Int) (h : vf a t L = true) : a ≤ nx a L := by
  induction L generalizing a with
  | nil => exact Int.le_refl _
  | cons p L ih =>
    rw [vf_cons] at h
    rw [nx_cons]
    have := ih _ h.2.2.2
    omega
theorem af_low0 (U : List Sp) (T : Int) (h : vf 0 T U = true) : 0 ≤ lf U := by
  by_cases hn : U = []
  · subst hn; exact Int.le_refl _
  · obtain ⟨M, p, rfl⟩ := snoc_of U hn
    rw [lf_snoc]
    have h1 := (vf_snoc M 0 T p).1 h
    have h2 := nx_ge M 0 T h1.1
    omega

theorem Mid.takeA {T : Int} {f : Int → Bool} {U r Lb : List Sp} {p : Sp} (h : Mid T f U (p :: r) Lb) (hb : ∀ q s, Lb = q :: s → p.1 ≤ q.1) : Mid T f (joined U p) r Lb := by
  have ha := af_head _ _ _ _ h.a
  have h0 := af_low0 U T h.u
  obtain ⟨j1, j2, j3⟩ := joined_vf U p T h.u ha.1 (by omega) ha.2.1 ha.2.2.1
  refine ⟨j1, af_mono r _ _ _ _ j2 (Int.le_refl _) ha.2.2.2, af_low Lb _ _ T h.b (fun q s e => by have := hb q s e; omega), fun x => ?_⟩
  rw [j3, ← h.m x, mem_cons]
  cases mem U x <;> cases (decide (p.1 ≤ x) && decide (x < p.2)) <;> simp
theorem Mid.takeB {T : Int} {f : Int → Bool} {U r La : List Sp} {p : Sp} (h : Mid T f U La (p :: r)) (hb : ∀ q s, La = q :: s → p.1 ≤ q.1) : Mid T f (joined U p) La r := by
  have ha := af_head _ _ _ _ h.b
  have h0 := af_low0 U T h.u
  obtain ⟨j1, j2, j3⟩ := joined_vf U p T h.u ha.1 (by omega) ha.2.1 ha.2.2.1
  refine ⟨j1, af_low La _ _ T h.a (fun q s e => by have := hb q s e; omega), af_mono r _ _ _ _ j2 (Int.le_refl _) ha.2.2.2, fun x => ?_⟩
  rw [j3, ← h.m x, mem_cons]
  cases mem U x <;> cases mem La x <;> cases (decide (p.1 ≤ x) && decide (x < p.2)) <;> simp

theorem spans_tail {w : World} {B n : Nat} {ad : Addr} {p : Sp} {r : List Sp} (h : Spans w B (some ad) (n + 1) (p :: r)) : Spans w B (some (ad.add 2)) n r := by
  have := h.drop 1
  simpa using this
theorem spans_tail' {w : World} {B n : Nat} {ad : Addr} {p : Sp} {r : List Sp} (h : Spans w B (some ad) (n + 1) (p :: r)) : Spans w B (some ⟨ad.block, ad.off + 2, none⟩) n r := spans_tail h
theorem carry {w w2 : World} {B n k : Nat} {A : Option Addr} {L : List Sp} (h : Spans w B A n L) (hb : Below B (w.drewN k) w2) : Spans w2 B A n L := Spans.below (w := w.drewN k) h hb
theorem spans_end {w : World} {B : Nat} {A A' : Option Addr} {p : Sp} {r : List Sp} (h : Spans w B A 1 (p :: r)) : Spans w B A' 0 r := by
  have hl := h.1
  simp at hl
  subst hl
  exact Spans.nil _ _ _

set_option maxHeartbeats 1600000 in
theorem unite_any (T : Int) (Aa : Option Addr) (na ca : Nat) (La : List Sp) (Ab : Option Addr) (nb cb : Nat) (Lb : List Sp) (w : World) (hT : T ≤ 100000)
    (hSa : Spans w w.heap.size Aa na La) (hna : na ≤ 100000) (hca : na ≤ ca) (hca2 : ca ≤ 9223372036854775807) (hSb : Spans w w.heap.size Ab nb Lb) (hnb : nb ≤ 100000) (hcb : nb ≤ cb) (hcb2 : cb ≤ 9223372036854775807)
    (hfa : af 0 T La = true) (hfb : af 0 T Lb = true) :
    Calls Try.prog 47 #[.slice Aa na ca, .slice Ab nb cb] w (ListPost w.heap.size T (fun x => mem La x || mem Lb x) w) := by
  obtain ⟨i0, hi, hz0, hz1, hz2⟩ := info_parts info29
  have HSa := Lib.hid hSa
  have HSb := Lib.hid hSb
  have HM : Hid (Mid T (fun x => mem La x || mem Lb x) [] La Lb) := ⟨rfl, hfa, hfb, fun x => by rw [mem_nil, Bool.false_or]⟩
  clear hSa hSb hfa hfb
  generalize (fun x => mem La x || mem Lb x) = F at *
  go_enter Try.func47, Try.ntmps47
  go_wp2_with (refine wpList_make_own _ rfl _ _ 22 rfl w.heap.size 29 i0 _ 2 Try.underlying22 hi hz0 hz1 .i64 .i64 _ (na + nb) rfl rfl (by omega) (by rw [hz2]; omega) (by unfold maxLen; omega) (Nat.le_refl _) ?_)
  intro w1 hown hgrow
  have hO : Own w1 w.heap.size (.slice (some ⟨w.heap.size, 0, none⟩) 0 (na + nb)) 0 [] := ⟨rfl, hown⟩
  have hbw : Below w.heap.size w w1 := (Below.refl _ _).grown hgrow (Nat.le_refl _) (by simp)
  clear hown hgrow
  go_wp2
  go_loopw [0, 1, 5] (fun a b u wr => ∃ (Aa : Option Addr) (na ca : Nat) (La : List Sp) (Ab : Option Addr) (nb cb : Nat) (Lb : List Sp) (A : Option Addr) (n c : Nat) (U : List Sp),
      a = .slice Aa na ca ∧ b = .slice Ab nb cb ∧ u = .slice A n c ∧ na ≤ ca ∧ ca ≤ 9223372036854775807 ∧ nb ≤ cb ∧ cb ≤ 9223372036854775807 ∧ Spans wr w.heap.size Aa na La ∧ Spans wr w.heap.size Ab nb Lb ∧ Own wr w.heap.size (.slice A n c) n U ∧ Hid (Mid T F U La Lb) ∧ Below w.heap.size w wr)
    (fun a b _ _ => lenV a + lenV b)
  case atStart => exact ⟨_, _, _, La, _, _, _, Lb, _, _, _, [], rfl, rfl, rfl, hca, hca2, hcb, hcb2, HSa.out.below hbw, HSb.out.below hbw, hO, HM, hbw⟩
  case round =>
    clear hO HSa HSb HM hca hca2 hcb hcb2 hna hnb
    obtain ⟨Aa, na, ca, La, Ab, nb, cb, Lb, A, n, c, U, rfl, rfl, rfl, hca, hca2, hcb, hcb2, hSa, hSb, hO, HM, hbr⟩ := hrel
    have hz := hbr.size
    have hn : n ≤ 1000000 := by
      have h1 := vf_len U 0 T HM.out.u
      have h2 := hO.1
      rcases Int.lt_or_le (T + 1) 0 with hlt | hge
      · cases U with
        | nil => simp at h2; omega
        | cons p r => have := (vf_cons 0 T p r).1 HM.out.u; omega
      · have := h1 hge; omega
    by_cases ea : na = 0
    · by_cases eb : nb = 0
      · subst ea
        subst eb
        have R : Hid (IsList w.heap.size T F w A n c wr) := by
          have h1 : La = [] := List.eq_nil_of_length_eq_zero hSa.1
          have h2 : Lb = [] := List.eq_nil_of_length_eq_zero hSb.1
          subst h1
          subst h2
          exact ⟨U, hO, HM.out.u, fun x => by rw [← HM.out.m x]; simp [mem], hbr⟩
        clear hSa hSb hO
        go_wp2
        go_ret
        exact ⟨A, n, c, rfl, R.out⟩
      · subst ea
        obtain ⟨m, rfl⟩ : ∃ m, nb = m + 1 := ⟨nb - 1, by omega⟩
        obtain ⟨ad, p, r, rfl, hab, rfl, c0, c1⟩ := hSb.head (by omega)
        have h1 : La = [] := List.eq_nil_of_length_eq_zero hSa.1
        subst h1
        have HN := Lib.hid (HM.out.takeB (fun q s e => by cases e))
        obtain ⟨p1, p2⟩ := p
        simp only at c0 c1
        have HS := Lib.hid hSb
        have HO := Lib.hid hO
        have hne : ((m : Int) + 1 == 0) = false := by rw [beq_eq_false_iff_ne]; omega
        clear hSa hSb hO
        go_wp2
        go_quiet (fail)
        rename_i nq
        go_wp2_with fail
        refine (join_any w.heap.size A n c U p1 p2 _ (HO.out.drewN _) (by simp; omega) hn).mono ?_
        rintro e w2 ⟨A2, n2, c2, rfl, hO2, hb2⟩
        have hbr2 := (below_draws hbr nq).trans hb2
        by_cases ec : cb = 1
        · have em : m = 0 := by omega
          subst ec
          subst em
          have er : r = [] := by have := HS.out.1; simpa using this
          subst er
          go_wp2
          go_roundw
          case rel => exact ⟨Aa, 0, ca, [], _, 0, 0, [], A2, n2, c2, _, rfl, rfl, rfl, by omega, by omega, by omega, by omega, Spans.nil _ _ _, Spans.nil _ _ _, hO2, HN, hbr2⟩
          case measure => simp [lenV]
        · have HS2 := Lib.hid (carry (spans_tail' HS.out) hb2)
          go_wp2
          go_roundw
          case rel => exact ⟨Aa, 0, ca, [], _, m, cb - 1, r, A2, n2, c2, _, rfl, rfl, rfl, by omega, by omega, by omega, by omega, Spans.nil _ _ _, HS2.out, hO2, HN, hbr2⟩
          case measure => simp [lenV]
    · obtain ⟨m, rfl⟩ : ∃ m, na = m + 1 := ⟨na - 1, by omega⟩
      obtain ⟨ad, p, r, rfl, hab, rfl, c0, c1⟩ := hSa.head (by omega)
      by_cases eb : nb = 0
      · subst eb
        have h1 : Lb = [] := List.eq_nil_of_length_eq_zero hSb.1
        subst h1
        have HN := Lib.hid (HM.out.takeA (fun q s e => by cases e))
        obtain ⟨p1, p2⟩ := p
        simp only at c0 c1
        have HS := Lib.hid hSa
        have HO := Lib.hid hO
        clear hSa hSb hO
        go_wp2
        go_quiet (fail)
        rename_i nq
        go_wp2_with fail
        refine (join_any w.heap.size A n c U p1 p2 _ (HO.out.drewN _) (by simp; omega) hn).mono ?_
        rintro e w2 ⟨A2, n2, c2, rfl, hO2, hb2⟩
        have hbr2 := (below_draws hbr nq).trans hb2
        by_cases ec : ca = 1
        · have em : m = 0 := by omega
          subst ec
          subst em
          have er : r = [] := by have := HS.out.1; simpa using this
          subst er
          go_wp2
          go_roundw
          case rel => exact ⟨_, 0, 0, [], Ab, 0, cb, [], A2, n2, c2, _, rfl, rfl, rfl, by omega, by omega, by omega, by omega, Spans.nil _ _ _, Spans.nil _ _ _, hO2, HN, hbr2⟩
          case measure => simp [lenV]
        · have HS2 := Lib.hid (carry (spans_tail' HS.out) hb2)
          go_wp2
          go_roundw
          case rel => exact ⟨_, m, ca - 1, r, Ab, 0, cb, [], A2, n2, c2, _, rfl, rfl, rfl, by omega, by omega, by omega, by omega, HS2.out, Spans.nil _ _ _, hO2, HN, hbr2⟩
          case measure => simp [lenV]
      · obtain ⟨l, rfl⟩ : ∃ l, nb = l + 1 := ⟨nb - 1, by omega⟩
        obtain ⟨bd, q, s, rfl, hbb, rfl, d0, d1⟩ := hSb.head (by omega)
        have hne : ((l : Int) + 1 == 0) = false := by rw [beq_eq_false_iff_ne]; omega
        have HS := Lib.hid hSa
        have HSq := Lib.hid hSb
        have HO := Lib.hid hO
        clear hSa hSb hO
        by_cases t1 : p.1 < q.1
        · have HN := Lib.hid (HM.out.takeA (fun q' s' e => by injection e with e _; subst e; omega))
          obtain ⟨p1, p2⟩ := p
          obtain ⟨q1, q2⟩ := q
          simp only at c0 c1 d0 d1 t1
          go_wp2
          go_quiet (fail)
          rename_i nq
          go_wp2_with fail
          refine (join_any w.heap.size A n c U p1 p2 _ (HO.out.drewN _) (by simp; omega) hn).mono ?_
          rintro e w2 ⟨A2, n2, c2, rfl, hO2, hb2⟩
          have hbr2 := (below_draws hbr nq).trans hb2
          have HSc := Lib.hid (carry HSq.out hb2)
          by_cases ec : ca = 1
          · have em : m = 0 := by omega
            subst ec
            subst em
            have er : r = [] := by have := HS.out.1; simpa using this
            subst er
            go_wp2
            go_roundw
            case rel => exact ⟨_, 0, 0, [], _, l + 1, cb, _, A2, n2, c2, _, rfl, rfl, rfl, by omega, by omega, by omega, by omega, Spans.nil _ _ _, HSc.out, hO2, HN, hbr2⟩
            case measure => simp [lenV]; try omega
          · have HS2 := Lib.hid (carry (spans_tail' HS.out) hb2)
            go_wp2
            go_roundw
            case rel => exact ⟨_, m, ca - 1, r, _, l + 1, cb, _, A2, n2, c2, _, rfl, rfl, rfl, by omega, by omega, by omega, by omega, HS2.out, HSc.out, hO2, HN, hbr2⟩
            case measure => simp [lenV]; try omega
        · have HN := Lib.hid (HM.out.takeB (fun q' s' e => by injection e with e _; subst e; omega))
          have dt : decide (p.1 < q.1) = false := by simpa using t1
          obtain ⟨p1, p2⟩ := p
          obtain ⟨q1, q2⟩ := q
          simp only at c0 c1 d0 d1 t1 dt
          go_wp2
          go_quiet (fail)
          rename_i nq
          go_wp2_with fail
          refine (join_any w.heap.size A n c U q1 q2 _ (HO.out.drewN _) (by simp; omega) hn).mono ?_
          rintro e w2 ⟨A2, n2, c2, rfl, hO2, hb2⟩
          have hbr2 := (below_draws hbr nq).trans hb2
          have HSc := Lib.hid (carry HS.out hb2)
          by_cases ec : cb = 1
          · have em : l = 0 := by omega
            subst ec
            subst em
            have er : s = [] := by have := HSq.out.1; simpa using this
            subst er
            go_wp2
            go_roundw
            case rel => exact ⟨_, m + 1, ca, _, _, 0, 0, [], A2, n2, c2, _, rfl, rfl, rfl, by omega, by omega, by omega, by omega, HSc.out, Spans.nil _ _ _, hO2, HN, hbr2⟩
            case measure => simp [lenV]; try omega
          · have HS2 := Lib.hid (carry (spans_tail' HSq.out) hb2)
            go_wp2
            go_roundw
            case rel => exact ⟨_, m + 1, ca, _, _, l, cb - 1, s, A2, n2, c2, _, rfl, rfl, rfl, by omega, by omega, by omega, by omega, HSc.out, HS2.out, hO2, HN, hbr2⟩
            case measure => simp [lenV]; try omega

end Go.Proofs.Ytapflikdoiedeaa.Unite
