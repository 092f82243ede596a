/-
  Contract of the program's intersection of two sets.
-/
import Derived.Test.YtapflikdoiedeaaOps
import Derived.Test.YtapflikdoiedeaaIMath
import Derived.Deep.DeepCutAuto
import Derived.BigRegion
namespace Go.Proofs.Ytapflikdoiedeaa.Inter
open Go.ChangeShapes Go.WideShapes Go.ChangeAt Go.RowKit Plain Mem Nums Valid Errs Marks Gather Join Unite Fold AddSpan RefOps Ops
set_option linter.unusedVariables false

theorem inter_no (t : Int) (A : Option Addr) (n c : Nat) (L : List Sp) (A2 : Option Addr) (n2 c2 : Nat) (M : List Sp) (w : World) (ht0 : -9223372036854775808 ≤ t) (ht : t ≤ 9223372036854775807)
    (hS : Spans w w.heap.size A n L) (hn : n ≤ 9223372036854775807) (hS2 : Spans w w.heap.size A2 n2 M) (hn2 : n2 ≤ 9223372036854775807) (h : er t [L, M] ≠ 0) :
    Calls Try.prog 30 #[.int .i64 t, .slice A n c, .slice A2 n2 c2] w (ErrRes w.heap.size (er t [L, M]) w) := by
  have hne : (er t [L, M] != 0) = true := by rw [bne_iff_ne]; exact h
  have hr := er_range t [L, M]
  have H := Lib.hid (fun T => check2 t A n c L A2 n2 c2 M T w ht0 ht hS hn hS2 hn2)
  clear h hS hS2
  generalize er t [L, M] = x at *
  go_enter Try.func30, Try.ntmps30
  go_wp2_with fail
  refine (H.out _).mono ?_
  rintro e w' ⟨rfl, hb⟩
  go_wp2_with fail
  go_ret2
  exact ⟨rfl, hb⟩

def Shared (B : Nat) (w wr : World) (p q : Sp) (v : Value) (wx : World) : Prop :=
  ∃ g : Nat, v = .pointer (some ⟨g, 0, none⟩) ∧ wr.heap.size ≤ g ∧ wx.cell? ⟨g, 0, none⟩ = some (.int .i64 (max p.1 q.1)) ∧ wx.cell? ⟨g, 1, none⟩ = some (.int .i64 (min p.2 q.2)) ∧ Below wr.heap.size wr wx

set_option maxHeartbeats 1600000 in
theorem inter_yes (t : Nat) (A : Option Addr) (n c : Nat) (L : List Sp) (A2 : Option Addr) (n2 c2 : Nat) (M : List Sp) (w : World) (ht0 : 1 ≤ t) (ht : t ≤ 7200)
    (hS : Spans w w.heap.size A n L) (hn : n ≤ c) (hc : c ≤ 9223372036854775807) (hS2 : Spans w w.heap.size A2 n2 M) (hn2 : n2 ≤ c2) (hc2 : c2 ≤ 9223372036854775807) (h1 : vl t L = true) (h2 : vl t M = true) :
    Calls Try.prog 30 #[.int .i64 (t : Int), .slice A n c, .slice A2 n2 c2] w (SetRes w.heap.size t (fun x => mem L x && mem M x) w) := by
  obtain ⟨i0, hi, hz0, hz1, hz2⟩ := info_parts info29
  have v1 : vf 0 t L = true := by simp only [vl, Bool.and_eq_true] at h1; exact h1.2
  have v2 : vf 0 t M = true := by simp only [vl, Bool.and_eq_true] at h2; exact h2.2
  have he : er t [L, M] = 0 := (er_two t L M).2 ⟨h1, h2⟩
  have HB : Hid (∀ T : TypeId, Calls Try.prog 42 #[.int .i64 (t : Int), .slice (some ⟨w.heap.size, 0, none⟩) 2 2] (w.alloc (.cells #[.slice A n c, .slice A2 n2 c2] T)) fun e w' => e = .returned (.int .i64 0) ∧ Below w.heap.size w w') := fun T => by
    have H := check2 t A n c L A2 n2 c2 M T w (by omega) (by omega) hS (by omega) hS2 (by omega)
    rwa [he] at H
  have HS := Lib.hid hS
  have HS2 := Lib.hid hS2
  have HM := Lib.hid (Meet.start t L M v1 v2)
  clear h1 h2 hS hS2 he v1 v2
  generalize (fun x => mem L x && mem M x) = F at *
  go_enter Try.func30, Try.ntmps30
  go_wp2_with fail
  refine (HB.out _).mono ?_
  rintro e w1 ⟨rfl, hb⟩
  clear HB
  have hz := hb.size
  go_wp2_with fail
  go_loopw [1, 2, 9] (fun a b u wr => ∃ (Aa : Option Addr) (na ca : Nat) (La : List Sp) (Ab : Option Addr) (nb cb : Nat) (Lb : List Sp) (A : Option Addr) (n c : Nat) (U : List Sp),
      a = .slice Aa na ca ∧ b = .slice Ab nb cb ∧ u = .slice A n c ∧ na ≤ ca ∧ ca ≤ 9223372036854775807 ∧ nb ≤ cb ∧ cb ≤ 9223372036854775807 ∧ Spans wr w.heap.size Aa na La ∧ Spans wr w.heap.size Ab nb Lb ∧ Own wr w.heap.size (.slice A n c) n U ∧ Hid (Meet t F U La Lb) ∧ Below w.heap.size w wr)
    (fun a b _ _ => lenV a + lenV b)
  case atStart => exact ⟨_, _, _, L, _, _, _, M, _, _, _, [], rfl, rfl, rfl, hn, hc, hn2, hc2, HS.out.below hb, HS2.out.below hb, Own.nil _ _, HM, hb⟩
  case round =>
    clear HS HS2 HM hn hc hn2 hc2
    obtain ⟨Aa, na, ca, La, Ab, nb, cb, Lb, A, n, c, U, rfl, rfl, rfl, hca, hca2, hcb, hcb2, hSa, hSb, hO, HM, hbr⟩ := hrel
    have hz' := hbr.size
    have ln := vf_len U 0 t HM.out.c (by omega)
    rw [hO.1] at ln
    by_cases ea : na = 0
    · subst ea
      have R : Hid (IsSet w.heap.size t F w A n c wr) := by
        have h1 : La = [] := List.eq_nil_of_length_eq_zero hSa.1
        subst h1
        exact ⟨U, hO, HM.out.c, fun x _ _ => by rw [← HM.out.m x]; simp [mem], hbr⟩
      clear hSa hSb hO
      go_wp2
      go_ret2
      exact ⟨A, n, c, rfl, R.out⟩
    · obtain ⟨m, rfl⟩ : ∃ m, na = m + 1 := ⟨na - 1, by omega⟩
      by_cases eb : nb = 0
      · subst eb
        have R : Hid (IsSet w.heap.size t F w A n c wr) := by
          have h1 : Lb = [] := List.eq_nil_of_length_eq_zero hSb.1
          subst h1
          exact ⟨U, hO, HM.out.c, fun x _ _ => by rw [← HM.out.m x]; simp [mem], hbr⟩
        clear hSa hSb hO
        go_wp2
        go_ret2
        exact ⟨A, n, c, rfl, R.out⟩
      · obtain ⟨l, rfl⟩ : ∃ l, nb = l + 1 := ⟨nb - 1, by omega⟩
        obtain ⟨ad, p, r, rfl, hab, rfl, c0, c1⟩ := hSa.head (by omega)
        obtain ⟨bd, q, s, rfl, hbb, rfl, d0, d1⟩ := hSb.head (by omega)
        have HSa := Lib.hid hSa
        have HSb := Lib.hid hSb
        have HO := Lib.hid hO
        clear hSa hSb hO
        obtain ⟨p1, p2⟩ := p
        obtain ⟨q1, q2⟩ := q
        simp only at c0 c1 d0 d1
        go_upto_region 6 with fail
        go_cut [10] (fun v wx => Shared w.heap.size w wr (p1, p2) (q1, q2) v wx)
        case first =>
          have hab2 : ad.block < wr.heap.size := by omega
          have hbb2 : bd.block < wr.heap.size := by omega
          have k0 : (wr.alloc (.cells #[.int .i64 0, .int .i64 0] 29)).cell? ad = some (.int .i64 p1) := by rw [World.cell?_alloc_lt _ _ _ hab2]; exact c0
          have k1 : (wr.alloc (.cells #[.int .i64 0, .int .i64 0] 29)).cell? ⟨ad.block, ad.off + 1, none⟩ = some (.int .i64 p2) := (World.cell?_alloc_lt wr _ ⟨ad.block, ad.off + 1, none⟩ hab2).trans c1
          have k2 : (wr.alloc (.cells #[.int .i64 0, .int .i64 0] 29)).cell? bd = some (.int .i64 q1) := by rw [World.cell?_alloc_lt _ _ _ hbb2]; exact d0
          have k3 : (wr.alloc (.cells #[.int .i64 0, .int .i64 0] 29)).cell? ⟨bd.block, bd.off + 1, none⟩ = some (.int .i64 q2) := (World.cell?_alloc_lt wr _ ⟨bd.block, bd.off + 1, none⟩ hbb2).trans d1
          go_region
          all_goals go_wp2_with fail
          · go_meet
            exact ⟨wr.heap.size, rfl, Nat.le_refl _, by rw [show max (p1, p2).1 (q1, q2).1 = q1 from by simp only; omega]; simp, by rw [show min (p1, p2).2 (q1, q2).2 = q2 from by simp only; omega]; simp, ((Below.refl _ _).alloc (Nat.le_refl _) _).drew⟩
          · go_meet
            exact ⟨wr.heap.size, rfl, Nat.le_refl _, by rw [show max (p1, p2).1 (q1, q2).1 = q1 from by simp only; omega]; simp, by rw [show min (p1, p2).2 (q1, q2).2 = p2 from by simp only; omega]; simp, ((Below.refl _ _).alloc (Nat.le_refl _) _).drew⟩
          · go_meet
            exact ⟨wr.heap.size, rfl, Nat.le_refl _, by rw [show max (p1, p2).1 (q1, q2).1 = p1 from by simp only; omega]; simp, by rw [show min (p1, p2).2 (q1, q2).2 = q2 from by simp only; omega]; simp, ((Below.refl _ _).alloc (Nat.le_refl _) _).drew⟩
          · go_meet
            exact ⟨wr.heap.size, rfl, Nat.le_refl _, by rw [show max (p1, p2).1 (q1, q2).1 = p1 from by simp only; omega]; simp, by rw [show min (p1, p2).2 (q1, q2).2 = p2 from by simp only; omega]; simp, ((Below.refl _ _).alloc (Nat.le_refl _) _).drew⟩
        case rest =>
          obtain ⟨g, rfl, hg, s0, s1, hbx⟩ := hcut
          have hbc : Below w.heap.size w wc := hbr.trans (hbx.mono hz')
          have hzc := hbc.size
          have HMA : Hid (p2 < q2 → Meet t F (meetC U (p1, p2) (q1, q2)) r ((q1, q2) :: s)) := fun h => HM.out.dropA h
          have HMB : Hid (¬ p2 < q2 → Meet t F (meetC U (p1, p2) (q1, q2)) ((p1, p2) :: r) s) := fun h => HM.out.dropB h
          have HOc := Lib.hid (HO.out.below hbx (Nat.le_refl _))
          simp only at s0 s1
          by_cases tm : max p1 q1 < min p2 q2
          · have HC : Hid (meetC U (p1, p2) (q1, q2) = U ++ [(max p1 q1, min p2 q2)]) := by simp only [Hid, meetC]; rw [if_pos tm]
            generalize max p1 q1 = X at *
            generalize min p2 q2 = Y at *
            have hown := HOc.out.2
            go_wp2_with (at_builtin; go_must (refine wpList_append_own _ rfl (.tmp 51) (.tmp 53) 22 rfl w.heap.size 29 i0 _ 2 16 Try.underlying22 hi hz0 hz1 hz2 rfl (by omega) (.slice A n c) n (cs U) rfl (hown.alloc _) ⟨wc.heap.size, 0, none⟩ 1 1 [.int .i64 X, .int .i64 Y] rfl rfl (new_pair _ _ _ _) (one_pair _ _) (by unfold maxLen; omega) (by omega) (by simp; omega) ?_))
            intro v w5 hown' hgrow _
            obtain ⟨A', c', rfl, hO', hb'⟩ := appended (hbx.mono hz') hzc HOc.out.1 hown hown' hgrow
            have HOO := Lib.hid hO'
            have HBW := Lib.hid hb'
            clear hown hown' hgrow hO' hb'
            have k0 : w5.cell? ad = some (.int .i64 p1) := (HBW.out.cell hab).trans c0
            have k1 : w5.cell? ⟨ad.block, ad.off + 1, none⟩ = some (.int .i64 p2) := (HBW.out.cell (p := ⟨ad.block, ad.off + 1, none⟩) hab).trans c1
            have k2 : w5.cell? bd = some (.int .i64 q1) := (HBW.out.cell hbb).trans d0
            have k3 : w5.cell? ⟨bd.block, bd.off + 1, none⟩ = some (.int .i64 q2) := (HBW.out.cell (p := ⟨bd.block, bd.off + 1, none⟩) hbb).trans d1
            by_cases tq : p2 < q2
            · have HN : Hid (Meet t F (U ++ [(X, Y)]) r ((q1, q2) :: s)) := by rw [Hid, ← HC.out]; exact HMA.out (by omega)
              by_cases ec : ca = 1
              · have em : m = 0 := by omega
                subst ec
                subst em
                have er : r = [] := by have := HSa.out.1; simpa using this
                subst er
                go_wp2
                go_quiet (fail)
                rename_i nq
                go_wp2
                go_roundw
                case rel => exact ⟨_, 0, 0, [], _, l + 1, cb, _, A', n + 1, c', _, rfl, rfl, rfl, by omega, by omega, by omega, by omega, Spans.nil _ _ _, Spans.below (w := wr) HSb.out (below_draws HBW.out nq), (HOO.out.drewN nq), HN, below_draws (hbr.trans HBW.out) nq⟩
                case measure => simp [lenV]; try omega
              · go_wp2
                go_quiet (fail)
                rename_i nq
                go_wp2
                go_roundw
                case rel => exact ⟨_, m, ca - 1, r, _, l + 1, cb, _, A', n + 1, c', _, rfl, rfl, rfl, by omega, by omega, by omega, by omega, Spans.below (w := wr) (spans_tail' HSa.out) (below_draws HBW.out nq), Spans.below (w := wr) HSb.out (below_draws HBW.out nq), (HOO.out.drewN nq), HN, below_draws (hbr.trans HBW.out) nq⟩
                case measure => simp [lenV]; try omega
            · have HN : Hid (Meet t F (U ++ [(X, Y)]) ((p1, p2) :: r) s) := by rw [Hid, ← HC.out]; exact HMB.out (by omega)
              have dq : decide (p2 < q2) = false := by simpa using tq
              by_cases ec : cb = 1
              · have em : l = 0 := by omega
                subst ec
                subst em
                have er : s = [] := by have := HSb.out.1; simpa using this
                subst er
                go_wp2
                go_quiet (fail)
                rename_i nq
                go_wp2
                go_roundw
                case rel => exact ⟨_, m + 1, ca, _, _, 0, 0, [], A', n + 1, c', _, rfl, rfl, rfl, by omega, by omega, by omega, by omega, Spans.below (w := wr) HSa.out (below_draws HBW.out nq), Spans.nil _ _ _, (HOO.out.drewN nq), HN, below_draws (hbr.trans HBW.out) nq⟩
                case measure => simp [lenV]; try omega
              · go_wp2
                go_quiet (fail)
                rename_i nq
                go_wp2
                go_roundw
                case rel => exact ⟨_, m + 1, ca, _, _, l, cb - 1, s, A', n + 1, c', _, rfl, rfl, rfl, by omega, by omega, by omega, by omega, Spans.below (w := wr) HSa.out (below_draws HBW.out nq), Spans.below (w := wr) (spans_tail' HSb.out) (below_draws HBW.out nq), (HOO.out.drewN nq), HN, below_draws (hbr.trans HBW.out) nq⟩
                case measure => simp [lenV]; try omega
          · have HC : Hid (meetC U (p1, p2) (q1, q2) = U) := by simp only [Hid, meetC]; rw [if_neg tm]
            have dm : decide (max p1 q1 < min p2 q2) = false := by simpa using tm
            generalize max p1 q1 = X at *
            generalize min p2 q2 = Y at *
            have HOO := HOc
            have HBW := Lib.hid (hbx.mono hz')
            have k0 : wc.cell? ad = some (.int .i64 p1) := (HBW.out.cell hab).trans c0
            have k1 : wc.cell? ⟨ad.block, ad.off + 1, none⟩ = some (.int .i64 p2) := (HBW.out.cell (p := ⟨ad.block, ad.off + 1, none⟩) hab).trans c1
            have k2 : wc.cell? bd = some (.int .i64 q1) := (HBW.out.cell hbb).trans d0
            have k3 : wc.cell? ⟨bd.block, bd.off + 1, none⟩ = some (.int .i64 q2) := (HBW.out.cell (p := ⟨bd.block, bd.off + 1, none⟩) hbb).trans d1
            by_cases tq : p2 < q2
            · have HN : Hid (Meet t F (U) r ((q1, q2) :: s)) := by rw [Hid, ← HC.out]; exact HMA.out (by omega)
              by_cases ec : ca = 1
              · have em : m = 0 := by omega
                subst ec
                subst em
                have er : r = [] := by have := HSa.out.1; simpa using this
                subst er
                go_wp2
                go_quiet (fail)
                rename_i nq
                go_wp2
                go_roundw
                case rel => exact ⟨_, 0, 0, [], _, l + 1, cb, _, A, n, c, _, rfl, rfl, rfl, by omega, by omega, by omega, by omega, Spans.nil _ _ _, Spans.below (w := wr) HSb.out (below_draws HBW.out nq), (HOO.out.drewN nq), HN, below_draws (hbr.trans HBW.out) nq⟩
                case measure => simp [lenV]; try omega
              · go_wp2
                go_quiet (fail)
                rename_i nq
                go_wp2
                go_roundw
                case rel => exact ⟨_, m, ca - 1, r, _, l + 1, cb, _, A, n, c, _, rfl, rfl, rfl, by omega, by omega, by omega, by omega, Spans.below (w := wr) (spans_tail' HSa.out) (below_draws HBW.out nq), Spans.below (w := wr) HSb.out (below_draws HBW.out nq), (HOO.out.drewN nq), HN, below_draws (hbr.trans HBW.out) nq⟩
                case measure => simp [lenV]; try omega
            · have HN : Hid (Meet t F (U) ((p1, p2) :: r) s) := by rw [Hid, ← HC.out]; exact HMB.out (by omega)
              have dq : decide (p2 < q2) = false := by simpa using tq
              by_cases ec : cb = 1
              · have em : l = 0 := by omega
                subst ec
                subst em
                have er : s = [] := by have := HSb.out.1; simpa using this
                subst er
                go_wp2
                go_quiet (fail)
                rename_i nq
                go_wp2
                go_roundw
                case rel => exact ⟨_, m + 1, ca, _, _, 0, 0, [], A, n, c, _, rfl, rfl, rfl, by omega, by omega, by omega, by omega, Spans.below (w := wr) HSa.out (below_draws HBW.out nq), Spans.nil _ _ _, (HOO.out.drewN nq), HN, below_draws (hbr.trans HBW.out) nq⟩
                case measure => simp [lenV]; try omega
              · go_wp2
                go_quiet (fail)
                rename_i nq
                go_wp2
                go_roundw
                case rel => exact ⟨_, m + 1, ca, _, _, l, cb - 1, s, A, n, c, _, rfl, rfl, rfl, by omega, by omega, by omega, by omega, Spans.below (w := wr) HSa.out (below_draws HBW.out nq), Spans.below (w := wr) (spans_tail' HSb.out) (below_draws HBW.out nq), (HOO.out.drewN nq), HN, below_draws (hbr.trans HBW.out) nq⟩
                case measure => simp [lenV]; try omega

end Go.Proofs.Ytapflikdoiedeaa.Inter
