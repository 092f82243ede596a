/-
  Plain mathematics of reversed routes: they have no error either, and the same resources. No program in it.
  Contract of the comparison of two rows of numbers that are equal.
  Contracts of the library's searches in rows of numbers, by a predicate and by value.
  Contract of the program's answer whether two routes clash.
-/
import Derived.Test.YtnfelcjpjodjhaaGreatMO
import Derived.Test.YtnfelcjpjodjhaaGreatMC
import Derived.Deep.QuietTactic
import Derived.BigQuiet
import Derived.Test.YtnfelcjpjodjhaaGreatMK
namespace Go.Proofs.YtnfelcjpjodjhaaGreat.RtV
open Wd Lay Rt RtF RtW RtS
set_option linter.unusedVariables false

/-- the hops of a step lead to different steps -/
theorem hops_once {n p : Nat} {ks : List Lnk} (hg : Lay.Good n p ks) (s : Step) : ((hops ks s).map Hop.to).Nodup := by
  have h2 := hops_two hg s
  match h : hops ks s with
  | [] => simp
  | [x] => simp
  | [x, y] =>
    have := (hops_differ hg s x y [] h).1
    simpa using this
  | x :: y :: z :: r => rw [h] at h2; simp at h2
theorem hopTo_iff {n p : Nat} {ks : List Lnk} (hg : Lay.Good n p ks) {a b : Step} {h : Hop} : hopTo ks a b = some h ↔ h ∈ hops ks a ∧ h.to = b := by
  unfold hopTo
  constructor
  · intro e
    exact ⟨List.mem_of_find?_eq_some e, by simpa using List.find?_some e⟩
  · rintro ⟨hm, e⟩
    have hn := hops_once hg a
    cases hf : (hops ks a).find? fun h => decide (h.to = b) with
    | none =>
      rw [List.find?_eq_none] at hf
      exact absurd (by simpa using e) (hf h hm)
    | some x =>
      have h1 := List.mem_of_find?_eq_some hf
      have h2 : x.to = b := by simpa using List.find?_some hf
      have h3 : x = h := by
        obtain ⟨i, hi, ei⟩ := List.mem_iff_getElem.1 h1
        obtain ⟨j, hj, ej⟩ := List.mem_iff_getElem.1 hm
        have hij : i = j := by
          apply Classical.byContradiction
          intro hne
          have hnd := List.pairwise_iff_getElem.1 hn
          rcases Nat.lt_or_gt_of_ne hne with hlt | hlt
          · exact hnd i j (by simpa using hi) (by simpa using hj) hlt (by simp [ei, ej, h2, e])
          · exact hnd j i (by simpa using hj) (by simpa using hi) hlt (by simp [ei, ej, h2, e])
        subst hij
        rw [← ei, ← ej]
      rw [h3]
theorem hopTo_back {n p : Nat} {ks : List Lnk} (hg : Lay.Good n p ks) {a b : Step} {h : Hop} (ha : a.2 = 0 ∨ a.2 = 1) (e : hopTo ks a b = some h) : hopTo ks (rev b) (rev a) = some ⟨rev a, h.pt, h.ps⟩ := by
  obtain ⟨hm, rfl⟩ := (hopTo_iff hg).1 e
  have h1 := hops_back hg a ha h hm
  rw [hopTo_iff hg]
  refine ⟨?_, rfl⟩
  have h2 : 0 < ((hops ks (rev h.to)).filter fun b => decide (b = ⟨rev a, h.pt, h.ps⟩)).length := by omega
  obtain ⟨x, hx⟩ := List.exists_mem_of_length_pos h2
  rw [List.mem_filter] at hx
  have : x = ⟨rev a, h.pt, h.ps⟩ := by simpa using hx.2
  rw [← this]
  exact hx.1
theorem on_snoc {ks : List Lnk} : ∀ (t : List Step) (a b : Step), hopsOn ks a (t ++ [b]) = match hopsOn ks a t with
    | none => none
    | some H => match hopTo ks ((a :: t).getLastD (0, 0)) b with
      | none => none
      | some h => some (H ++ [h])
  | [], a, b => by
    simp only [List.nil_append, hopsOn, List.getLastD_cons, List.getLastD_nil]
    cases hopTo ks a b <;> rfl
  | c :: t, a, b => by
    have ih := on_snoc (ks := ks) t c b
    simp only [List.cons_append, hopsOn]
    cases hopTo ks a c with
    | none => rfl
    | some h =>
      simp only
      rw [ih]
      have e : (a :: c :: t).getLastD (0, 0) = (c :: t).getLastD (0, 0) := by simp
      rw [e]
      cases hopsOn ks c t with
      | none => rfl
      | some H =>
        simp only
        cases hopTo ks ((c :: t).getLastD (0, 0)) b <;> rfl
theorem along_snoc {ks : List Lnk} {S : List Step} {b : Step} {H : List Hop} {h : Hop} (hS : S ≠ []) (e : along ks S = some H) (e2 : hopTo ks (S.getLastD (0, 0)) b = some h) : along ks (S ++ [b]) = some (H ++ [h]) := by
  cases S with
  | nil => exact absurd rfl hS
  | cons a t =>
    show hopsOn ks a (t ++ [b]) = _
    rw [on_snoc, show hopsOn ks a t = some H from e, e2]
/-- the reversed steps -/
def back (S : List Step) : List Step := (S.map rev).reverse
theorem back_cons (a : Step) (S : List Step) : back (a :: S) = back S ++ [rev a] := by simp [back]
theorem back_last (a : Step) (S : List Step) : (back (a :: S)).getLastD (0, 0) = rev a := by rw [back_cons]; simp
theorem back_along {n p : Nat} {ks : List Lnk} (hg : Lay.Good n p ks) : ∀ (r : List Step) (a : Step) (H : List Hop), (∀ s ∈ a :: r, s.2 = 0 ∨ s.2 = 1) → hopsOn ks a r = some H → ∃ K, along ks (back (a :: r)) = some K ∧ K.map Hop.pt = (H.map Hop.pt).reverse
  | [], a, H, hd, e => by cases e; exact ⟨[], by simp [back, along, hopsOn], rfl⟩
  | b :: r, a, H, hd, e => by
    unfold hopsOn at e
    split at e
    · cases e
    · next h e1 =>
      split at e
      · cases e
      · next K e2 =>
        cases e
        obtain ⟨K', h1, h2⟩ := back_along hg r b K (fun s hs => hd s (List.mem_cons_of_mem _ hs)) e2
        have h3 := hopTo_back hg (hd a List.mem_cons_self) e1
        refine ⟨K' ++ [⟨rev a, h.pt, h.ps⟩], ?_, by simp [h2]⟩
        rw [back_cons]
        exact along_snoc (by simp [back]) h1 (by rw [back_last]; exact h3)
theorem twice_iff : ∀ (S done : List Step), twice done S = false ↔ (∀ s ∈ S, pass done s.1 = false) ∧ (S.map (·.1)).Nodup
  | [], done => by simp [twice]
  | a :: S, done => by
    have ih := twice_iff S (done ++ [a])
    unfold twice
    rw [Bool.or_eq_false_iff, ih, List.map_cons, List.nodup_cons]
    constructor
    · rintro ⟨h1, h2, h3⟩
      refine ⟨fun s hs => ?_, ?_, h3⟩
      · rcases List.mem_cons.1 hs with rfl | hs
        · exact h1
        · have := h2 s hs
          rw [pass_append, Bool.or_eq_false_iff] at this
          exact this.1
      · intro hm
        obtain ⟨s, hs, e⟩ := List.mem_map.1 hm
        have := h2 s hs
        rw [pass_append, Bool.or_eq_false_iff] at this
        simp [pass, e] at this
    · rintro ⟨h1, h2, h3⟩
      refine ⟨h1 a List.mem_cons_self, fun s hs => ?_, h3⟩
      rw [pass_append, Bool.or_eq_false_iff]
      refine ⟨h1 s (List.mem_cons_of_mem _ hs), ?_⟩
      simp only [pass, List.any_cons, List.any_nil, Bool.or_false, decide_eq_false_iff_not]
      exact fun e => h2 (List.mem_map.2 ⟨s, hs, e.symm⟩)
theorem rev_fst (s : Step) : (rev s).1 = s.1 := by unfold rev; split <;> rfl
theorem rev_in {n : Nat} {s : Step} (h : stepIn n s = true) : stepIn n (rev s) = true := by
  simp only [stepIn, Bool.and_eq_true, Bool.or_eq_true, decide_eq_true_eq] at h ⊢
  rw [rev_fst]
  refine ⟨h.1, ?_⟩
  unfold rev
  split
  · exact .inr rfl
  · exact .inl rfl
theorem back_walk {l : Lay} {S : List Step} (hc : check l = 0) (w : Walk l S) : Walk l (back S) := by
  have hg := good_links l hc
  refine ⟨by simp [back, w.ne], fun s hs => ?_, ?_, ?_⟩
  · unfold back at hs
    rw [List.mem_reverse] at hs
    obtain ⟨t, ht, rfl⟩ := List.mem_map.1 hs
    exact rev_in (w.inn t ht)
  · have h1 := (twice_iff S []).1 w.one
    refine (twice_iff _ []).2 ⟨fun s hs => by simp [pass], ?_⟩
    unfold back
    rw [List.map_reverse, List.map_map, show ((fun x : Step => x.1) ∘ rev) = (fun x : Step => x.1) from funext rev_fst]
    exact List.pairwise_reverse.2 (h1.2.imp fun h => Ne.symm h)
  · cases S with
    | nil => exact absurd rfl w.ne
    | cons a r =>
      obtain ⟨H, hH⟩ := Option.ne_none_iff_exists'.1 w.hop
      obtain ⟨K, hK, -⟩ := back_along hg r a H (fun s hs => by have := w.inn s hs; simp only [stepIn, Bool.and_eq_true, Bool.or_eq_true, decide_eq_true_eq] at this; exact this.2) hH
      rw [hK]
      simp
/-- the same resources -/
theorem back_res {l : Lay} {S : List Step} (hc : check l = 0) (w : Walk l S) (h2 : 2 ≤ S.length) (h3 : S.length ≤ 24) : rerr l ⟨S, 0⟩ = 0 ∧ rerr l ⟨back S, 0⟩ = 0 ∧ rres l ⟨S, 0⟩ = rres l ⟨back S, 0⟩ := by
  have hg := good_links l hc
  have hbl : (back S).length = S.length := by simp [back]
  have e1 := w.ok hc (ov := 0) (by decide) (by decide) (by omega) h3
  have e2 := (back_walk hc w).ok hc (ov := 0) (by decide) (by decide) (by omega) (by omega)
  refine ⟨e1, e2, ?_⟩
  rw [rres_ok e1, rres_ok e2, sorted_marks (res_range e1), sorted_marks (res_range e2)]
  congr 1
  refine strict_ext _ _ (marks_strict _ _) (marks_strict _ _) fun x => ?_
  rw [mem_marks (res_range e1), mem_marks (res_range e2)]
  obtain ⟨-, -, -, -, -, -, -, H, hH, t1⟩ := rerr_ok e1
  obtain ⟨-, -, -, -, -, -, -, K, hK, t2⟩ := rerr_ok e2
  simp only at hH hK
  have hpt : ∀ z, (∃ h ∈ H, h.pt = z) ↔ ∃ h ∈ K, h.pt = z := by
    cases S with
    | nil => exact absurd rfl w.ne
    | cons a r =>
      obtain ⟨K2, k1, k2⟩ := back_along hg r a H (fun s hs => by have := w.inn s hs; simp only [stepIn, Bool.and_eq_true, Bool.or_eq_true, decide_eq_true_eq] at this; exact this.2) hH
      rw [hK] at k1
      cases k1
      intro z
      have h1 : (∃ h ∈ H, h.pt = z) ↔ z ∈ H.map Hop.pt := by rw [List.mem_map]
      have h2 : (∃ h ∈ K, h.pt = z) ↔ z ∈ K.map Hop.pt := by rw [List.mem_map]
      rw [h1, h2, k2, List.mem_reverse]
  unfold resList
  rw [t1, t2]
  simp only [List.mem_append, List.mem_map, List.mem_filter]
  have hs : (∃ a, a ∈ S ∧ a.1 = x) ↔ ∃ a, a ∈ back S ∧ a.1 = x := by
    unfold back
    constructor
    · rintro ⟨a, ha, e⟩
      exact ⟨rev a, by rw [List.mem_reverse]; exact List.mem_map.2 ⟨a, ha, rfl⟩, by rw [rev_fst]; exact e⟩
    · rintro ⟨a, ha, e⟩
      rw [List.mem_reverse] at ha
      obtain ⟨b, hb, rfl⟩ := List.mem_map.1 ha
      exact ⟨b, hb, by rw [rev_fst] at e; exact e⟩
  have hp : (∃ a, (a ∈ H ∧ (!decide (a.pt = -1)) = true) ∧ (l.sections.length : Int) + a.pt = x) ↔ ∃ a, (a ∈ K ∧ (!decide (a.pt = -1)) = true) ∧ (l.sections.length : Int) + a.pt = x := by
    constructor
    · rintro ⟨a, ⟨h4, h5⟩, h6⟩
      obtain ⟨b, h7, h8⟩ := (hpt a.pt).1 ⟨a, h4, rfl⟩
      exact ⟨b, ⟨h7, by rw [h8]; exact h5⟩, by rw [h8]; exact h6⟩
    · rintro ⟨a, ⟨h4, h5⟩, h6⟩
      obtain ⟨b, h7, h8⟩ := (hpt a.pt).2 ⟨a, h4, rfl⟩
      exact ⟨b, ⟨h7, by rw [h8]; exact h5⟩, by rw [h8]; exact h6⟩
  rw [hs, hp]
end Go.Proofs.YtnfelcjpjodjhaaGreat.RtV

namespace Go.Proofs.YtnfelcjpjodjhaaGreat.SameI
open Go.ChangeShapes Go.WideShapes Go.ChangeAt Go.RowKit Wd Small Mem Lay Recs Keep Names PNames PSecs
set_option linter.unusedVariables false

set_option maxHeartbeats 1000000 in
theorem same_int (A : Option Addr) (n c : Nat) (A2 : Option Addr) (c2 : Nat) (L : List Int) (w : World) (hL : Rd iR w w.heap.size A n L) (hM : Rd iR w w.heap.size A2 n L) (hn : n ≤ 9223372036854775807) :
    Calls Tryz.prog 18 #[.slice A n c, .slice A2 n c2] w (BoolPost true w) := by
  go_enter Tryz.func18, Tryz.ntmps18
  go_wp2
  go_loopw [13] (fun i wr => ∃ k : Nat, k ≤ n ∧ i = .int .i64 k ∧ Below w.heap.size w wr) (fun i _ => n - (intOf i).toNat)
  case atStart => exact ⟨0, Nat.zero_le _, rfl, Below.refl _ _⟩
  case round =>
    obtain ⟨k, hk, rfl, hbw⟩ := hrel
    by_cases hlt : k < n
    · obtain ⟨ad, s, rfl, hab, hs, d0⟩ := loadI (hL.below hbw) hlt
      obtain ⟨ad2, t, rfl, hab2, ht, e0⟩ := loadI (hM.below hbw) hlt
      have e : s = t := by rw [hs] at ht; exact Option.some.inj ht
      subst e
      have hkn : (k : Int) < (n : Int) := by omega
      clear hL hM hs ht
      go_wp2
      go_quiet (fail)
      go_wp2
      go_roundw
      case rel => exact ⟨k + 1, by omega, by go_num, Mem.below_draws hbw _⟩
      case measure => simp [intOf]; omega
    · clear hL hM
      go_wp2
      go_ret
      exact ⟨rfl, hbw⟩
end Go.Proofs.YtnfelcjpjodjhaaGreat.SameI

namespace Go.Proofs.YtnfelcjpjodjhaaGreat.PIdI
open Go.ChangeShapes Go.WideShapes Go.ChangeAt Go.RowKit Wd Small Mem Lay LayT Recs Keep Names PNames PSecs PLinks PEnds PTab PLnk PCheck PStep PHops Rt RtR PIdx
set_option linter.unusedVariables false

def intV (s : Int) : Value := .int .i64 s

set_option maxRecDepth 100000 in
set_option maxHeartbeats 2000000 in
theorem index_int (p : Int → Bool) (g : FuncId) (lb : Array Value) (eg : ∀ args w, (callFunc g args).run Tryz.prog w = .ok (.enter g args) w) (A : Option Addr) (n c : Nat) (L : List Int) (w : World) (hR : Rd iR w w.heap.size A n L) (hn : n ≤ 9223372036854775807)
    (hp : Asks g lb intV p w) : Calls Tryz.prog 57 #[.slice A n c, .func (.func g) #[] lb] w fun e w' => e = .returned (.int .i64 (idx p L)) ∧ Below w.heap.size w w' := by
  have HL := Lib.hid hR.1
  go_enter Tryz.func57, Tryz.ntmps57
  go_wp2
  go_loopw [5, 8] (fun _ i wr => ∃ k : Nat, k ≤ n ∧ i = .int .i64 k ∧ Below w.heap.size w wr ∧ Hid (∀ j, j < k → ∀ a, L[j]? = some a → p a = false)) (fun _ i _ => n - (intOf i).toNat)
  case atStart => exact ⟨0, Nat.zero_le _, rfl, Below.refl _ _, fun j hj => absurd hj (Nat.not_lt_zero _)⟩
  case round =>
    obtain ⟨k, hk, rfl, hbw, HF⟩ := hrel
    by_cases hlt : k < n
    · obtain ⟨ad, x, rfl, hab, hs, d0⟩ := loadI (hR.below hbw) hlt
      have hcall := hp wr x hbw
      have HS := Lib.hid hs
      have hkn : (k : Int) < (n : Int) := by omega
      simp only [intV] at hcall
      clear hR hs hp
      cases hq : p x with
      | true =>
        rw [hq] at hcall
        have HQ := Lib.hid hq
        clear hq
        go_wp2_with (go_at_fn g; refine hcall.mono ?_; rintro e w' ⟨rfl, hb'⟩)
        go_ret
        exact ⟨ret1 (idx_hit p L k _ HS.out HQ.out HF.out).symm, hb'⟩
      | false =>
        rw [hq] at hcall
        have HQ := Lib.hid hq
        clear hq
        go_wp2_with (go_at_fn g; refine hcall.mono ?_; rintro e w' ⟨rfl, hb'⟩)
        go_roundw
        case rel =>
          refine ⟨k + 1, by omega, by go_num, hb', fun j hj a ha => ?_⟩
          by_cases e : j = k
          · subst e
            rw [HS.out] at ha
            cases ha
            exact HQ.out
          · exact HF.out j (by omega) a ha
        case measure => simp [intOf]; omega
    · clear hR hp
      go_wp2_with fail
      go_ret
      refine ⟨ret1 (idx_miss p L fun a ha => ?_).symm, hbw⟩
      obtain ⟨j, hj, e⟩ := List.mem_iff_getElem.1 ha
      exact HF.out j (by have := HL.out; omega) a (by rw [← e]; exact List.getElem?_eq_getElem hj)

set_option maxRecDepth 100000 in
theorem containsf_int (p : Int → Bool) (g : FuncId) (lb : Array Value) (eg : ∀ args w, (callFunc g args).run Tryz.prog w = .ok (.enter g args) w) (A : Option Addr) (n c : Nat) (L : List Int) (w : World) (hR : Rd iR w w.heap.size A n L) (hn : n ≤ 9223372036854775807)
    (hp : Asks g lb intV p w) : Calls Tryz.prog 34 #[.slice A n c, .func (.func g) #[] lb] w (BoolPost (L.any p) w) := by
  have HC := Lib.hid (index_int p g lb eg A n c L w hR hn hp)
  have HX := Lib.hid (idx_any p L)
  have hi := idx_le p L
  clear hR hp
  generalize idx p L = q at *
  go_enter Tryz.func34, Tryz.ntmps34
  go_wp2_with fail
  refine HC.out.mono ?_
  rintro e w' ⟨rfl, hb⟩
  go_wp2_with fail
  go_ret
  exact ⟨retb HX.out.symm, hb⟩


set_option maxRecDepth 100000 in
set_option maxHeartbeats 2000000 in
theorem indexv_int (z : Int) (A : Option Addr) (n c : Nat) (L : List Int) (w : World) (hR : Rd iR w w.heap.size A n L) (hn : n ≤ 9223372036854775807) :
    Calls Tryz.prog 58 #[.slice A n c, .int .i64 z] w fun e w' => e = .returned (.int .i64 (idx (fun a => decide (z = a)) L)) ∧ Below w.heap.size w w' := by
  have HL := Lib.hid hR.1
  obtain ⟨p, hp⟩ : ∃ p : Int → Bool, (fun a => decide (z = a)) = p := ⟨_, rfl⟩
  rw [hp]
  have HP : Hid (∀ a, p a = decide (z = a)) := fun a => by rw [← hp]
  clear hp
  go_enter Tryz.func58, Tryz.ntmps58
  go_wp2
  go_loopw [8] (fun i wr => ∃ k : Nat, k ≤ n ∧ i = .int .i64 k ∧ Below w.heap.size w wr ∧ Hid (∀ j, j < k → ∀ a, L[j]? = some a → p a = false)) (fun i _ => n - (intOf i).toNat)
  case atStart => exact ⟨0, Nat.zero_le _, rfl, Below.refl _ _, fun j hj => absurd hj (Nat.not_lt_zero _)⟩
  case round =>
    obtain ⟨k, hk, rfl, hbw, HF⟩ := hrel
    by_cases hlt : k < n
    · obtain ⟨ad, x, rfl, hab, hs, d0⟩ := loadI (hR.below hbw) hlt
      have HS := Lib.hid hs
      have hkn : (k : Int) < (n : Int) := by omega
      clear hR hs
      by_cases hq : z = x
      · have HQ : Hid (p x = true) := by rw [Hid, HP.out]; exact decide_eq_true hq
        go_wp2_with fail
        go_ret
        exact ⟨ret1 (idx_hit p L k _ HS.out HQ.out HF.out).symm, hbw⟩
      · have HQ : Hid (p x = false) := by rw [Hid, HP.out]; exact decide_eq_false hq
        go_wp2_with fail
        go_roundw
        case rel =>
          refine ⟨k + 1, by omega, by go_num, hbw, fun j hj a ha => ?_⟩
          by_cases e : j = k
          · subst e
            rw [HS.out] at ha
            cases ha
            exact HQ.out
          · exact HF.out j (by omega) a ha
        case measure => simp [intOf]; omega
    · clear hR
      go_wp2_with fail
      go_ret
      refine ⟨ret1 (idx_miss p L fun a ha => ?_).symm, hbw⟩
      obtain ⟨j, hj, e⟩ := List.mem_iff_getElem.1 ha
      exact HF.out j (by have := HL.out; omega) a (by rw [← e]; exact List.getElem?_eq_getElem hj)

set_option maxRecDepth 100000 in
theorem contains_int (z : Int) (A : Option Addr) (n c : Nat) (L : List Int) (w : World) (hR : Rd iR w w.heap.size A n L) (hn : n ≤ 9223372036854775807) :
    Calls Tryz.prog 36 #[.slice A n c, .int .i64 z] w (BoolPost (L.contains z) w) := by
  have HC := Lib.hid (indexv_int z A n c L w hR hn)
  have HX : Hid (L.contains z = decide (0 ≤ idx (fun a => decide (z = a)) L)) := by
    rw [Hid, ← idx_any]
    rw [List.contains_eq_any_beq]
    rfl
  have hi := idx_le (fun a => decide (z = a)) L
  clear hR
  generalize idx (fun a => decide (z = a)) L = q at *
  go_enter Tryz.func36, Tryz.ntmps36
  go_wp2_with fail
  refine HC.out.mono ?_
  rintro e w' ⟨rfl, hb⟩
  go_wp2_with fail
  go_ret
  exact ⟨retb HX.out.symm, hb⟩

theorem clash_one (B : Nat) (A : Option Addr) (n c : Nat) (L : List Int) (w : World) (hB : B < w.heap.size) (hc : w.cell? ⟨B, 0, none⟩ = some (.slice A n c)) (hR : Rd iR w w.heap.size A n L) (hn : n ≤ 9223372036854775807) : Asks 35 #[.pointer (some ⟨B, 0, none⟩)] intV (fun t => L.contains t) w := by
  intro W x hb
  have hc' := (hb.cell (p := ⟨B, 0, none⟩) hB).trans hc
  have hz := hb.size
  have hBW : B < W.heap.size := by omega
  have HC := Lib.hid (contains_int x A n c L W (hR.grow hb hz) hn)
  simp only [intV]
  obtain ⟨b, hb2⟩ : ∃ b, L.contains x = b := ⟨_, rfl⟩
  have HE := Lib.hid hb2
  rw [hb2] at HC
  clear hc hR hb2
  go_enter Tryz.func35, Tryz.ntmps35
  go_wp2_with fail
  refine HC.out.mono ?_
  rintro e w' ⟨rfl, hb'⟩
  go_wp2_with fail
  go_ret
  exact ⟨retb HE.out.symm, hb.trans (hb'.mono hz)⟩
end Go.Proofs.YtnfelcjpjodjhaaGreat.PIdI

namespace Go.Proofs.YtnfelcjpjodjhaaGreat.PCla
open Go.ChangeShapes Go.WideShapes Go.ChangeAt Go.RowKit Wd Small Mem Lay LayT Recs Keep Names PNames PSecs PEnds PCheck PStep PHops Rt RtR RtS PIdx PIdI PTra PRes
set_option linter.unusedVariables false

def ClaPost (r : Bool × Int) (w : World) (e : Ending) (w' : World) : Prop := e = .returned (.tuple #[.bool r.1, .int .i64 r.2]) ∧ Below w.heap.size w w'

set_option maxRecDepth 100000 in
set_option maxHeartbeats 4000000 in
theorem p_clash (v : LV) (l : Lay) (A1 : Option Addr) (n1 c1 : Nat) (L1 : List Lay.Step) (o1 : Int) (A2 : Option Addr) (n2 c2 : Nat) (L2 : List Lay.Step) (o2 : Int) (w : World) (hL : RdL w w.heap.size v l)
    (hR1 : Rd stpR w w.heap.size A1 n1 L1) (hnc1 : n1 ≤ c1) (hc1 : c1 ≤ 9223372036854775807) (ho1 : -9223372036854775808 ≤ o1) (ho1' : o1 ≤ 9223372036854775807)
    (hR2 : Rd stpR w w.heap.size A2 n2 L2) (hnc2 : n2 ≤ c2) (hc2 : c2 ≤ 9223372036854775807) (ho2 : -9223372036854775808 ≤ o2) (ho2' : o2 ≤ 9223372036854775807) :
    Calls Tryz.prog 19 #[v.val, rteV A1 n1 c1 o1, rteV A2 n2 c2 o2] w (ClaPost (rclash l ⟨L1, o1⟩ ⟨L2, o2⟩) w) := by
  obtain ⟨W1, hW1⟩ : ∃ W1, w.alloc (.cells #[.slice v.A1 v.n1 v.c1, .slice v.A2 v.n2 v.c2, .slice v.A3 v.n3 v.c3, .slice v.A4 v.n4 v.c4] 26) = W1 := ⟨_, rfl⟩
  obtain ⟨W2, hW2⟩ : ∃ W2, W1.alloc (.cells #[.slice A1 n1 c1, .int .i64 o1] 29) = W2 := ⟨_, rfl⟩
  obtain ⟨W, hW⟩ : ∃ W, W2.alloc (.cells #[.slice A2 n2 c2, .int .i64 o2] 29) = W := ⟨_, rfl⟩
  have hz1 : W1.heap.size = w.heap.size + 1 := by rw [← hW1]; simp
  have hz2 : W2.heap.size = w.heap.size + 2 := by rw [← hW2]; simp [hz1]
  have hzW : W.heap.size = w.heap.size + 3 := by rw [← hW]; simp [hz2]
  have h01 : Below w.heap.size w W1 := by rw [← hW1]; exact (Below.refl _ _).alloc (Nat.le_refl _) _
  have h12 : Below W1.heap.size W1 W2 := by rw [← hW2]; exact (Below.refl _ _).alloc (Nat.le_refl _) _
  have h2W : Below W2.heap.size W2 W := by rw [← hW]; exact (Below.refl _ _).alloc (Nat.le_refl _) _
  have h1W : Below W1.heap.size W1 W := h12.trans (h2W.mono h12.size)
  have hbW : Below w.heap.size w W := h01.trans (h1W.mono h01.size)
  have hbox1 : W1.cell? ⟨w.heap.size, 0, none⟩ = some (.slice v.A1 v.n1 v.c1) ∧ W1.cell? ⟨w.heap.size, 1, none⟩ = some (.slice v.A2 v.n2 v.c2) ∧ W1.cell? ⟨w.heap.size, 2, none⟩ = some (.slice v.A3 v.n3 v.c3) ∧ W1.cell? ⟨w.heap.size, 3, none⟩ = some (.slice v.A4 v.n4 v.c4) := by rw [← hW1]; simp
  have hbox := box_kept h1W (show w.heap.size < W1.heap.size by omega) hbox1
  have hsb1 : W2.cell? ⟨W1.heap.size, 0, none⟩ = some (.slice A1 n1 c1) ∧ W2.cell? ⟨W1.heap.size, 1, none⟩ = some (.int .i64 o1) := by rw [← hW2]; simp
  have hsc1 : W.cell? ⟨W2.heap.size, 0, none⟩ = some (.slice A2 n2 c2) ∧ W.cell? ⟨W2.heap.size, 1, none⟩ = some (.int .i64 o2) := by rw [← hW]; simp
  have hsb : W.cell? ⟨w.heap.size + 1, 0, none⟩ = some (.slice A1 n1 c1) ∧ W.cell? ⟨w.heap.size + 1, 1, none⟩ = some (.int .i64 o1) := by
    rw [← hz1]
    exact ⟨(h2W.cell (p := ⟨W1.heap.size, 0, none⟩) (by show W1.heap.size < W2.heap.size; omega)).trans hsb1.1, (h2W.cell (p := ⟨W1.heap.size, 1, none⟩) (by show W1.heap.size < W2.heap.size; omega)).trans hsb1.2⟩
  have hsc : W.cell? ⟨w.heap.size + 2, 0, none⟩ = some (.slice A2 n2 c2) ∧ W.cell? ⟨w.heap.size + 2, 1, none⟩ = some (.int .i64 o2) := by
    rw [← hz2]
    exact hsc1
  clear hbox1 hsb1 hsc1 h01 h12 h2W h1W
  have HK : Hid (∀ wr, Below W.heap.size W wr → _) := fun wr hb => box_kept hb (show w.heap.size < W.heap.size by omega) hbox
  have HSC : Hid (∀ wr, Below W.heap.size W wr → wr.cell? ⟨w.heap.size + 2, 0, none⟩ = some (.slice A2 n2 c2) ∧ wr.cell? ⟨w.heap.size + 2, 1, none⟩ = some (.int .i64 o2)) := fun wr hb => ⟨(hb.cell (p := ⟨w.heap.size + 2, 0, none⟩) (by show w.heap.size + 2 < W.heap.size; omega)).trans hsc.1, (hb.cell (p := ⟨w.heap.size + 2, 1, none⟩) (by show w.heap.size + 2 < W.heap.size; omega)).trans hsc.2⟩
  have HC1 := Lib.hid (p_rres v l A1 n1 c1 L1 o1 W (hL.grow hbW hbW.size) (hR1.grow hbW hbW.size) hnc1 hc1 ho1 ho1')
  have HC2 : Hid (∀ V, Below W.heap.size W V → Calls Tryz.prog 17 #[v.val, rteV A2 n2 c2 o2] V (ResPost (rres l ⟨L2, o2⟩) V)) := fun V hb => by
    have hbV := hbW.trans (hb.mono hbW.size)
    exact p_rres v l A2 n2 c2 L2 o2 V (hL.grow hbV hbV.size) (hR2.grow hbV hbV.size) hnc2 hc2 ho2 ho2'
  have hs1 : (rres l ⟨L1, o1⟩).2 = rerr l ⟨L1, o1⟩ := by unfold rres; split <;> simp_all
  have hs2 : (rres l ⟨L2, o2⟩).2 = rerr l ⟨L2, o2⟩ := by unfold rres; split <;> simp_all
  obtain ⟨q, hq⟩ : ∃ q, rclash l ⟨L1, o1⟩ ⟨L2, o2⟩ = q := ⟨_, rfl⟩
  rw [hq]
  unfold rclash at hq
  rw [← hs1, ← hs2] at hq
  have HQ := Lib.hid hq
  have HBW := Lib.hid hbW
  have HZW := Lib.hid hzW
  clear hq hs1 hs2 hL hR1 hR2 hbW hzW
  generalize rres l ⟨L1, o1⟩ = r1 at *
  generalize rres l ⟨L2, o2⟩ = r2 at *
  obtain ⟨R1, z1⟩ := r1
  obtain ⟨R2, z2⟩ := r2
  obtain ⟨b0, b1, b2, b3⟩ := hbox
  obtain ⟨s0, s1⟩ := hsb
  obtain ⟨t0, t1⟩ := hsc
  simp only [LV.val, rteV] at *
  go_enter Tryz.func19, Tryz.ntmps19
  go_wp2_with fail
  try rw [hW1]
  try rw [hW2]
  try rw [hW]
  clear hW hW1 hW2 hz1 hz2
  refine HC1.out.mono ?_
  rintro e w1 ⟨Aa, na, ca, rfl, hOa, hb1⟩
  have HB1 := Lib.hid hb1
  have HRA := Lib.hid hOa.rd
  have hna63 : na ≤ 9223372036854775807 := by
    rcases hOa.form with ⟨A1', c1', e, h1, h2⟩
    unfold maxLen at h2
    omega
  clear hOa b0 b1 b2 b3 s0 s1 t0 t1 hb1
  by_cases hz1 : z1 = 0
  · subst hz1
    obtain ⟨b0, b1, b2, b3⟩ := HK.out w1 HB1.out
    obtain ⟨t0, t1⟩ := HSC.out w1 HB1.out
    go_wp2_with fail
    refine (HC2.out w1 HB1.out).mono ?_
    rintro e w2 ⟨Ab, nb, cb, rfl, hOb, hb2⟩
    have HB2 := Lib.hid (HB1.out.trans (hb2.mono HB1.out.size))
    have HB12 := Lib.hid hb2
    have HRB := Lib.hid hOb.rd
    have hnb63 : nb ≤ 9223372036854775807 := by
      rcases hOb.form with ⟨A1', c1', e, h1, h2⟩
      unfold maxLen at h2
      omega
    clear hOb b0 b1 b2 b3 t0 t1 hb2
    by_cases hz2 : z2 = 0
    · subst hz2
      have E : Hid (q = (R1.any fun i => R2.contains i, 0)) := by rw [Hid, ← HQ.out, if_neg (by simp), if_neg (by simp)]
      obtain ⟨W5, hW5⟩ : ∃ W5, w2.alloc (.cells #[.slice Ab nb cb] 34) = W5 := ⟨_, rfl⟩
      have hb5 : Below w2.heap.size w2 W5 := by rw [← hW5]; exact (Below.refl _ _).alloc (Nat.le_refl _) _
      have hz5 : w2.heap.size < W5.heap.size := by rw [← hW5]; simp
      have hc5 : W5.cell? ⟨w2.heap.size, 0, none⟩ = some (.slice Ab nb cb) := by rw [← hW5]; simp
      have h15 := HB12.out.trans (hb5.mono HB12.out.size)
      have HC5 := Lib.hid (containsf_int (fun t => R2.contains t) 35 #[.pointer (some ⟨w2.heap.size, 0, none⟩)] (enters_of Tryz.func35 (by kernel_rfl) rfl) Aa na ca R1 W5 (HRA.out.grow h15 h15.size) hna63 (clash_one w2.heap.size Ab nb cb R2 W5 hz5 hc5 (HRB.out.grow hb5 hb5.size) hnb63))
      have HB5 := Lib.hid (HB2.out.trans (hb5.mono HB2.out.size))
      obtain ⟨bb, hbb⟩ : ∃ bb, R1.any (fun i => R2.contains i) = bb := ⟨_, rfl⟩
      rw [hbb] at E HC5
      clear hb5 hz5 hc5 h15 hbb
      go_wp2_with fail
      try rw [hW5]
      clear hW5
      refine HC5.out.mono ?_
      rintro e w6 ⟨rfl, hb6⟩
      go_wp2_with fail
      go_ret2
      exact ⟨by first | (rw [E.out]; done) | (rw [E.out]; rfl), HBW.out.trans ((HB5.out.trans (hb6.mono HB5.out.size)).mono HBW.out.size)⟩
    · have E : Hid (q = (false, z2)) := by rw [Hid, ← HQ.out, if_neg (by simp), if_pos hz2]
      go_wp2_with fail
      go_ret2
      exact ⟨by first | (rw [E.out]; done) | (rw [E.out]; rfl), HBW.out.trans ((HB2.out.alloc HB2.out.size _).mono HBW.out.size)⟩
  · have E : Hid (q = (false, z1)) := by rw [Hid, ← HQ.out]; rw [if_pos hz1]
    go_wp2_with fail
    go_ret2
    exact ⟨by first | (rw [E.out]; done) | (rw [E.out]; rfl), HBW.out.trans (HB1.out.mono HBW.out.size)⟩
end Go.Proofs.YtnfelcjpjodjhaaGreat.PCla
