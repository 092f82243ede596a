/-
  Plain mathematics of the search for routes: what it finds, that it finds all, and how its budget matters. No program in it.
  Plain mathematics of routes that follow hops: they have no error. No program in it.
  Contracts of the document's functions that find the hops of a step.
-/
import Derived.Test.YtnfelcjpjodjhaaGreatME
import Derived.Test.YtnfelcjpjodjhaaGreatMH
import Derived.Deep.CutBlock
namespace Go.Proofs.YtnfelcjpjodjhaaGreat.RtF
open Wd Lay Rt
set_option linter.unusedVariables false

/-- does a hop lead from a step to another one -/
def link (ks : List Lnk) (a b : Step) : Prop := ∃ h ∈ hops ks a, h.to = b
/-- do hops lead from a step along the next ones -/
def chained (ks : List Lnk) : Step → List Step → Prop
  | _, [] => True
  | a, b :: r => link ks a b ∧ chained ks b r
theorem hopTo_link {ks : List Lnk} {a b : Step} : hopTo ks a b ≠ none ↔ link ks a b := by
  unfold hopTo link
  rw [Ne, List.find?_eq_none]
  constructor
  · intro h
    apply Classical.byContradiction
    intro hn
    exact h fun x hx e => hn ⟨x, hx, by simpa using e⟩
  · rintro ⟨h, hh, e⟩ hn
    exact hn h hh (by simpa using e)
theorem hopsOn_chained {ks : List Lnk} : ∀ (r : List Step) (a : Step), hopsOn ks a r ≠ none ↔ chained ks a r
  | [], a => by simp [hopsOn, chained]
  | b :: r, a => by
    have ih := hopsOn_chained (ks := ks) r b
    have hw := hopTo_link (ks := ks) (a := a) (b := b)
    unfold hopsOn chained
    cases e : hopTo ks a b with
    | none =>
      rw [e] at hw
      simp only [ne_eq, not_true_eq_false, false_iff] at hw ⊢
      exact fun h => hw h.1
    | some h =>
      rw [e] at hw
      simp only [ne_eq, reduceCtorEq, not_false_eq_true, true_iff] at hw
      cases e2 : hopsOn ks b r with
      | none =>
        rw [e2] at ih
        simp only [ne_eq, not_true_eq_false, false_iff] at ih ⊢
        exact fun h => ih h.2
      | some H =>
        rw [e2] at ih
        simp only [ne_eq, reduceCtorEq, not_false_eq_true, true_iff] at ih ⊢
        exact ⟨hw, ih⟩
theorem chained_snoc {ks : List Lnk} : ∀ (t : List Step) (a b : Step), chained ks a (t ++ [b]) ↔ chained ks a t ∧ link ks ((a :: t).getLastD (0, 0)) b
  | [], a, b => by simp [chained]
  | c :: t, a, b => by
    have ih := chained_snoc (ks := ks) t c b
    simp only [List.cons_append, chained, ih, and_assoc]
    simp
theorem twice_snoc : ∀ (S done : List Step) (x : Step), twice done (S ++ [x]) = (twice done S || pass (done ++ S) x.1)
  | [], done, x => by simp [twice]
  | s :: S, done, x => by
    have ih := twice_snoc S (done ++ [s]) x
    simp only [List.cons_append, twice, ih, Bool.or_assoc]
    simp
theorem pass_append (p q : List Step) (x : Int) : pass (p ++ q) x = (pass p x || pass q x) := by simp [pass]

/-! ### units -/

section
variable {ks : List Lnk} {tg bud : Int}
/-- units only grow, results only come behind -/
theorem try_up {rec : List Step → Fnd → Option Fnd} {p : List Step} (hrec : ∀ q st st', rec q st = some st' → st.u ≤ st'.u) : ∀ (hs : List Hop) (st st' : Fnd), tryHops rec tg bud p hs st = some st' → st.u ≤ st'.u
  | [], st, st', h => by cases h; exact Int.le_refl _
  | h :: r, st, st', e => by
    unfold tryHops at e
    split at e
    · exact try_up hrec r _ _ e
    · split at e
      · cases e
      · split at e
        · have := try_up hrec r _ _ e; simp only at this; omega
        · split at e
          · cases e
          · next st1 e1 =>
            have h1 := hrec _ _ _ e1
            have h2 := try_up hrec r _ _ e
            simp only at h1
            omega
theorem ext_up : ∀ (f : Nat) (p : List Step) (st st' : Fnd), ext ks tg bud f p st = some st' → st.u ≤ st'.u
  | 0, p, st, st', h => by cases h; exact Int.le_refl _
  | f + 1, p, st, st', h => try_up (fun q st st' h => ext_up f q st st' h) _ _ _ h

theorem try_le {rec : List Step → Fnd → Option Fnd} {p : List Step} (hrec : ∀ q st st', st.u ≤ bud → rec q st = some st' → st'.u ≤ bud) : ∀ (hs : List Hop) (st st' : Fnd), st.u ≤ bud → tryHops rec tg bud p hs st = some st' → st'.u ≤ bud
  | [], st, st', h0, h => by cases h; exact h0
  | h :: r, st, st', h0, e => by
    unfold tryHops at e
    split at e
    · exact try_le hrec r _ _ h0 e
    · split at e
      · cases e
      · split at e
        · exact try_le hrec r _ _ (by simp only; omega) e
        · split at e
          · cases e
          · next st1 e1 =>
            have h1 := hrec _ _ _ (by simp only; omega) e1
            exact try_le hrec r _ _ h1 e
theorem ext_le : ∀ (f : Nat) (p : List Step) (st st' : Fnd), st.u ≤ bud → ext ks tg bud f p st = some st' → st'.u ≤ bud
  | 0, p, st, st', h0, h => by cases h; exact h0
  | f + 1, p, st, st', h0, h => try_le (fun q st st' h0 h => ext_le f q st st' h0 h) _ _ _ h0 h

/-- another budget that the units of the end do not exceed -/
theorem try_more {rec rec' : List Step → Fnd → Option Fnd} {p : List Step} {b' : Int} (hup : ∀ q st st', rec q st = some st' → st.u ≤ st'.u)
    (hrec : ∀ q st st', rec q st = some st' → st'.u ≤ b' → rec' q st = some st') : ∀ (hs : List Hop) (st st' : Fnd), tryHops rec tg bud p hs st = some st' → st'.u ≤ b' → tryHops rec' tg b' p hs st = some st'
  | [], st, st', h, _ => h
  | h :: r, st, st', e, hb => by
    unfold tryHops at e ⊢
    split at e
    · next h1 => rw [if_pos h1]; exact try_more hup hrec r _ _ e hb
    · next h1 =>
      rw [if_neg h1]
      split at e
      · cases e
      · next h2 =>
        split at e
        · next h3 =>
          have hu := try_up hup r _ _ e
          simp only at hu
          rw [if_neg (by omega), if_pos h3]
          exact try_more hup hrec r _ _ e hb
        · next h3 =>
          split at e
          · cases e
          · next st1 e1 =>
            have hu1 := hup _ _ _ e1
            have hu2 := try_up hup r _ _ e
            simp only at hu1
            rw [if_neg (by omega), if_neg h3, hrec _ _ _ e1 (by omega)]
            exact try_more hup hrec r _ _ e hb
theorem ext_more {b' : Int} : ∀ (f : Nat) (p : List Step) (st st' : Fnd), ext ks tg bud f p st = some st' → st'.u ≤ b' → ext ks tg b' f p st = some st'
  | 0, p, st, st', h, _ => h
  | f + 1, p, st, st', h, hb => try_more (fun q st st' h => ext_up f q st st' h) (fun q st st' h hb => ext_more f q st st' h hb) _ _ _ h hb
/-- a smaller budget -/
theorem try_less {rec rec' : List Step → Fnd → Option Fnd} {p : List Step} {b' : Int} (hup : ∀ q st st', rec q st = some st' → st.u ≤ st'.u)
    (hmore : ∀ q st st', rec q st = some st' → st'.u ≤ b' → rec' q st = some st')
    (hrec : ∀ q st st', rec q st = some st' → st.u ≤ b' → b' < st'.u → rec' q st = none) : ∀ (hs : List Hop) (st st' : Fnd), tryHops rec tg bud p hs st = some st' → st.u ≤ b' → b' < st'.u → tryHops rec' tg b' p hs st = none
  | [], st, st', h, h1, h2 => by cases h; omega
  | h :: r, st, st', e, g1, g2 => by
    unfold tryHops at e ⊢
    split at e
    · next h1 => rw [if_pos h1]; exact try_less hup hmore hrec r _ _ e g1 g2
    · next h1 =>
      rw [if_neg h1]
      split at e
      · cases e
      · next h2 =>
        by_cases h4 : st.u = b'
        · rw [if_pos h4]
        · rw [if_neg h4]
          split at e
          · next h3 =>
            rw [if_pos h3]
            exact try_less hup hmore hrec r _ _ e (by simp only; omega) g2
          · next h3 =>
            rw [if_neg h3]
            split at e
            · cases e
            · next st1 e1 =>
              by_cases h5 : st1.u ≤ b'
              · rw [hmore _ _ _ e1 h5]
                exact try_less hup hmore hrec r _ _ e h5 g2
              · rw [hrec _ _ _ e1 (by simp only; omega) (by omega)]
theorem ext_less {b' : Int} : ∀ (f : Nat) (p : List Step) (st st' : Fnd), ext ks tg bud f p st = some st' → st.u ≤ b' → b' < st'.u → ext ks tg b' f p st = none
  | 0, p, st, st', h, h1, h2 => by cases h; omega
  | f + 1, p, st, st', h, h1, h2 => try_less (fun q st st' h => ext_up f q st st' h) (fun q st st' h hb => ext_more f q st st' h hb) (fun q st st' h h1 h2 => ext_less f q st st' h h1 h2) _ _ _ h h1 h2

/-! ### how many units suffice -/

def cntHops (rec : List Step → Nat) (p : List Step) : List Hop → Nat
  | [] => 0
  | h :: r => if pass p h.to.1 = true then cntHops rec p r else 1 + rec (p ++ [h.to]) + cntHops rec p r
/-- how many steps a search that stops nowhere appends -/
def cnt (ks : List Lnk) : Nat → List Step → Nat
  | 0, _ => 0
  | f + 1, p => cntHops (cnt ks f) p (hops ks (p.getLastD (0, 0)))
theorem try_cnt {rec : List Step → Fnd → Option Fnd} {c : List Step → Nat} (p : List Step) (hrec : ∀ q st, st.u + c q ≤ bud → ∃ st', rec q st = some st' ∧ st'.u ≤ st.u + c q) :
    ∀ (hs : List Hop) (st : Fnd), st.u + cntHops c p hs ≤ bud → ∃ st', tryHops rec tg bud p hs st = some st' ∧ st'.u ≤ st.u + cntHops c p hs
  | [], st, h => ⟨st, rfl, by simp [cntHops]⟩
  | h :: r, st, e => by
    unfold tryHops
    unfold cntHops at e ⊢
    split
    · next h1 =>
      rw [if_pos h1] at e
      exact try_cnt p hrec r st e
    · next h1 =>
      rw [if_neg h1] at e
      rw [if_neg (by omega)]
      split
      · next h3 =>
        obtain ⟨st', e1, e2⟩ := try_cnt p hrec r ⟨st.u + 1, st.out ++ [p ++ [h.to]]⟩ (by simp only; omega)
        exact ⟨st', e1, by simp only at e2; omega⟩
      · next h3 =>
        obtain ⟨st1, e1, e2⟩ := hrec (p ++ [h.to]) ⟨st.u + 1, st.out⟩ (by simp only; omega)
        simp only at e2
        obtain ⟨st', e3, e4⟩ := try_cnt p hrec r st1 (by omega)
        rw [e1]
        exact ⟨st', e3, by omega⟩
theorem ext_cnt : ∀ (f : Nat) (p : List Step) (st : Fnd), st.u + cnt ks f p ≤ bud → ∃ st', ext ks tg bud f p st = some st' ∧ st'.u ≤ st.u + cnt ks f p
  | 0, p, st, _ => ⟨st, rfl, by simp [cnt]⟩
  | f + 1, p, st, h => try_cnt p (fun q st h => ext_cnt f q st h) _ _ h

/-! ### what is found -/

/-- a sequence of steps that the search may find from p on, with at most f steps more -/
structure Goal (ks : List Lnk) (tg : Int) (f : Nat) (p q : List Step) : Prop where
  ex : ∃ t, t ≠ [] ∧ q = p ++ t ∧ chained ks (p.getLastD (0, 0)) t ∧ t.length ≤ f ∧ (t.getLastD (0, 0)).1 = tg ∧ twice p t = false
theorem getLastD_snoc (p : List Step) (x d : Step) : (p ++ [x]).getLastD d = x := by simp
theorem goal_one {f : Nat} {p : List Step} {h : Hop} (hp : pass p h.to.1 = false) (hh : h ∈ hops ks (p.getLastD (0, 0))) (e : h.to.1 = tg) (hf : 0 < f) : Goal ks tg f p (p ++ [h.to]) :=
  ⟨[h.to], by simp, rfl, ⟨⟨h, hh, rfl⟩, trivial⟩, by simp only [List.length_cons, List.length_nil]; omega, by simpa using e, by simp [twice, hp]⟩
theorem goal_more {f : Nat} {p q : List Step} {h : Hop} (hp : pass p h.to.1 = false) (hh : h ∈ hops ks (p.getLastD (0, 0))) (g : Goal ks tg f (p ++ [h.to]) q) : Goal ks tg (f + 1) p q := by
  obtain ⟨t, h1, h2, h3, h4, h5, h6⟩ := g.ex
  rw [getLastD_snoc] at h3
  refine ⟨h.to :: t, by simp, by rw [h2]; simp, ⟨⟨h, hh, rfl⟩, h3⟩, by simpa using h4, ?_, by simp [twice, hp, h6]⟩
  cases t with
  | nil => exact absurd rfl h1
  | cons a r => simpa using h5
/-- what is new is a goal, begins with a hop of the list, is there once, and costs a unit each -/
structure New (ks : List Lnk) (tg : Int) (f : Nat) (p : List Step) (hs : List Hop) (st st' : Fnd) (new : List (List Step)) : Prop where
  out : st'.out = st.out ++ new
  goal : ∀ q ∈ new, Goal ks tg f p q ∧ ∃ h ∈ hs, (p ++ [h.to]) <+: q
  once : new.Nodup
  cost : st.u + new.length ≤ st'.u
theorem prefix_hd {p q : List Step} {a b : Step} (h1 : (p ++ [a]) <+: q) (h2 : (p ++ [b]) <+: q) : a = b := by
  obtain ⟨t, rfl⟩ := h1
  obtain ⟨s, h⟩ := h2
  simp only [List.append_assoc, List.cons_append, List.nil_append] at h
  have := List.append_cancel_left h
  simp at this
  exact this.1.symm
theorem try_new {rec : List Step → Fnd → Option Fnd} {p : List Step} {f : Nat}
    (hrec : ∀ q st st', rec q st = some st' → ∃ new, st'.out = st.out ++ new ∧ (∀ x ∈ new, Goal ks tg f q x ∧ q <+: x) ∧ new.Nodup ∧ st.u + new.length ≤ st'.u) :
    ∀ (hs : List Hop) (st st' : Fnd), (∀ h ∈ hs, h ∈ hops ks (p.getLastD (0, 0))) → (hs.map Hop.to).Nodup → tryHops rec tg bud p hs st = some st' → ∃ new, New ks tg (f + 1) p hs st st' new
  | [], st, st', _, _, h => by cases h; exact ⟨[], by simp, by simp, by simp, by simp⟩
  | h :: r, st, st', hm, hn, e => by
    have hm1 := hm h List.mem_cons_self
    have hm2 : ∀ x ∈ r, x ∈ hops ks (p.getLastD (0, 0)) := fun x hx => hm x (List.mem_cons_of_mem _ hx)
    simp only [List.map_cons, List.nodup_cons] at hn
    unfold tryHops at e
    split at e
    · obtain ⟨new, n1, n2, n3, n4⟩ := try_new hrec r _ _ hm2 hn.2 e
      exact ⟨new, n1, fun q hq => ⟨(n2 q hq).1, (n2 q hq).2.imp fun x hx => ⟨List.mem_cons_of_mem _ hx.1, hx.2⟩⟩, n3, n4⟩
    · next hp =>
      have hp' : pass p h.to.1 = false := by simpa using hp
      split at e
      · cases e
      · split at e
        · next ht =>
          obtain ⟨new, n1, n2, n3, n4⟩ := try_new hrec r _ _ hm2 hn.2 e
          refine ⟨(p ++ [h.to]) :: new, by rw [n1]; simp, fun q hq => ?_, ?_, by simp only [List.length_cons] at n4 ⊢; omega⟩
          · rcases List.mem_cons.1 hq with rfl | hq
            · exact ⟨goal_one hp' hm1 ht (Nat.succ_pos _), h, List.mem_cons_self, List.prefix_refl _⟩
            · exact ⟨(n2 q hq).1, (n2 q hq).2.imp fun x hx => ⟨List.mem_cons_of_mem _ hx.1, hx.2⟩⟩
          · rw [List.nodup_cons]
            refine ⟨fun hc => ?_, n3⟩
            obtain ⟨x, hx, hpx⟩ := (n2 _ hc).2
            have := prefix_hd (List.prefix_refl (p ++ [h.to])) hpx
            exact hn.1 (by rw [this]; exact List.mem_map.2 ⟨x, hx, rfl⟩)
        · split at e
          · cases e
          · next st1 e1 =>
            obtain ⟨new1, m1, m2, m3, m4⟩ := hrec _ _ _ e1
            obtain ⟨new, n1, n2, n3, n4⟩ := try_new hrec r _ _ hm2 hn.2 e
            refine ⟨new1 ++ new, by rw [n1, m1]; simp, fun q hq => ?_, ?_, by simp only [List.length_append] at m4 n4 ⊢; omega⟩
            · rcases List.mem_append.1 hq with hq | hq
              · exact ⟨goal_more hp' hm1 (m2 q hq).1, h, List.mem_cons_self, (m2 q hq).2⟩
              · exact ⟨(n2 q hq).1, (n2 q hq).2.imp fun x hx => ⟨List.mem_cons_of_mem _ hx.1, hx.2⟩⟩
            · rw [List.nodup_append]
              refine ⟨m3, n3, fun a ha b hb => ?_⟩
              rintro rfl
              obtain ⟨x, hx, hpx⟩ := (n2 _ hb).2
              have := prefix_hd (m2 _ ha).2 hpx
              exact hn.1 (by rw [this]; exact List.mem_map.2 ⟨x, hx, rfl⟩)
theorem ext_new (hone : ∀ s, ((hops ks s).map Hop.to).Nodup) : ∀ (f : Nat) (p : List Step) (st st' : Fnd), ext ks tg bud f p st = some st' → ∃ new, st'.out = st.out ++ new ∧ (∀ x ∈ new, Goal ks tg f p x ∧ p <+: x) ∧ new.Nodup ∧ st.u + new.length ≤ st'.u
  | 0, p, st, st', h => by cases h; exact ⟨[], by simp, by simp, by simp, by simp⟩
  | f + 1, p, st, st', h => by
    obtain ⟨new, n1, n2, n3, n4⟩ := try_new (fun q st st' h => ext_new hone f q st st' h) _ _ _ (fun h hh => hh) (hone _) h
    exact ⟨new, n1, fun x hx => ⟨(n2 x hx).1, by obtain ⟨_, _, hp⟩ := (n2 x hx).2; exact (List.prefix_append _ _).trans hp⟩, n3, n4⟩

/-! ### all is found -/

theorem try_keep {rec : List Step → Fnd → Option Fnd} {p : List Step} (hrec : ∀ q st st', rec q st = some st' → ∀ x ∈ st.out, x ∈ st'.out) : ∀ (hs : List Hop) (st st' : Fnd), tryHops rec tg bud p hs st = some st' → ∀ x ∈ st.out, x ∈ st'.out
  | [], st, st', h, x, hx => by cases h; exact hx
  | h :: r, st, st', e, x, hx => by
    unfold tryHops at e
    split at e
    · exact try_keep hrec r _ _ e x hx
    · split at e
      · cases e
      · split at e
        · exact try_keep hrec r _ _ e x (by simp [hx])
        · split at e
          · cases e
          · next st1 e1 => exact try_keep hrec r _ _ e x (hrec _ _ _ e1 x hx)
theorem ext_keep : ∀ (f : Nat) (p : List Step) (st st' : Fnd), ext ks tg bud f p st = some st' → ∀ x ∈ st.out, x ∈ st'.out
  | 0, p, st, st', h, x, hx => by cases h; exact hx
  | f + 1, p, st, st', h, x, hx => try_keep (fun q st st' h x hx => ext_keep f q st st' h x hx) _ _ _ h x hx
theorem try_all {rec : List Step → Fnd → Option Fnd} {p q : List Step} {y : Step} (hkeep : ∀ q st st', rec q st = some st' → ∀ x ∈ st.out, x ∈ st'.out) (hp : pass p y.1 = false)
    (hhit : y.1 = tg → q = p ++ [y]) (hrec : y.1 ≠ tg → ∀ st st', rec (p ++ [y]) st = some st' → q ∈ st'.out) :
    ∀ (hs : List Hop) (st st' : Fnd), (∃ h ∈ hs, h.to = y) → tryHops rec tg bud p hs st = some st' → q ∈ st'.out
  | [], st, st', hy, h => by obtain ⟨_, hm, _⟩ := hy; cases hm
  | h :: r, st, st', hy, e => by
    by_cases hh : h.to = y
    · subst hh
      unfold tryHops at e
      rw [if_neg (by rw [hp]; decide)] at e
      split at e
      · cases e
      · split at e
        · next h3 =>
          refine try_keep hkeep r _ _ e q ?_
          rw [hhit h3]; simp
        · next h3 =>
          split at e
          · cases e
          · next st1 e1 => exact try_keep hkeep r _ _ e q (hrec h3 _ _ e1)
    · have hy' : ∃ h ∈ r, h.to = y := by
        obtain ⟨k, hk, e9⟩ := hy
        rcases List.mem_cons.1 hk with rfl | hk
        · exact absurd e9 hh
        · exact ⟨k, hk, e9⟩
      unfold tryHops at e
      split at e
      · exact try_all hkeep hp hhit hrec r _ _ hy' e
      · split at e
        · cases e
        · split at e
          · exact try_all hkeep hp hhit hrec r _ _ hy' e
          · split at e
            · cases e
            · exact try_all hkeep hp hhit hrec r _ _ hy' e
theorem twice_mem : ∀ (t done : List Step), twice done t = false → ∀ s ∈ t, pass done s.1 = false
  | [], _, _, s, hs => by cases hs
  | a :: t, done, h, s, hs => by
    unfold twice at h
    rw [Bool.or_eq_false_iff] at h
    rcases List.mem_cons.1 hs with rfl | hs
    · exact h.1
    · have := twice_mem t (done ++ [a]) h.2 s hs
      rw [pass_append, Bool.or_eq_false_iff] at this
      exact this.1
theorem ext_all : ∀ (f : Nat) (p q : List Step), Goal ks tg f p q → ∀ st st', ext ks tg bud f p st = some st' → q ∈ st'.out
  | 0, p, q, g, st, st', h => by
    obtain ⟨t, h1, h2, h3, h4, _⟩ := g.ex
    cases t with
    | nil => exact absurd rfl h1
    | cons a r => simp at h4
  | f + 1, p, q, g, st, st', h => by
    obtain ⟨t, h1, h2, h3, h4, h5, h6⟩ := g.ex
    cases t with
    | nil => exact absurd rfl h1
    | cons y r =>
      have hp := twice_mem _ _ h6 y List.mem_cons_self
      have h6' := h6
      unfold twice at h6'
      rw [Bool.or_eq_false_iff] at h6'
      refine try_all (fun q st st' h => ext_keep f q st st' h) hp (fun e => ?_) (fun hne st1 st2 h7 => ?_) _ _ _ h3.1 h
      · cases r with
        | nil => rw [h2]
        | cons z r =>
          have hl : (z :: r).getLastD (0, 0) ∈ z :: r := by
            rw [List.getLastD_eq_getLast?, List.getLast?_eq_some_getLast (by simp)]
            exact List.getLast_mem _
          have := twice_mem _ _ h6'.2 _ hl
          rw [pass_append, Bool.or_eq_false_iff] at this
          have h8 := this.2
          have h5' : ((z :: r).getLastD (0, 0)).1 = tg := by simpa using h5
          rw [h5', ← e] at h8
          simp [pass] at h8
      · refine ext_all f (p ++ [y]) q ⟨r, ?_, by rw [h2]; simp, by rw [getLastD_snoc]; exact h3.2, by simpa using h4, ?_, h6'.2⟩ st1 st2 h7
        · rintro rfl
          exact hne (by simpa using h5)
        · cases r with
          | nil => exact absurd (by simpa using h5) hne
          | cons z r => simpa using h5
end
end Go.Proofs.YtnfelcjpjodjhaaGreat.RtF

namespace Go.Proofs.YtnfelcjpjodjhaaGreat.RtW
open Wd Lay Rt RtF
set_option linter.unusedVariables false

theorem sec_pos {l : Lay} (h : check l = 0) : 1 ≤ l.sections.length := by
  unfold check at h
  split at h
  · omega
  · split at h
    · omega
    · omega
/-- a sequence of steps that follows hops and passes no section twice -/
structure Walk (l : Lay) (S : List Step) : Prop where
  ne : S ≠ []
  inn : ∀ s ∈ S, stepIn l.sections.length s = true
  one : twice [] S = false
  hop : along l.links S ≠ none
theorem hop_in {l : Lay} (h : check l = 0) {s : Step} {x : Hop} (hx : x ∈ hops l.links s) : stepIn l.sections.length x.to = true := by
  have hg := good_links l h
  unfold hops at hx
  obtain ⟨k, hk, rfl⟩ := List.mem_map.1 hx
  rw [List.mem_filter] at hk
  obtain ⟨hr, hne⟩ := hg.range k hk.1
  have hi := hr
  simp only [inr, Bool.and_eq_true, decide_eq_true_eq] at hr
  unfold hopOf into other
  simp only [stepIn, Bool.and_eq_true, Bool.or_eq_true, decide_eq_true_eq]
  by_cases h1 : k.x = out s
  · rw [if_pos h1]
    unfold Lnk.y
    simp only
    split <;> exact ⟨⟨by simp only; omega, by simp only; omega⟩, by simp⟩
  · rw [if_neg h1]
    unfold Lnk.x
    simp only
    split <;> exact ⟨⟨by simp only; omega, by simp only; omega⟩, by simp⟩
theorem hop_pt {l : Lay} (h : check l = 0) {s : Step} {x : Hop} (hx : x ∈ hops l.links s) : -1 ≤ x.pt ∧ x.pt < l.points.length := by
  have hg := good_links l h
  unfold hops at hx
  obtain ⟨k, hk, rfl⟩ := List.mem_map.1 hx
  rw [List.mem_filter] at hk
  obtain ⟨hr, hne⟩ := hg.range k hk.1
  simp only [inr, Bool.and_eq_true, decide_eq_true_eq] at hr
  show -1 ≤ k.pt ∧ k.pt < l.points.length
  omega
theorem Walk.start {l : Lay} {s : Step} (h : stepIn l.sections.length s = true) : Walk l [s] :=
  ⟨by simp, fun t ht => by simp at ht; subst ht; exact h, by simp [twice, pass], by simp [along, hopsOn]⟩
theorem along_chained {ks : List Lnk} {a : Step} {r : List Step} : along ks (a :: r) ≠ none ↔ chained ks a r := hopsOn_chained r a
theorem Walk.push {l : Lay} {S : List Step} (w : Walk l S) (hc : check l = 0) {x : Hop} (hx : x ∈ hops l.links (S.getLastD (0, 0))) (hp : pass S x.to.1 = false) : Walk l (S ++ [x.to]) := by
  refine ⟨by simp, fun t ht => ?_, ?_, ?_⟩
  · rcases List.mem_append.1 ht with ht | ht
    · exact w.inn t ht
    · simp at ht; subst ht; exact hop_in hc hx
  · rw [twice_snoc, w.one]; simpa using hp
  · cases S with
    | nil => exact absurd rfl w.ne
    | cons a r =>
      rw [List.cons_append, along_chained, chained_snoc]
      exact ⟨along_chained.1 w.hop, x, hx, rfl⟩
/-- such a sequence of at least two steps, with an overlap that leaves two, has no error -/
theorem Walk.ok {l : Lay} {S : List Step} (w : Walk l S) (hc : check l = 0) {ov : Int} (h0 : 0 ≤ ov) (h1 : ov ≤ 2) (h2 : 2 ≤ (S.length : Int) - ov) (h3 : S.length ≤ 24) : rerr l ⟨S, ov⟩ = 0 := by
  have ha : (S.any fun s => !stepIn l.sections.length s) = false := by
    rw [List.any_eq_false]
    intro s hs
    rw [w.inn s hs]
    decide
  unfold rerr
  simp only
  rw [if_neg (by omega), if_neg (by omega), if_neg (by rw [ha]; simp; omega), if_neg (by rw [w.one]; decide), if_neg w.hop]
end Go.Proofs.YtnfelcjpjodjhaaGreat.RtW

namespace Go.Proofs.YtnfelcjpjodjhaaGreat.RHopsF
open Go.ChangeShapes Go.WideShapes Go.ChangeAt Go.RowKit Wd Small Mem Lay LayT Recs Keep Names PNames PSecs PLinks PEnds PTab PLnk PCheck PStep PHops RNames RCheck
set_option linter.unusedVariables false

/-- where a link leads from an end; (-1, 0): nowhere -/
def tw (o : Lay.End) (k : Lnk) : Int × Int := if k.x = o then k.y else if k.y = o then k.x else (-1, 0)
theorem tw_no {o : Lay.End} {k : Lnk} {n p : Nat} (hi : inr n p k = true) (h : ¬ 0 ≤ (tw o k).1) : has k o = false := by
  obtain ⟨g1, g2, g3, g4, -⟩ := inr_range hi
  unfold tw at h
  by_cases hx : k.x = o
  · rw [if_pos hx] at h; exact absurd g3 h
  · rw [if_neg hx] at h
    by_cases hy : k.y = o
    · rw [if_pos hy] at h; exact absurd g1 h
    · cases hh : has k o with
      | false => rfl
      | true => rw [has_iff] at hh; exact (hh.elim hx hy).elim
theorem tw_yes {o : Lay.End} {k : Lnk} (h : 0 ≤ (tw o k).1) : has k o = true ∧ hopOf o k = ⟨into (tw o k), k.pt, k.ps⟩ := by
  unfold tw at h ⊢
  unfold hopOf other
  by_cases hx : k.x = o
  · rw [if_pos hx, if_pos hx]; exact ⟨by rw [has_iff]; exact .inl hx, rfl⟩
  · rw [if_neg hx] at h
    rw [if_neg hx, if_neg hx]
    by_cases hy : k.y = o
    · rw [if_pos hy]; exact ⟨by rw [has_iff]; exact .inr hy, rfl⟩
    · rw [if_neg hy] at h; exact absurd h (by decide)
theorem more_yes {L : List Lnk} {k : Nat} {x : Lnk} {s : Lay.Step} {o : Lay.End} (ho : out s = o) (h : hops (L.take (k + 1)) s = hops (L.take k) s ++ if has x (out s) = true then [hopOf (out s) x] else []) (ht : 0 ≤ (tw o x).1) : hops (L.take k) s ++ [⟨into (tw o x), x.pt, x.ps⟩] = hops (L.take (k + 1)) s := by
  obtain ⟨h1, h2⟩ := tw_yes ht
  rw [h, ho, if_pos h1, h2]
theorem more_no {L : List Lnk} {k : Nat} {x : Lnk} {s : Lay.Step} {o : Lay.End} {n p : Nat} (ho : out s = o) (h : hops (L.take (k + 1)) s = hops (L.take k) s ++ if has x (out s) = true then [hopOf (out s) x] else []) (hi : inr n p x = true) (ht : ¬ 0 ≤ (tw o x).1) : hops (L.take k) s = hops (L.take (k + 1)) s := by
  rw [h, ho, tw_no hi ht, if_neg (by decide), List.append_nil]

theorem tw_eq (o1 o2 ka kae kb kbe kpt kps : Int) : tw (o1, o2) ⟨ka, kae, kb, kbe, kpt, kps⟩ = if (ka == o1 && kae == o2) = true then (kb, kbe) else if (kb == o1 && kbe == o2) = true then (ka, kae) else (-1, 0) := by
  unfold tw Lnk.x Lnk.y
  simp only [Prod.mk.injEq, Bool.and_eq_true, beq_iff_eq]
theorem own_low {α : Type} {R : Rec α} {w : World} {base n e j : Nat} {x u : Value} {L : List α} (h : Own R w base x n L) (hl : ∀ k, x.ownBlock = some k → k < e) : Own R (w.setCell ⟨e, j, none⟩ u) base x n L :=
  h.grown (row := some e) (grown_set (World.grownBy.refl w _) _) (by
    cases hx : x.ownBlock with
    | none => exact .inl rfl
    | some k => exact .inr (fun e2 => by injection e2 with e2; have := hl k hx; omega))
theorem set_two {w3 w5 : World} {T R n : Nat} {v : Value} {L : List Hop} {kk : Lnk} {t : TypeId} (h : w5.heap[T]? = some (.cells #[.int .i64 (-1), .int .i64 0] t (0, 0))) (hl : Row6 w5 R kk) (hRT : R ≠ T) (hO : Own hopR w5 w3.heap.size v n L) (hv : ∀ g, v.ownBlock = some g → g < T)
    (hb : Below w3.heap.size w3 w5) (hT : w3.heap.size ≤ T) (u1 u2 : Int) :
    Row2 ((w5.setCell ⟨T, 0, none⟩ (.int .i64 u1)).setCell ⟨T, 1, none⟩ (.int .i64 u2)) T u1 u2 ∧ Row6 ((w5.setCell ⟨T, 0, none⟩ (.int .i64 u1)).setCell ⟨T, 1, none⟩ (.int .i64 u2)) R kk ∧ Own hopR ((w5.setCell ⟨T, 0, none⟩ (.int .i64 u1)).setCell ⟨T, 1, none⟩ (.int .i64 u2)) w3.heap.size v n L ∧ Below w3.heap.size w3 ((w5.setCell ⟨T, 0, none⟩ (.int .i64 u1)).setCell ⟨T, 1, none⟩ (.int .i64 u2)) := by
  have g : ((w5.setCell ⟨T, 0, none⟩ (.int .i64 u1)).setCell ⟨T, 1, none⟩ (.int .i64 u2)).heap[T]? = some (.cells #[.int .i64 u1, .int .i64 u2] t (0, 0)) := by simp [World.setCell, Array.getElem?_modify, h]
  have go : ∀ j, ((w5.setCell ⟨T, 0, none⟩ (.int .i64 u1)).setCell ⟨T, 1, none⟩ (.int .i64 u2)).cell? ⟨R, j, none⟩ = w5.cell? ⟨R, j, none⟩ := fun j =>
    (World.cell?_setCell_other _ _ _ _ (fun e => hRT (by have := congrArg Addr.block e; simp at this; omega))).trans (World.cell?_setCell_other _ _ _ _ (fun e => hRT (by have := congrArg Addr.block e; simp at this; omega)))
  obtain ⟨k0, k1, k2, k3, k4, k5⟩ := hl
  exact ⟨⟨by simp [World.cell?, g], by simp [World.cell?, g]⟩, ⟨(go 0).trans k0, (go 1).trans k1, (go 2).trans k2, (go 3).trans k3, (go 4).trans k4, (go 5).trans k5⟩, own_low (own_low hO hv) hv, (hb.setCell (p := ⟨T, 0, none⟩) hT _).setCell (p := ⟨T, 1, none⟩) hT _⟩

set_option maxRecDepth 100000 in
set_option maxHeartbeats 4000000 in
theorem r_hops_of (v : LV) (l : Lay) (s : Lay.Step) (w : World) (hL : RdL w w.heap.size v l) (hc : check l = 0) : Calls Tryz.prog 30 #[v.val, .agg #[.int .i64 s.1, .int .i64 s.2]] w (HopsPost (hops l.links s) w) := by
  obtain ⟨ih, hih, hz0, hz1, hz2⟩ := info_parts infoHop
  obtain ⟨W, hW⟩ : ∃ W, (w.alloc (.cells #[.slice v.A1 v.n1 v.c1, .slice v.A2 v.n2 v.c2, .slice v.A3 v.n3 v.c3, .slice v.A4 v.n4 v.c4] 26)).alloc (.cells #[.int .i64 s.1, .int .i64 s.2] 39) = W := ⟨_, rfl⟩
  have hbW : Below w.heap.size w W := by rw [← hW]; exact ((Below.refl _ _).alloc (Nat.le_refl _) _).alloc (by simp) _
  have hzW : w.heap.size + 1 < W.heap.size := by rw [← hW]; simp
  have HSt : Hid (Row2 W (w.heap.size + 1) s.1 s.2) := by rw [Hid, ← hW]; unfold Row2; simp
  have HBX : Hid (W.cell? ⟨w.heap.size, 3, none⟩ = some (.slice v.A4 v.n4 v.c4)) := by rw [Hid, ← hW]; simp
  have hn4 : v.n4 ≤ 192 := by have := LayT.limits hc; have := hL.lnk.1; omega
  have HGd := Lib.hid (good_links l hc)
  obtain ⟨W1, hW1⟩ : ∃ W1, W.alloc (.cells #[.int .i64 s.1, .int .i64 1] 104) = W1 := ⟨_, rfl⟩
  have hb1 : Below W.heap.size W W1 := by rw [← hW1]; exact (Below.refl _ _).alloc (Nat.le_refl _) _
  have hz1' : W.heap.size < W1.heap.size := by rw [← hW1]; simp
  have HO1 : Hid (Row2 W1 W.heap.size s.1 1) := by rw [Hid, ← hW1]; unfold Row2; simp
  have hf1 : W1.frozen? ⟨W.heap.size, 1, none⟩ = false := by rw [← hW1]; simp
  have HSt1 := Lib.hid (HSt.out.below hb1 hzW)
  have HBX1 : Hid (W1.cell? ⟨w.heap.size, 3, none⟩ = some (.slice v.A4 v.n4 v.c4)) := (hb1.cell (p := ⟨w.heap.size, 3, none⟩) (by simp; omega)).trans HBX.out
  have HR1 := Lib.hid (hL.lnk.grow (hbW.trans (hb1.mono hbW.size)) (show w.heap.size ≤ W1.heap.size by omega))
  have hbw1 := hbW.trans (hb1.mono hbW.size)
  obtain ⟨A1, n1, c1, A2, n2, c2, A3, n3, c3, A4, n4, c4⟩ := v
  obtain ⟨x, y⟩ := s
  simp only [LV.val] at *
  obtain ⟨o1, o2, ho⟩ : ∃ o1 o2, out (x, y) = (o1, o2) := ⟨_, _, rfl⟩
  have HO := Lib.hid ho
  have hoo : (y == 1) = true ∧ o1 = x ∧ o2 = 0 ∨ (y == 1) = false ∧ o1 = x ∧ o2 = 1 := by
    unfold out at ho
    by_cases hy : y = 1
    · rw [if_pos hy] at ho; simp only [Prod.mk.injEq] at ho; exact .inl ⟨by simp [hy], ho.1.symm, ho.2.symm⟩
    · rw [if_neg hy] at ho; simp only [Prod.mk.injEq] at ho; exact .inr ⟨by simp [hy], ho.1.symm, ho.2.symm⟩
  have HHH := Lib.hid hW
  have HHH1 := Lib.hid hW1
  clear hc ho hb1 hbW HBX hW hW1
  go_enter Tryz.func30, Tryz.ntmps30
  go_upto_region 1 with fail
  rw [HHH.out]
  obtain ⟨q0, q1⟩ := HSt.out
  go_upto_region 2 with fail
  rw [HHH1.out]
  clear q0 q1
  have hlk := hL.lnk
  obtain ⟨q0, q1⟩ := HSt1.out
  obtain ⟨r0, r1⟩ := HO1.out
  rcases hoo with ⟨hy, e1, e2⟩ | ⟨hy, e1, e2⟩
  case' inl =>
    obtain ⟨w3, hw3⟩ : ∃ w3, W1.setCell ⟨W.heap.size, 1, none⟩ (.int .i64 0) = w3 := ⟨_, rfl⟩
    have hrow : Row2 w3 W.heap.size o1 o2 := by rw [e1, e2, ← hw3]; exact ⟨(set_other (by omega)).trans HO1.out.1, set_same HO1.out.2⟩
    have hbx : w3.cell? ⟨w.heap.size, 3, none⟩ = some (.slice A4 n4 c4) := by rw [← hw3]; exact (World.cell?_setCell_other _ _ _ _ (fun e => by have := congrArg Addr.block e; simp at this; omega)).trans HBX1.out
    have hbw3 : Below w.heap.size w w3 := by rw [← hw3]; exact hbw1.setCell (p := ⟨W.heap.size, 1, none⟩) (by show w.heap.size ≤ W.heap.size; omega) _
    have hoz : W.heap.size < w3.heap.size := by rw [← hw3]; simpa using hz1'
    have HW3 := Lib.hid hw3
    clear hw3
    go_upto_region 4 with fail
    rw [HW3.out]
    clear HW3
  case' inr =>
    obtain ⟨w3, hw3⟩ : ∃ w3, W1 = w3 := ⟨_, rfl⟩
    have hrow : Row2 w3 W.heap.size o1 o2 := by rw [e1, e2, ← hw3]; exact HO1.out
    have hbx : w3.cell? ⟨w.heap.size, 3, none⟩ = some (.slice A4 n4 c4) := by rw [← hw3]; exact HBX1.out
    have hbw3 : Below w.heap.size w w3 := by rw [← hw3]; exact hbw1
    have hoz : W.heap.size < w3.heap.size := by rw [← hw3]; exact hz1'
    have HW3 := Lib.hid hw3
    clear hw3
    go_upto_region 4 with fail
    rw [HW3.out]
    clear HW3
  all_goals (
    clear q0 q1 r0 r1 hy e1 e2
    have hrd : Rd lnkR w3 w3.heap.size A4 n4 l.links := hlk.grow hbw3 hbw3.size
    clear HSt1 HO1 HBX1 HR1 hbw1 hz1' hf1 hzW hlk HSt HHH HHH1
    generalize W.heap.size = oo at *
    have HE3 := Lib.hid hrow
    have HBX3 := Lib.hid hbx
    have HR3 := Lib.hid hrd
    have hwz := hbw3.size
    have hw3w : w.heap.size < w3.heap.size := World.block_lt_of_cell? _ _ hbx
    have HS0 : Hid (hops (l.links.take 0) (x, y) = []) := rfl
    clear hrow hbx hrd
    go_wp2_with fail
    go_loopw [6, 7] (fun h i wr => ∃ (k n c : Nat) (A : Option Addr) (L : List Hop), k ≤ n4 ∧ n ≤ k ∧ i = .int .i64 k ∧ h = .slice A n c ∧ Own hopR wr w3.heap.size (.slice A n c) n L ∧ Hid (L = hops (l.links.take k) (x, y)) ∧ Below w3.heap.size w3 wr) (fun _ i _ => n4 - (intOf i).toNat)
    case atStart => exact ⟨0, 0, 0, none, [], by omega, by omega, rfl, rfl, Own.nil _ _, HS0.out.symm, Below.refl _ _⟩
    case round =>
      obtain ⟨k, n, c, A, L, hk, hnk, rfl, rfl, hO, HL, hbr⟩ := hrel
      clear HS0
      have hzr := hbr.size
      have c3' : wr.cell? ⟨w.heap.size, 3, none⟩ = some (.slice A4 n4 c4) := (hbr.cell (p := ⟨w.heap.size, 3, none⟩) (by simp; omega)).trans HBX3.out
      by_cases hlt : k < n4
      · obtain ⟨ad, kk, rfl, hab, hkk, d0, d1, d2, d3, d4, d5⟩ := loadLnk (HR3.out.below hbr) hlt
        have hkn : (k : Int) < (n4 : Int) := by omega
        have HST := Lib.hid (hops_step (x, y) hkk)
        have hin := HGd.out.range kk (List.mem_of_getElem? hkk)
        obtain ⟨ka, kae, kb, kbe, kpt, kps⟩ := kk
        obtain ⟨wa, hwa⟩ : ∃ wa, wr.alloc (.cells #[.int .i64 ka, .int .i64 kae, .int .i64 kb, .int .i64 kbe, .int .i64 kpt, .int .i64 kps] 106) = wa := ⟨_, rfl⟩
        have hba : Below wr.heap.size wr wa := by rw [← hwa]; exact (Below.refl _ _).alloc (Nat.le_refl _) _
        have hza : wr.heap.size < wa.heap.size := by rw [← hwa]; simp
        have hla : Row6 wa wr.heap.size ⟨ka, kae, kb, kbe, kpt, kps⟩ := by rw [← hwa]; unfold Row6; simp
        obtain ⟨w5, hw5⟩ : ∃ w5, wa.alloc (.cells #[.int .i64 (-1), .int .i64 0] 104) = w5 := ⟨_, rfl⟩
        have hb5 : Below wa.heap.size wa w5 := by rw [← hw5]; exact (Below.refl _ _).alloc (Nat.le_refl _) _
        have hz5 : wa.heap.size < w5.heap.size := by rw [← hw5]; simp
        have ht5 : w5.heap[wa.heap.size]? = some (.cells #[.int .i64 (-1), .int .i64 0] 104 (0, 0)) := by rw [← hw5]; exact heap_alloc_new _ _
        have hb5r := hb5.mono (show wr.heap.size ≤ wa.heap.size by omega)
        have HIn := Lib.hid hin
        have HO5 := Lib.hid (hO.below (hba.trans hb5r) (Nat.le_refl _))
        have HAlt : Hid (∀ g, (Value.slice A n c).ownBlock = some g → g < wr.heap.size) := fun g hg => (hO.2.lt g hg).2
        have HB5 := Lib.hid (hbr.trans ((hba.trans hb5r).mono hzr))
        have HE5 := Lib.hid ((HE3.out.below hbr hoz).below (hba.trans hb5r) (by omega))
        have HL5 := Lib.hid (hla.below hb5 hza)
        have HT5 := Lib.hid ht5
        have hwa' := Lib.hid hwa
        have hw5' := Lib.hid hw5
        obtain ⟨t1, t2, htw⟩ : ∃ t1 t2, Hid (tw (o1, o2) ⟨ka, kae, kb, kbe, kpt, kps⟩ = (t1, t2)) := ⟨_, _, rfl⟩
        clear hkk hin hO hwa hw5 hla ht5 hb5 hba hb5r
        simp only at d0 d1 d2 d3 d4 d5
        go_upto_region 9 with fail
        rw [hwa'.out]
        clear d0 d1 d2 d3 d4 d5 c3'
        go_upto_block 2 with fail
        rw [hw5'.out]
        clear hwa' hw5'
        generalize wr.heap.size = R at *
        generalize wa.heap.size = T at *
        go_cut [31] from 32 to 67 (fun _ wx => Row2 wx T t1 t2 ∧ Row6 wx R ⟨ka, kae, kb, kbe, kpt, kps⟩ ∧ Own hopR wx w3.heap.size (.slice A n c) n L ∧ Below w3.heap.size w3 wx)
        case first =>
          have e := htw.out
          rw [tw_eq] at e
          obtain ⟨q0, q1⟩ := HE5.out
          have HSW := Lib.hid (fun u1 u2 => set_two HT5.out HL5.out (by omega) HO5.out (fun g hg => by have := HAlt.out g hg; omega) HB5.out (by omega) u1 u2)
          have tc0 : w5.cell? ⟨T, 0, none⟩ = some (.int .i64 (-1)) := by simp [World.cell?, HT5.out]
          have tc1 : w5.cell? ⟨T, 1, none⟩ = some (.int .i64 0) := by simp [World.cell?, HT5.out]
          have tf0 : w5.frozen? ⟨T, 0, none⟩ = false := by simp [World.frozen?, HT5.out]
          have tf1 : w5.frozen? ⟨T, 1, none⟩ = false := by simp [World.frozen?, HT5.out]
          have HNO : Hid (Row2 w5 T (-1) 0 ∧ Row6 w5 R ⟨ka, kae, kb, kbe, kpt, kps⟩ ∧ Own hopR w5 w3.heap.size (.slice A n c) n L ∧ Below w3.heap.size w3 w5) := ⟨⟨tc0, tc1⟩, HL5.out, HO5.out, HB5.out⟩
          obtain ⟨k0, k1, k2, k3, k4, k5⟩ := HL5.out
          simp only at k0 k1 k2 k3
          clear k4 k5 HE5 HL5 HO5 HT5 HB5
          cases hA : (ka == o1) <;> cases hA2 : (kae == o2) <;> cases hB : (kb == o1) <;> cases hB2 : (kbe == o2)
          all_goals (
            rw [hA, hA2, hB, hB2] at e
            simp only [Bool.and_true, Bool.and_false, Bool.false_eq_true, if_true, if_false, Prod.mk.injEq] at e
            obtain ⟨e1, e2⟩ := e
            clear htw
            subst e1 e2
            go_wp2_with fail
            go_meet
            first | exact HNO.out | exact HSW.out _ _)
        case rest =>
          obtain ⟨hrow, hlnk, hOc, hbc⟩ := hcut
          obtain ⟨r0, r1⟩ := hrow
          obtain ⟨k0, k1, k2, k3, k4, k5⟩ := hlnk
          simp only at k4 k5
          clear k0 k1 k2 k3
          have hbz := hbc.size
          have hn63 : n + 1 ≤ maxLen := by unfold maxLen; omega
          have hby : (n + 1) * 32 ≤ 140737488355328 := by omega
          by_cases ht : 0 ≤ t1
          · cases hd : (t2 == 1) with
            | true =>
              have hdw : (⟨into (tw (o1, o2) ⟨ka, kae, kb, kbe, kpt, kps⟩), kpt, kps⟩ : Hop) = ⟨(t1, 1), kpt, kps⟩ := by
                rw [htw.out]; unfold into; simp only [Hop.mk.injEq, and_true]
                rw [if_pos (by simpa using hd)]
              have HLX : Hid (L ++ [⟨(t1, 1), kpt, kps⟩] = hops (l.links.take (k + 1)) (x, y)) := by
                rw [Hid, HL.out, ← hdw]; exact more_yes HO.out HST.out (by rw [htw.out]; exact ht)
              clear hdw
              go_wp2_with (at_builtin; refine wpList_append_own _ rfl _ _ 67 rfl w3.heap.size 70 ih _ 4 32 Tryz.underlying67 hih hz0 hz1 hz2 rfl (by omega) (.slice A n c) n (hopR.cs L) rfl (hOc.2.alloc _) ⟨wc.heap.size, 0, none⟩ 1 1 [.int .i64 t1, .int .i64 1, .int .i64 kpt, .int .i64 kps] rfl rfl (World.news_of_block (cs := #[.int .i64 t1, .int .i64 1, .int .i64 kpt, .int .i64 kps]) (t := 70) (fr := (0, 0)) (heap_alloc_new _ _)) (by simp [Value.oneCell']) hn63 hby (by simp; omega) ?_)
              intro v7 w7 hown7 hgrow7 _
              have hO7 := Own.push (R := hopR) (a := ⟨(t1, 1), kpt, kps⟩) hOc.1 hown7
              have hb7 := (hbc.alloc hbc.size (.cells #[.int .i64 t1, .int .i64 1, .int .i64 kpt, .int .i64 kps] 70)).grown hgrow7 (by have := hbc.size; simp; omega) (fun k hk => (hOc.2.lt k hk).1)
              obtain ⟨A', c7, rfl, _⟩ := hO7.form
              clear hown7 hgrow7
              have HO7 := Lib.hid hO7
              have HB7 := Lib.hid hb7
              clear hO7 hb7
              go_wp2_with fail
              go_roundw
              case rel => exact ⟨k + 1, n + 1, c7, A', L ++ [⟨(t1, 1), kpt, kps⟩], by omega, by omega, by go_num, rfl, HO7.out, HLX, HB7.out⟩
              case measure => simp [intOf]; omega
            | false =>
              have hdw : (⟨into (tw (o1, o2) ⟨ka, kae, kb, kbe, kpt, kps⟩), kpt, kps⟩ : Hop) = ⟨(t1, 0), kpt, kps⟩ := by
                rw [htw.out]; unfold into; simp only [Hop.mk.injEq, and_true]
                rw [if_neg (by simpa using hd)]
              have HLX : Hid (L ++ [⟨(t1, 0), kpt, kps⟩] = hops (l.links.take (k + 1)) (x, y)) := by
                rw [Hid, HL.out, ← hdw]; exact more_yes HO.out HST.out (by rw [htw.out]; exact ht)
              clear hdw
              go_wp2_with (at_builtin; refine wpList_append_own _ rfl _ _ 67 rfl w3.heap.size 70 ih _ 4 32 Tryz.underlying67 hih hz0 hz1 hz2 rfl (by omega) (.slice A n c) n (hopR.cs L) rfl (hOc.2.alloc _) ⟨wc.heap.size, 0, none⟩ 1 1 [.int .i64 t1, .int .i64 0, .int .i64 kpt, .int .i64 kps] rfl rfl (World.news_of_block (cs := #[.int .i64 t1, .int .i64 0, .int .i64 kpt, .int .i64 kps]) (t := 70) (fr := (0, 0)) (heap_alloc_new _ _)) (by simp [Value.oneCell']) hn63 hby (by simp; omega) ?_)
              intro v7 w7 hown7 hgrow7 _
              have hO7 := Own.push (R := hopR) (a := ⟨(t1, 0), kpt, kps⟩) hOc.1 hown7
              have hb7 := (hbc.alloc hbc.size (.cells #[.int .i64 t1, .int .i64 0, .int .i64 kpt, .int .i64 kps] 70)).grown hgrow7 (by have := hbc.size; simp; omega) (fun k hk => (hOc.2.lt k hk).1)
              obtain ⟨A', c7, rfl, _⟩ := hO7.form
              clear hown7 hgrow7
              have HO7 := Lib.hid hO7
              have HB7 := Lib.hid hb7
              clear hO7 hb7
              go_wp2_with fail
              go_roundw
              case rel => exact ⟨k + 1, n + 1, c7, A', L ++ [⟨(t1, 0), kpt, kps⟩], by omega, by omega, by go_num, rfl, HO7.out, HLX, HB7.out⟩
              case measure => simp [intOf]; omega
          · have HLX : Hid (L = hops (l.links.take (k + 1)) (x, y)) := by
              rw [Hid, HL.out]; exact more_no HO.out HST.out HIn.out.1 (by rw [htw.out]; exact ht)
            have HOc := Lib.hid hOc
            have HBc := Lib.hid hbc
            clear hOc hbc
            go_wp2_with fail
            go_roundw
            case rel => exact ⟨k + 1, n, c, A, L, by omega, by omega, by go_num, rfl, HOc.out, HLX, HBc.out⟩
            case measure => simp [intOf]; omega
      · have hkn : ¬ (k : Int) < (n4 : Int) := by omega
        have HX : Hid (L = hops l.links (x, y)) := by rw [Hid, HL.out, List.take_of_length_le (by have := HR3.out.1; omega)]
        go_wp2_with fail
        go_ret
        exact ⟨A, n, c, rfl, by rw [← HX.out]; exact hO.base_ (by omega), hbw3.trans (hbr.mono (by omega))⟩)
end Go.Proofs.YtnfelcjpjodjhaaGreat.RHopsF
