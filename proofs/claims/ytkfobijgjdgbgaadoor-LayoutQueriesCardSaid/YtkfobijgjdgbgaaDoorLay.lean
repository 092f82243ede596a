/-
  Plain mathematics of track layouts: what makes one valid, its hops, and how they lead back. No program in it.
-/
import Derived.Test.YtkfobijgjdgbgaaDoorText
namespace Go.Proofs.YtkfobijgjdgbgaaDoor.Lay
open Wd

/-- a link: two ends (section, end), a point and a position -/
structure Lnk where
  a : Int
  ae : Int
  b : Int
  be : Int
  pt : Int
  ps : Int
deriving DecidableEq
/-- a section: name, length, limit, grade, station -/
structure Sec where
  name : Bs
  len : Int
  lim : Int
  grade : Int
  st : Int
deriving DecidableEq
structure Lay where
  stations : List Bs
  points : List Bs
  sections : List Sec
  links : List Lnk
deriving DecidableEq

abbrev End := Int × Int
def Lnk.x (k : Lnk) : End := (k.a, k.ae)
def Lnk.y (k : Lnk) : End := (k.b, k.be)
def has (k : Lnk) (e : End) : Bool := decide (k.x = e) || decide (k.y = e)
theorem has_iff (k : Lnk) (e : End) : has k e = true ↔ k.x = e ∨ k.y = e := by simp [has]

/-- may the link k have the end e, in view of the earlier links -/
def free (done : List Lnk) (k : Lnk) (e : End) : Bool := match done.filter (has · e) with
  | [] => true
  | [o] => decide (0 ≤ k.pt) && decide (o.pt = k.pt) && !decide (o.ps = k.ps)
  | _ => false
/-- are the numbers of a link in their ranges (n sections, p points) -/
def inr (n p : Nat) (k : Lnk) : Bool :=
  decide (0 ≤ k.a) && decide (k.a < n) && decide (0 ≤ k.b) && decide (k.b < n) && decide (0 ≤ k.ae) && decide (k.ae ≤ 1) && decide (0 ≤ k.be) && decide (k.be ≤ 1) &&
    decide (-1 ≤ k.pt) && decide (k.pt < p) && decide (0 ≤ k.ps) && decide (k.ps ≤ 1) && !(decide (k.pt < 0) && !decide (k.ps = 0))
/-- the error of a link, in view of the earlier ones -/
def linkErr (n p : Nat) (done : List Lnk) (k : Lnk) : Int :=
  if inr n p k = false then 4 else if k.x = k.y then 1 else if done.any (fun j => has j k.x && has j k.y) then 5 else if free done k k.x && free done k k.y then 0 else 11
def linksErr (n p : Nat) : List Lnk → List Lnk → Int
  | _, [] => 0
  | done, k :: r => if linkErr n p done k = 0 then linksErr n p (done ++ [k]) r else linkErr n p done k

/-- names: each is a name, and none is there twice -/
def namesErr : List Bs → List Bs → Int
  | _, [] => 0
  | done, s :: r => if isName s = false then 3 else if done.contains s then 5 else namesErr (done ++ [s]) r
def secErr (q : Nat) (s : Sec) : Int :=
  if decide (1 ≤ s.len) && decide (s.len ≤ 400) && decide (1000 ≤ s.lim) && decide (s.lim ≤ 100000) && decide (-40 ≤ s.grade) && decide (s.grade ≤ 40) && decide (-1 ≤ s.st) && decide (s.st < q) then 0 else 4
def secsErr (q : Nat) : List Bs → List Sec → Int
  | _, [] => 0
  | done, s :: r => if isName s.name = false then 3 else if done.contains s.name then 5 else if secErr q s = 0 then secsErr q (done ++ [s.name]) r else secErr q s
/-- the first error of a layout, 0 for none -/
def check (l : Lay) : Int :=
  if 24 < l.stations.length ∨ 48 < l.points.length ∨ 96 < l.sections.length ∨ 192 < l.links.length then 7
  else if l.sections.length = 0 then 1
  else if namesErr [] l.stations ≠ 0 then namesErr [] l.stations
  else if namesErr [] l.points ≠ 0 then namesErr [] l.points
  else if secsErr l.stations.length [] l.sections ≠ 0 then secsErr l.stations.length [] l.sections
  else linksErr l.sections.length l.points.length [] l.links

/-! ### steps and hops -/

abbrev Step := Int × Int
def rev (s : Step) : Step := if s.2 = 0 then (s.1, 1) else (s.1, 0)
/-- the end at which a step leaves its section -/
def out (s : Step) : End := if s.2 = 1 then (s.1, 0) else (s.1, 1)
/-- the step that enters a section at an end -/
def into (e : End) : Step := if e.2 = 1 then (e.1, 1) else (e.1, 0)
/-- the other end of a link that has the end e -/
def other (k : Lnk) (e : End) : End := if k.x = e then k.y else k.x
structure Hop where
  to : Step
  pt : Int
  ps : Int
deriving DecidableEq
def hopOf (e : End) (k : Lnk) : Hop := ⟨into (other k e), k.pt, k.ps⟩
def hops (ks : List Lnk) (s : Step) : List Hop := (ks.filter (has · (out s))).map (hopOf (out s))

/-- a valid list of links, as far as the ends go -/
structure Good (n p : Nat) (done : List Lnk) : Prop where
  range : ∀ k ∈ done, inr n p k = true ∧ k.x ≠ k.y
  pair : done.Pairwise fun j k => ¬ (has j k.x = true ∧ has j k.y = true) ∧ ∀ e, has j e = true → has k e = true → 0 ≤ k.pt ∧ j.pt = k.pt ∧ j.ps ≠ k.ps
  two : ∀ e, (done.filter (has · e)).length ≤ 2

theorem free_iff (done : List Lnk) (k : Lnk) (e : End) (h : free done k e = true) : (done.filter (has · e)).length ≤ 1 ∧ ∀ j ∈ done, has j e = true → 0 ≤ k.pt ∧ j.pt = k.pt ∧ j.ps ≠ k.ps := by
  unfold free at h
  match hf : done.filter (has · e), h with
  | [], _ =>
    refine ⟨by simp, fun j hj he => ?_⟩
    have : j ∈ done.filter (has · e) := List.mem_filter.2 ⟨hj, he⟩
    rw [hf] at this
    cases this
  | [o], h =>
    refine ⟨by simp, fun j hj he => ?_⟩
    have : j ∈ done.filter (has · e) := List.mem_filter.2 ⟨hj, he⟩
    rw [hf] at this
    simp at this
    subst this
    simp at h
    exact ⟨h.1.1, h.1.2, h.2⟩
  | _ :: _ :: _, h => simp at h
theorem linkErr_zero {n p : Nat} {done : List Lnk} {k : Lnk} (h : linkErr n p done k = 0) : inr n p k = true ∧ k.x ≠ k.y ∧ (∀ j ∈ done, ¬ (has j k.x = true ∧ has j k.y = true)) ∧ free done k k.x = true ∧ free done k k.y = true := by
  unfold linkErr at h
  split at h
  · omega
  · rename_i h1
    split at h
    · omega
    · rename_i h2
      split at h
      · omega
      · rename_i h3
        split at h
        · rename_i h4
          rw [Bool.and_eq_true] at h4
          refine ⟨by simpa using h1, h2, fun j hj hh => h3 ?_, h4.1, h4.2⟩
          rw [List.any_eq_true]
          exact ⟨j, hj, by rw [hh.1, hh.2]; rfl⟩
        · omega
theorem Good.snoc {n p : Nat} {done : List Lnk} {k : Lnk} (hg : Good n p done) (h : linkErr n p done k = 0) : Good n p (done ++ [k]) := by
  obtain ⟨h1, h2, h3, h4, h5⟩ := linkErr_zero h
  have f4 := free_iff done k _ h4
  have f5 := free_iff done k _ h5
  refine ⟨?_, ?_, ?_⟩
  · intro j hj
    rw [List.mem_append] at hj
    rcases hj with hj | hj
    · exact hg.range j hj
    · simp at hj; subst hj; exact ⟨h1, h2⟩
  · rw [List.pairwise_append]
    refine ⟨hg.pair, by simp, fun j hj x hx => ?_⟩
    simp at hx
    subst hx
    refine ⟨h3 j hj, fun e hje hke => ?_⟩
    rcases (has_iff x e).1 hke with rfl | rfl
    · exact f4.2 j hj hje
    · exact f5.2 j hj hje
  · intro e
    rw [List.filter_append, List.length_append]
    by_cases hke : has k e = true
    · have h6 : (List.filter (has · e) [k]).length = 1 := by simp [hke]
      rcases (has_iff k e).1 hke with rfl | rfl
      · have := f4.1; omega
      · have := f5.1; omega
    · have h6 : (List.filter (has · e) [k]).length = 0 := by simp [hke]
      have := hg.two e
      omega
theorem good_of {n p : Nat} : ∀ (r done : List Lnk), Good n p done → linksErr n p done r = 0 → Good n p (done ++ r)
  | [], done, hg, _ => by simpa using hg
  | k :: r, done, hg, h => by
    unfold linksErr at h
    split at h
    · rename_i h0
      have := good_of r (done ++ [k]) (hg.snoc h0) h
      simpa using this
    · rename_i h0; exact absurd h h0
theorem good_links (l : Lay) (h : check l = 0) : Good l.sections.length l.points.length l.links := by
  unfold check at h
  repeat' split at h
  all_goals first
    | omega
    | (have := good_of l.links [] ⟨nofun, List.Pairwise.nil, by simp⟩ h; simpa using this)
    | (exfalso; simp_all; done)

/-! ### how hops lead back -/

/-- an end that a valid link may have -/
def EndOK (e : End) : Prop := e.2 = 0 ∨ e.2 = 1
theorem out_rev_into (f : End) (h : EndOK f) : out (rev (into f)) = f := by
  obtain ⟨a, b⟩ := f
  rcases h with h | h <;> simp at h <;> subst h <;> rfl
theorem into_out (s : Step) (h : s.2 = 0 ∨ s.2 = 1) : into (out s) = rev s := by
  obtain ⟨a, b⟩ := s
  rcases h with h | h <;> simp at h <;> subst h <;> rfl
theorem into_inj (e f : End) (he : EndOK e) (hf : EndOK f) (h : into e = into f) : e = f := by
  obtain ⟨a, b⟩ := e
  obtain ⟨c, d⟩ := f
  rcases he with he | he <;> rcases hf with hf | hf <;> simp at he hf <;> subst he hf <;> simp [into] at h <;> simp [h]
theorem out_ok (s : Step) : EndOK (out s) := by
  unfold out EndOK
  split <;> simp
theorem inr_ends {n p : Nat} {k : Lnk} (h : inr n p k = true) : EndOK k.x ∧ EndOK k.y := by
  simp only [inr, Bool.and_eq_true, decide_eq_true_eq] at h
  unfold EndOK Lnk.x Lnk.y
  constructor <;> (simp only; omega)
theorem other_ok {n p : Nat} {k : Lnk} (h : inr n p k = true) (e : End) : EndOK (other k e) := by
  obtain ⟨h1, h2⟩ := inr_ends h
  unfold other
  split
  · exact h2
  · exact h1
/-- a link with two different ends of which e is one: the other one -/
theorem other_spec (k : Lnk) (e : End) (hne : k.x ≠ k.y) (he : has k e = true) : has k (other k e) = true ∧ other k e ≠ e ∧ other k (other k e) = e ∧ ∀ f, has k f = true → f = e ∨ f = other k e := by
  rcases (has_iff k e).1 he with rfl | rfl
  · have h1 : other k k.x = k.y := by simp [other]
    rw [h1]
    refine ⟨by simp [has], fun h => hne h.symm, by simp [other, hne], fun f hf => ?_⟩
    rcases (has_iff k f).1 hf with h | h
    · exact .inl h.symm
    · exact .inr h.symm
  · have h1 : other k k.y = k.x := by simp [other, hne]
    rw [h1]
    refine ⟨by simp [has], hne, by simp [other], fun f hf => ?_⟩
    rcases (has_iff k f).1 hf with h | h
    · exact .inr h.symm
    · exact .inl h.symm
/-- two links with the same two ends -/
theorem both_ends {j k : Lnk} {e f : End} (hef : e ≠ f) (h1 : has j e = true) (h2 : has j f = true) (h3 : has k e = true) (h4 : has k f = true) : has j k.x = true ∧ has j k.y = true := by
  rcases (has_iff k e).1 h3 with rfl | rfl <;> rcases (has_iff k f).1 h4 with rfl | rfl
  · exact absurd rfl hef
  · exact ⟨h1, h2⟩
  · exact ⟨h2, h1⟩
  · exact absurd rfl hef

theorem one_of_pairwise {α : Type} (q : α → Bool) : ∀ l : List α, (l.Pairwise fun j k => ¬ (q j = true ∧ q k = true)) → (l.filter q).length ≤ 1
  | [], _ => by simp
  | a :: l, h => by
    rw [List.pairwise_cons] at h
    have ih := one_of_pairwise q l h.2
    by_cases ha : q a = true
    · have : l.filter q = [] := by
        rw [List.filter_eq_nil_iff]
        exact fun b hb hqb => h.1 b hb ⟨ha, hqb⟩
      simp [ha, this]
    · simp [ha, ih]

theorem hops_two {n p : Nat} {ks : List Lnk} (hg : Good n p ks) (s : Step) : (hops ks s).length ≤ 2 := by
  unfold hops
  rw [List.length_map]
  exact hg.two _

/-- from a hop's step one hop leads back, through the same point in the same position -/
theorem hops_back {n p : Nat} {ks : List Lnk} (hg : Good n p ks) (s : Step) (hs : s.2 = 0 ∨ s.2 = 1) (h : Hop) (hh : h ∈ hops ks s) : ((hops ks (rev h.to)).filter fun b => decide (b = ⟨rev s, h.pt, h.ps⟩)).length = 1 := by
  unfold hops at hh
  rw [List.mem_map] at hh
  obtain ⟨k, hk, rfl⟩ := hh
  rw [List.mem_filter] at hk
  obtain ⟨hk1, hk2⟩ := hk
  obtain ⟨hr, hne⟩ := hg.range k hk1
  obtain ⟨o1, o2, o3, o4⟩ := other_spec k (out s) hne hk2
  have hok := other_ok hr (out s)
  have ht : out (rev (hopOf (out s) k).to) = other k (out s) := out_rev_into _ hok
  have hback : hopOf (other k (out s)) k = ⟨rev s, k.pt, k.ps⟩ := by
    unfold hopOf
    rw [o3, into_out s hs]
  unfold hops
  rw [ht, List.filter_map, List.length_map, List.filter_filter]
  have hmem : k ∈ ks.filter (fun a => ((fun b => decide (b = (⟨rev s, k.pt, k.ps⟩ : Hop))) ∘ hopOf (other k (out s))) a && has a (other k (out s))) := by
    rw [List.mem_filter]
    refine ⟨hk1, ?_⟩
    simp only [Function.comp, hback, decide_true, o1, Bool.and_self]
  have hle := one_of_pairwise (fun a => ((fun b => decide (b = (⟨rev s, k.pt, k.ps⟩ : Hop))) ∘ hopOf (other k (out s))) a && has a (other k (out s))) ks (List.Pairwise.imp_of_mem (fun {i j} hi hj hp => ?_) hg.pair)
  · have : 0 < (ks.filter (fun a => ((fun b => decide (b = (⟨rev s, k.pt, k.ps⟩ : Hop))) ∘ hopOf (other k (out s))) a && has a (other k (out s)))).length := List.length_pos_of_mem hmem
    exact Nat.le_antisymm hle this
  · rintro ⟨q1, q2⟩
    simp only [Function.comp, Bool.and_eq_true, decide_eq_true_eq] at q1 q2
    have back : ∀ m ∈ ks, hopOf (other k (out s)) m = ⟨rev s, k.pt, k.ps⟩ → has m (other k (out s)) = true → has m (out s) = true := by
      intro m hm hq hmf
      obtain ⟨hr', hne'⟩ := hg.range m hm
      obtain ⟨p1, p2, p3, p4⟩ := other_spec m _ hne' hmf
      have hto : into (other m (other k (out s))) = rev s := congrArg Hop.to hq
      rw [← into_out s hs] at hto
      have := into_inj _ _ (other_ok hr' _) (out_ok s) hto
      rw [this] at p1
      exact p1
    exact hp.1 (both_ends (fun e => o2 e.symm) (back i hi q1.1 q1.2) q1.2 (back j hj q2.1 q2.2) q2.2)

/-- two hops of a step lead to different steps, through one point in different positions -/
theorem hops_differ {n p : Nat} {ks : List Lnk} (hg : Good n p ks) (s : Step) (h0 h1 : Hop) (r : List Hop) (h : hops ks s = h0 :: h1 :: r) : h0.to ≠ h1.to ∧ h0.pt = h1.pt ∧ 0 ≤ h0.pt ∧ h0.ps ≠ h1.ps := by
  unfold hops at h
  match hf : ks.filter (has · (out s)), h with
  | k0 :: k1 :: t, h =>
    simp only [List.map_cons, List.cons.injEq] at h
    obtain ⟨rfl, rfl, _⟩ := h
    have hsub : List.Sublist [k0, k1] ks := by
      have h1 : List.Sublist (k0 :: k1 :: t) ks := hf ▸ List.filter_sublist
      exact List.Sublist.trans (by simp) h1
    have hp : _ := (hg.pair.sublist hsub)
    rw [List.pairwise_cons] at hp
    have hp := hp.1 k1 (by simp)
    have m0 : k0 ∈ ks.filter (has · (out s)) := by rw [hf]; simp
    have m1 : k1 ∈ ks.filter (has · (out s)) := by rw [hf]; simp
    rw [List.mem_filter] at m0 m1
    obtain ⟨c1, c2, c3⟩ := hp.2 _ m0.2 m1.2
    refine ⟨fun e => ?_, c2, by show 0 ≤ k0.pt; omega, c3⟩
    obtain ⟨r0, n0⟩ := hg.range k0 m0.1
    obtain ⟨r1, n1⟩ := hg.range k1 m1.1
    obtain ⟨o1, o2, _, _⟩ := other_spec k0 _ n0 m0.2
    obtain ⟨p1, p2, _, _⟩ := other_spec k1 _ n1 m1.2
    have he := into_inj _ _ (other_ok r0 _) (other_ok r1 _) e
    rw [he] at o1
    exact hp.1 (both_ends (fun e => p2 e.symm) m0.2 o1 m1.2 p1)

end Go.Proofs.YtkfobijgjdgbgaaDoor.Lay
