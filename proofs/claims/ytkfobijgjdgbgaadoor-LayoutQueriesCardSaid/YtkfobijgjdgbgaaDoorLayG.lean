/-
  Plain mathematics of generated layouts: a row of two or three stations is a valid layout, whatever its sections' numbers. No program in it.
-/
import Derived.Test.YtkfobijgjdgbgaaDoorLayT
namespace Go.Proofs.YtkfobijgjdgbgaaDoor.LayG
open Wd Lay LayT Dec

/-- what of a layout its shape tells: all but the numbers of the sections -/
structure Skel where
  stations : List Bs
  points : List Bs
  secs : List (Bs × Int)
  links : List Lnk
deriving DecidableEq
def numsOK (s : Sec) : Prop := 1 ≤ s.len ∧ s.len ≤ 400 ∧ 1000 ≤ s.lim ∧ s.lim ≤ 100000 ∧ -40 ≤ s.grade ∧ s.grade ≤ 40
structure HasSkel (l : Lay) (k : Skel) : Prop where
  st : l.stations = k.stations
  pt : l.points = k.points
  sec : l.sections.map (fun s => (s.name, s.st)) = k.secs
  lnk : l.links = k.links
  num : ∀ s ∈ l.sections, numsOK s
def good (k : Skel) : Bool :=
  decide (k.stations.length ≤ 24) && decide (k.points.length ≤ 48) && decide (k.secs.length ≤ 96) && decide (k.links.length ≤ 192) && decide (1 ≤ k.secs.length) &&
    decide (namesErr [] k.stations = 0) && decide (namesErr [] k.points = 0) && decide (namesErr [] (k.secs.map (·.1)) = 0) && (k.secs.all fun x => decide (-1 ≤ x.2) && decide (x.2 < k.stations.length)) &&
    decide (linksErr k.secs.length k.points.length [] k.links = 0)

theorem secs_err (q : Nat) : ∀ (l : List Sec) (done : List Bs), namesErr done (l.map Sec.name) = 0 → (∀ s ∈ l, secErr q s = 0) → secsErr q done l = 0
  | [], done, _, _ => rfl
  | s :: r, done, h, hs => by
    unfold secsErr
    simp only [List.map_cons] at h
    unfold namesErr at h
    split at h
    · cases h
    · next h1 =>
      split at h
      · cases h
      · next h2 =>
        rw [if_neg h1, if_neg h2, if_pos (hs s List.mem_cons_self)]
        exact secs_err q r _ h (fun x hx => hs x (List.mem_cons_of_mem _ hx))
theorem check_skel {l : Lay} {k : Skel} (h : HasSkel l k) (hg : good k = true) : check l = 0 := by
  unfold good at hg
  simp only [Bool.and_eq_true, decide_eq_true_eq, List.all_eq_true] at hg
  obtain ⟨⟨⟨⟨⟨⟨⟨⟨⟨g1, g2⟩, g3⟩, g4⟩, g5⟩, g6⟩, g7⟩, g8⟩, g9⟩, g10⟩ := hg
  have hl : l.sections.length = k.secs.length := by rw [← h.sec, List.length_map]
  have hn : l.sections.map Sec.name = k.secs.map (·.1) := by rw [← h.sec, List.map_map]; rfl
  have hs : ∀ s ∈ l.sections, secErr l.stations.length s = 0 := by
    intro s hs
    have hm : (s.name, s.st) ∈ k.secs := by rw [← h.sec]; exact List.mem_map.2 ⟨s, hs, rfl⟩
    have h9 := g9 _ hm
    obtain ⟨n1, n2, n3, n4, n5, n6⟩ := h.num s hs
    unfold secErr
    rw [h.st, if_pos]
    simp only [Bool.and_eq_true, decide_eq_true_eq]
    simp only at h9
    omega
  have e1 := secs_err l.stations.length l.sections [] (by rw [hn]; exact g8) hs
  unfold check
  rw [if_neg (by rw [h.st, h.pt, h.lnk, hl]; omega), if_neg (by omega), h.st, h.pt, g6, g7, ← h.st, e1, h.lnk, hl, g10]
  simp

/-! ### the row -/

def nm (f : Bs) (n : Int) : Bs := f ++ [dig (n % 10).toNat]
/-- a row under construction: the shape, and the numbers of the tracks and of the sections in between -/
structure Bld where
  sk : Skel
  tracks : List (List Int)
  between : List (List Int)
deriving DecidableEq
def addSec (k : Skel) (x : Bs × Int) : Skel := { k with secs := k.secs ++ [x] }
/-- k more sections whose names begin with f; t: their numbers -/
def addLoop (f : Bs) (st : Int) : Nat → Skel → List Int → Skel × List Int
  | 0, s, t => (s, t)
  | k + 1, s, t => addLoop f st k (addSec s (nm f ((k : Int) + 1), st)) (t ++ [(s.secs.length : Int)])
def addStation (b : Bld) (i : Int) (n : Nat) : Bld :=
  let r := addLoop (nm [84] i) i n { b.sk with stations := b.sk.stations ++ [nm [83] i] } []
  { b with sk := r.1, tracks := b.tracks ++ [r.2] }
def stationsOf (i : Int) : List Nat → Bld → Bld
  | [], b => b
  | n :: r, b => stationsOf (i + 1) r (addStation b i n)
def addLink (k : Skel) (a c p q : Int) : Skel := { k with links := k.links ++ [⟨a, 1, c, 0, p, q⟩] }
def fanLoop (x : Int) (east : Bool) (p : Int) (i : Int) : List Int → Skel → Skel
  | [], k => k
  | t :: r, k => fanLoop x east p (i + 1) r (if east then addLink k x t p i else addLink k t x p i)
def fan (x : Int) (tracks : List Int) (east : Bool) (k : Skel) : Skel :=
  if 1 < tracks.length then fanLoop x east k.points.length 0 tracks { k with points := k.points ++ [nm [80] k.points.length] } else fanLoop x east (-1) 0 tracks k
def chain : List Int → Skel → Skel
  | a :: c :: r, k => chain (c :: r) (addLink k a c (-1) 0)
  | _, k => k
def addBetween (b : Bld) (i : Int) (n : Nat) : Bld :=
  let r := addLoop (nm [76] i) (-1) n b.sk []
  let k := chain r.2 r.1
  let k := fan (r.2.headD 0) ((b.tracks[i.toNat]?).getD []) false k
  let k := fan (r.2.getLastD 0) ((b.tracks[i.toNat + 1]?).getD []) true k
  { b with sk := k, between := b.between ++ [r.2] }
def betweensOf (i : Int) : List Nat → Bld → Bld
  | [], b => b
  | n :: r, b => betweensOf (i + 1) r (addBetween b i n)
def start : Bld := ⟨⟨[], [], [], []⟩, [], []⟩
def row (ts ms : List Nat) : Bld := betweensOf 0 ms (stationsOf 0 ts start)

def counts : Nat → List (List Nat)
  | 0 => [[]]
  | n + 1 => (counts n).flatMap fun l => [1 :: l, 2 :: l]
theorem counts_mem : ∀ l : List Nat, (∀ x ∈ l, x = 1 ∨ x = 2) → l ∈ counts l.length
  | [], _ => by simp [counts]
  | x :: l, h => by
    have ih := counts_mem l (fun y hy => h y (List.mem_cons_of_mem _ hy))
    simp only [List.length_cons, counts, List.mem_flatMap]
    refine ⟨l, ih, ?_⟩
    rcases h x List.mem_cons_self with rfl | rfl <;> simp
theorem rows_good2 : ((counts 2).all fun ts => (counts 1).all fun ms => good (row ts ms).sk) = true := by decide +kernel
theorem rows_good3 : ((counts 3).all fun ts => (counts 2).all fun ms => good (row ts ms).sk) = true := by decide +kernel
theorem row_good (ts ms : List Nat) (h : ts.length = 2 ∨ ts.length = 3) (hm : ms.length + 1 = ts.length) (h1 : ∀ x ∈ ts, x = 1 ∨ x = 2) (h2 : ∀ x ∈ ms, x = 1 ∨ x = 2) : good (row ts ms).sk = true := by
  have a := counts_mem ts h1
  have b := counts_mem ms h2
  rcases h with h | h
  · rw [h] at a; rw [show ms.length = 1 by omega] at b
    exact List.all_eq_true.1 (List.all_eq_true.1 rows_good2 ts a) ms b
  · rw [h] at a; rw [show ms.length = 2 by omega] at b
    exact List.all_eq_true.1 (List.all_eq_true.1 rows_good3 ts a) ms b
/-- a row of stations is a valid layout -/
theorem row_valid (ts ms : List Nat) (h : ts.length = 2 ∨ ts.length = 3) (hm : ms.length + 1 = ts.length) (h1 : ∀ x ∈ ts, x = 1 ∨ x = 2) (h2 : ∀ x ∈ ms, x = 1 ∨ x = 2) {l : Lay} (hl : HasSkel l (row ts ms).sk) : check l = 0 := check_skel hl (row_good ts ms h hm h1 h2)

/-! ### lists at their limits -/

theorem names_zero : ∀ (l done : List Bs), (∀ s ∈ l, isName s = true) → (done ++ l).Nodup → namesErr done l = 0
  | [], done, _, _ => rfl
  | s :: r, done, h, hn => by
    unfold namesErr
    have h2 : s ∉ done := by
      rw [List.nodup_append] at hn
      exact fun hm => hn.2.2 s hm s List.mem_cons_self rfl
    rw [if_neg (by rw [h s List.mem_cons_self]; simp), if_neg (by simpa using h2)]
    exact names_zero r (done ++ [s]) (fun x hx => h x (List.mem_cons_of_mem _ hx)) (by simpa using hn)
/-- the i-th name of a long list -/
def numbered (i : Nat) : Bs := 97 :: dec i
def many (n : Nat) : List Bs := (List.range n).map numbered
theorem many_len (n : Nat) : (many n).length = n := by simp [many]
theorem many_snoc (n : Nat) : many (n + 1) = many n ++ [numbered n] := by simp [many, List.range_succ]
theorem numbered_name (i : Nat) (h : i < 1000) : isName (numbered i) = true := by
  have hd : (dec i).all digit = true ∧ (dec i).length ≤ 3 := by
    unfold dec
    split
    · exact ⟨by decide, by simp⟩
    · rw [if_neg (by omega)]
      exact ⟨dz_digits _, dz_len 3 _ (by simpa using h)⟩
  unfold numbered isName
  simp only [Bool.and_eq_true, decide_eq_true_eq]
  refine ⟨⟨by omega, by decide⟩, ?_⟩
  rw [List.all_eq_true]
  intro b hb
  unfold later
  rw [List.all_eq_true.1 hd.1 b hb]
  simp
theorem numbered_inj (i j : Nat) (hi : i < 1000) (hj : j < 1000) (h : numbered i = numbered j) : i = j := by
  unfold numbered at h
  simp only [List.cons.injEq, true_and] at h
  have a := (num_back i (by omega) (by omega)).2
  have b := (num_back j (by omega) (by omega)).2
  rw [h, b] at a
  omega
theorem many_nodup : ∀ (n : Nat), n ≤ 1000 → (many n).Nodup
  | 0, _ => by simp [many]
  | n + 1, h => by
    rw [many_snoc, List.nodup_append]
    refine ⟨many_nodup n (by omega), by simp, fun a ha b hb => ?_⟩
    simp at hb
    subst hb
    unfold many at ha
    obtain ⟨i, hi, rfl⟩ := List.mem_map.1 ha
    rw [List.mem_range] at hi
    exact fun e => by have := numbered_inj i n (by omega) (by omega) e; omega
theorem many_names (n : Nat) (h : n ≤ 1000) : namesErr [] (many n) = 0 := by
  refine names_zero (many n) [] (fun s hs => ?_) (by simpa using many_nodup n h)
  unfold many at hs
  obtain ⟨i, hi, rfl⟩ := List.mem_map.1 hs
  rw [List.mem_range] at hi
  exact numbered_name i (by omega)
def one : Sec := ⟨[88], 400, 100000, -40, -1⟩
def long (kind : Nat) (n : Nat) : Lay := match kind with
  | 0 => ⟨many n, [], [one], []⟩
  | 1 => ⟨[], many n, [one], []⟩
  | _ => ⟨[], [], (many n).map fun s => ⟨s, 1, 1000, 0, -1⟩, []⟩
def most (kind : Nat) : Nat := match kind with
  | 0 => 24
  | 1 => 48
  | _ => 96
theorem flip (n m : Nat) : (if m < n then (7 : Int) else 0) = if n ≤ m then 0 else 7 := by
  by_cases h : n ≤ m
  · rw [if_neg (by omega), if_pos h]
  · rw [if_pos (by omega), if_neg h]
theorem long_check (kind n : Nat) (h1 : 1 ≤ n) (h2 : n ≤ 1000) : check (long kind n) = if n ≤ most kind then 0 else 7 := by
  have hm := many_names n h2
  have ho : ∀ q, secsErr q [] [one] = 0 := fun q => by
    refine secs_err q [one] [] (by decide) (fun s hs => ?_)
    simp at hs; subst hs
    unfold secErr one
    simp; omega
  match kind with
  | 0 => simp [long, check, many_len, most, hm, ho, namesErr, linksErr, flip]
  | 1 => simp [long, check, many_len, most, hm, ho, namesErr, linksErr, flip]
  | k + 2 =>
    have e : ((many n).map fun s => (⟨s, 1, 1000, 0, -1⟩ : Sec)).map Sec.name = many n := by rw [List.map_map]; exact List.map_id _
    have hs : secsErr 0 [] ((many n).map fun s => (⟨s, 1, 1000, 0, -1⟩ : Sec)) = 0 := by
      refine secs_err 0 _ [] (by rw [e]; exact hm) (fun s hs => ?_)
      obtain ⟨x, _, rfl⟩ := List.mem_map.1 hs
      simp [secErr]
    have h0 : ¬ n = 0 := by omega
    simp [long, check, many_len, most, hs, namesErr, linksErr, h0, flip]
end Go.Proofs.YtkfobijgjdgbgaaDoor.LayG
