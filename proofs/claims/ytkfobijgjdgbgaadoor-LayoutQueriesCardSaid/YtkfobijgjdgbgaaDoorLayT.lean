/-
  Plain mathematics of the text of a layout: what its lines declare, and that a layout's text declares it. No program in it.
-/
import Derived.Test.YtkfobijgjdgbgaaDoorLay
import Derived.Test.YtkfobijgjdgbgaaDoorBack
import Derived.Test.YtkfobijgjdgbgaaDoorDec
namespace Go.Proofs.YtkfobijgjdgbgaaDoor.LayT
open Wd Lin Strs Cmt Back Lay Dec

/-! ### the first index of a name -/

/-- the first index of a name in a list, counted from k; -1 for none -/
def place (k : Int) : List Bs → Bs → Int
  | [], _ => -1
  | a :: r, s => if a = s then k else place (k + 1) r s
theorem place_get : ∀ (l : List Bs) (k : Int) (j : Nat) (s : Bs), l.Nodup → l[j]? = some s → place k l s = k + j
  | [], k, j, s, _, h => by simp at h
  | a :: r, k, 0, s, _, h => by
    simp only [List.getElem?_cons_zero, Option.some.injEq] at h
    simp [place, h]
  | a :: r, k, j + 1, s, hn, h => by
    simp only [List.getElem?_cons_succ] at h
    rw [List.nodup_cons] at hn
    have hne : a ≠ s := fun e => hn.1 (e ▸ List.mem_of_getElem? h)
    rw [place, if_neg hne, place_get r (k + 1) j s hn.2 h]
    omega
theorem place_range : ∀ (l : List Bs) (k : Int) (s : Bs), place k l s = -1 ∨ (k ≤ place k l s ∧ place k l s < k + l.length)
  | [], k, s => .inl rfl
  | a :: r, k, s => by
    unfold place
    split
    · exact .inr ⟨Int.le_refl _, by simp only [List.length_cons]; omega⟩
    · rcases place_range r (k + 1) s with h | h
      · exact .inl h
      · exact .inr ⟨by omega, by simp only [List.length_cons]; omega⟩

/-! ### what a line declares -/

def kwStation : Bs := [115, 116, 97, 116, 105, 111, 110]
def kwPoint : Bs := [112, 111, 105, 110, 116]
def kwSection : Bs := [115, 101, 99, 116, 105, 111, 110]
def kwLink : Bs := [108, 105, 110, 107]
def kwAt : Bs := [97, 116]
/-- the end that a word denotes, or -1 -/
def endOf (w : Bs) : Int := if w = [65] then 0 else if w = [66] then 1 else -1
/-- a line of a section: its words behind the keyword, and those behind the three numbers -/
def declSec (l : Lay) (nm len lim gr : Bs) (more : List Bs) : Lay × Int :=
  if !numOK len || !numOK lim || !numOK gr || !(more.head?.all (· == kwAt)) then (l, 2)
  else match more with
    | [_, st] => if place 0 l.stations st < 0 then (l, 3) else ({ l with sections := l.sections ++ [⟨nm, number len, number lim, number gr, place 0 l.stations st⟩] }, 0)
    | _ => ({ l with sections := l.sections ++ [⟨nm, number len, number lim, number gr, -1⟩] }, 0)
def declLink (l : Lay) (a ae b be : Bs) (more : List Bs) : Lay × Int :=
  if decide (endOf ae < 0) || decide (endOf be < 0) || !((more.drop 1).head?.all fun w => w == [48] || w == [49]) then (l, 2)
  else if place 0 (l.sections.map Sec.name) a < 0 ∨ place 0 (l.sections.map Sec.name) b < 0 then (l, 3)
  else match more with
    | [p, q] => if place 0 l.points p < 0 then (l, 3) else ({ l with links := l.links ++ [⟨place 0 (l.sections.map Sec.name) a, endOf ae, place 0 (l.sections.map Sec.name) b, endOf be, place 0 l.points p, if q = [49] then 1 else 0⟩] }, 0)
    | _ => ({ l with links := l.links ++ [⟨place 0 (l.sections.map Sec.name) a, endOf ae, place 0 (l.sections.map Sec.name) b, endOf be, -1, 0⟩] }, 0)
def decl (l : Lay) : List Bs → Lay × Int
  | [k, nm] => if k = kwStation then ({ l with stations := l.stations ++ [nm] }, 0) else if k = kwPoint then ({ l with points := l.points ++ [nm] }, 0) else (l, 2)
  | [k, x1, x2, x3, x4] => if k = kwSection then declSec l x1 x2 x3 x4 [] else if k = kwLink then declLink l x1 x2 x3 x4 [] else (l, 2)
  | [k, x1, x2, x3, x4, x5, x6] => if k = kwSection then declSec l x1 x2 x3 x4 [x5, x6] else if k = kwLink then declLink l x1 x2 x3 x4 [x5, x6] else (l, 2)
  | _ => (l, 2)
def zero : Lay := ⟨[], [], [], []⟩
def texts (w : List W) : List Bs := w.map (·.1)
/-- what Parse answers for the lines that are left, behind what earlier lines declared -/
def fold (l : Lay) : List (List W) → Lay × Int × Int
  | [] => if check l = 0 then (l, 0, 0) else (zero, 0, check l)
  | w :: r => if (decl l (texts w)).2 = 0 then fold (decl l (texts w)).1 r else (zero, (w.head?.map (·.2.1)).getD 0, (decl l (texts w)).2)
def parse (s : Bs) : Lay × Int × Int := if (linesOf s).2.2 = 0 then fold zero (linesOf s).1 else (zero, (linesOf s).2.1, (linesOf s).2.2)

/-! ### the lines of a layout -/

def endBs (e : Int) : Bs := if e = 0 then [65] else [66]
def secLine (l : Lay) (s : Sec) : List Bs := [kwSection, s.name, dec s.len, dec s.lim, dec s.grade] ++ if 0 ≤ s.st then [kwAt, (l.stations[s.st.toNat]?).getD []] else []
def nameOf (l : Lay) (i : Int) : Bs := ((l.sections.map Sec.name)[i.toNat]?).getD []
def linkLine (l : Lay) (k : Lnk) : List Bs := [kwLink, nameOf l k.a, endBs k.ae, nameOf l k.b, endBs k.be] ++ if 0 ≤ k.pt then [(l.points[k.pt.toNat]?).getD [], dec k.ps] else []
def lines (l : Lay) : List (List Bs) := l.stations.map (fun s => [kwStation, s]) ++ (l.points.map (fun s => [kwPoint, s]) ++ (l.sections.map (secLine l) ++ l.links.map (linkLine l)))
def strs (L : List (List Bs)) : List (List ByteArray) := L.map fun w => w.map str
def format (l : Lay) : Bs := if check l = 0 then jt (strs (lines l)) else []

/-! ### what a valid layout keeps -/

theorem names_ok : ∀ (l done : List Bs), done.Nodup → namesErr done l = 0 → (∀ s ∈ l, isName s = true) ∧ (done ++ l).Nodup
  | [], done, hn, _ => ⟨by simp, by simpa using hn⟩
  | s :: r, done, hn, h => by
    unfold namesErr at h
    split at h
    · cases h
    · next h1 =>
      split at h
      · cases h
      · next h2 =>
        have hs : s ∉ done := by simpa using h2
        have hd : (done ++ [s]).Nodup := by
          rw [List.nodup_append]
          exact ⟨hn, by simp, fun a ha b hb => by simp at hb; subst hb; exact fun e => hs (e ▸ ha)⟩
        obtain ⟨i1, i2⟩ := names_ok r (done ++ [s]) hd h
        refine ⟨fun v hv => ?_, by simpa using i2⟩
        rcases List.mem_cons.1 hv with rfl | hv
        · simpa using h1
        · exact i1 v hv
theorem secs_ok (q : Nat) : ∀ (l : List Sec) (done : List Bs), done.Nodup → secsErr q done l = 0 → (∀ s ∈ l, isName s.name = true ∧ secErr q s = 0) ∧ (done ++ l.map Sec.name).Nodup
  | [], done, hn, _ => ⟨by simp, by simpa using hn⟩
  | s :: r, done, hn, h => by
    unfold secsErr at h
    split at h
    · cases h
    · next h1 =>
      split at h
      · cases h
      · next h2 =>
        split at h
        · next h3 =>
          have hs : s.name ∉ done := by simpa using h2
          have hd : (done ++ [s.name]).Nodup := by
            rw [List.nodup_append]
            exact ⟨hn, by simp, fun a ha b hb => by simp at hb; subst hb; exact fun e => hs (e ▸ ha)⟩
          obtain ⟨i1, i2⟩ := secs_ok q r (done ++ [s.name]) hd h
          refine ⟨fun v hv => ?_, by simpa using i2⟩
          rcases List.mem_cons.1 hv with rfl | hv
          · exact ⟨by simpa using h1, h3⟩
          · exact i1 v hv
        · next h3 => exact absurd h h3

/-- a valid layout, as far as its text goes -/
structure Valid (l : Lay) : Prop where
  st : ∀ s ∈ l.stations, isName s = true
  stn : l.stations.Nodup
  pt : ∀ s ∈ l.points, isName s = true
  ptn : l.points.Nodup
  sec : ∀ s ∈ l.sections, isName s.name = true ∧ secErr l.stations.length s = 0
  secn : (l.sections.map Sec.name).Nodup
  lnk : ∀ k ∈ l.links, inr l.sections.length l.points.length k = true
theorem valid_of {l : Lay} (h : check l = 0) : Valid l := by
  have h0 := h
  unfold check at h
  split at h
  · cases h
  · split at h
    · cases h
    · split at h
      · next h1 => exact absurd h h1
      · next h1 =>
        split at h
        · next h2 => exact absurd h h2
        · next h2 =>
          split at h
          · next h3 => exact absurd h h3
          · next h3 =>
            obtain ⟨a1, a2⟩ := names_ok l.stations [] (by simp) (by simpa using h1)
            obtain ⟨b1, b2⟩ := names_ok l.points [] (by simp) (by simpa using h2)
            obtain ⟨c1, c2⟩ := secs_ok _ l.sections [] (by simp) (by simpa using h3)
            exact ⟨a1, by simpa using a2, b1, by simpa using b2, c1, by simpa using c2, fun k hk => ((good_links _ h0).range k hk).1⟩
theorem sec_range {q : Nat} {s : Sec} (h : secErr q s = 0) : 1 ≤ s.len ∧ s.len ≤ 400 ∧ 1000 ≤ s.lim ∧ s.lim ≤ 100000 ∧ -40 ≤ s.grade ∧ s.grade ≤ 40 ∧ -1 ≤ s.st ∧ s.st < q := by
  unfold secErr at h
  split at h
  · next hc => simp only [Bool.and_eq_true, decide_eq_true_eq] at hc; omega
  · cases h
theorem inr_range {n p : Nat} {k : Lnk} (h : inr n p k = true) : 0 ≤ k.a ∧ k.a < n ∧ 0 ≤ k.b ∧ k.b < n ∧ 0 ≤ k.ae ∧ k.ae ≤ 1 ∧ 0 ≤ k.be ∧ k.be ≤ 1 ∧ -1 ≤ k.pt ∧ k.pt < p ∧ 0 ≤ k.ps ∧ k.ps ≤ 1 ∧ (k.pt < 0 → k.ps = 0) := by
  unfold inr at h
  simp only [Bool.and_eq_true, decide_eq_true_eq, Bool.not_eq_true', Bool.and_eq_false_iff, decide_eq_false_iff_not, Bool.not_eq_false'] at h
  omega

/-! ### each line declares its element -/

theorem num_back (n : Int) (h1 : -1099511627776 ≤ n) (h2 : n ≤ 1099511627776) : numOK (dec n) = true ∧ number (dec n) = n := by
  obtain ⟨a, b, _⟩ := dec_num n
  exact ⟨by rw [a]; exact decide_eq_true ⟨h1, h2⟩, b ⟨h1, h2⟩⟩
theorem end_back (e : Int) (h1 : 0 ≤ e) (h2 : e ≤ 1) : endOf (endBs e) = e := by
  have : e = 0 ∨ e = 1 := by omega
  rcases this with rfl | rfl <;> decide
theorem nth_some {l : List Bs} {i : Int} (h0 : 0 ≤ i) (h1 : i < l.length) : l[i.toNat]? = some ((l[i.toNat]?).getD []) := by
  have : i.toNat < l.length := by omega
  simp [this]
theorem place_nth {l : List Bs} (hn : l.Nodup) {i : Int} (h0 : 0 ≤ i) (h1 : i < l.length) : place 0 l ((l[i.toNat]?).getD []) = i := by
  rw [place_get l 0 i.toNat _ hn (nth_some h0 h1)]
  omega

theorem decl_sec (l d : Lay) (s : Sec) (hq : d.stations = l.stations) (hn : l.stations.Nodup) (hs : secErr l.stations.length s = 0) : decl d (secLine l s) = ({ d with sections := d.sections ++ [s] }, 0) := by
  obtain ⟨r1, r2, r3, r4, r5, r6, r7, r8⟩ := sec_range hs
  obtain ⟨a1, a2⟩ := num_back s.len (by omega) (by omega)
  obtain ⟨b1, b2⟩ := num_back s.lim (by omega) (by omega)
  obtain ⟨c1, c2⟩ := num_back s.grade (by omega) (by omega)
  unfold secLine
  by_cases h : 0 ≤ s.st
  · rw [if_pos h]
    have hp := place_nth hn h r8
    simp only [List.cons_append, List.nil_append, decl, if_true, declSec, a1, a2, b1, b2, c1, c2, hq, hp]
    simp only [Bool.not_true, Bool.or_self, List.head?_cons, Option.all_some, beq_self_eq_true, Bool.false_eq_true, if_false]
    rw [if_neg (by omega)]
  · rw [if_neg h]
    have : s.st = -1 := by omega
    simp only [List.append_nil, decl, if_true, declSec, a1, a2, b1, b2, c1, c2]
    simp only [Bool.not_true, Bool.or_self, List.head?_nil, Option.all_none, Bool.false_eq_true, if_false, ← this]

theorem decl_link (l d : Lay) (k : Lnk) (hp : d.points = l.points) (hs : d.sections = l.sections) (hpn : l.points.Nodup) (hsn : (l.sections.map Sec.name).Nodup) (hk : inr l.sections.length l.points.length k = true) :
    decl d (linkLine l k) = ({ d with links := d.links ++ [k] }, 0) := by
  obtain ⟨r1, r2, r3, r4, r5, r6, r7, r8, r9, r10, r11, r12, r13⟩ := inr_range hk
  have ha : place 0 (l.sections.map Sec.name) (nameOf l k.a) = k.a := place_nth hsn r1 (by simpa using r2)
  have hb : place 0 (l.sections.map Sec.name) (nameOf l k.b) = k.b := place_nth hsn r3 (by simpa using r4)
  have hlk : kwLink ≠ kwSection := by decide
  unfold linkLine
  by_cases h : 0 ≤ k.pt
  · rw [if_pos h]
    have hpl := place_nth hpn h r10
    have hq : (dec k.ps == [48] || dec k.ps == [49]) = true ∧ (if dec k.ps = [49] then (1 : Int) else 0) = k.ps := by
      have : k.ps = 0 ∨ k.ps = 1 := by omega
      rcases this with e | e
      · have := dec_small 0 (by omega)
        rw [e]; simp at this; rw [this]; decide
      · have := dec_small 1 (by omega)
        rw [e]; simp at this; rw [this]; decide
    simp only [List.cons_append, List.nil_append, decl, hlk, if_true, if_false, declLink, end_back _ r5 r6, end_back _ r7 r8, hp, hs, ha, hb, hpl, hq.2]
    simp only [List.drop_succ_cons, List.drop_zero, List.head?_cons, Option.all_some, hq.1, Bool.not_true, Bool.or_false]
    have e1 : ¬ k.ae < 0 := by omega
    have e2 : ¬ k.be < 0 := by omega
    have e3 : ¬ (k.a < 0 ∨ k.b < 0) := by omega
    have e4 : ¬ k.pt < 0 := by omega
    simp [e1, e2, e3, e4]
  · rw [if_neg h]
    have e0 : k.pt = -1 := by omega
    have e5 : k.ps = 0 := r13 (by omega)
    have e1 : ¬ k.ae < 0 := by omega
    have e2 : ¬ k.be < 0 := by omega
    have e3 : ¬ (k.a < 0 ∨ k.b < 0) := by omega
    have ek : (⟨k.a, k.ae, k.b, k.be, -1, 0⟩ : Lnk) = k := by rw [← e0]; conv => lhs; rw [← e5]
    simp only [List.append_nil, decl, hlk, if_true, if_false, declLink, end_back _ r5 r6, end_back _ r7 r8, hs, ha, hb]
    simp [e1, e2, e3, ek]

/-! ### the lines of a layout declare it -/

/-- words as they stand in a line -/
def Texts (L : List (List Bs)) (ws : List (List W)) : Prop := ws.map texts = L
theorem fold_step (d d' : Lay) (w : List W) (r : List (List W)) (h : decl d (texts w) = (d', 0)) : fold d (w :: r) = fold d' r := by
  rw [fold, h, if_pos rfl]
theorem fold_cons {d d' : Lay} {x : List Bs} {L : List (List Bs)} {ws : List (List W)} {P : Lay × Int × Int} (hw : Texts (x :: L) ws) (h : decl d x = (d', 0)) (hr : ∀ ws, Texts L ws → fold d' ws = P) : fold d ws = P := by
  unfold Texts at hw
  cases ws with
  | nil => simp at hw
  | cons w r =>
    simp only [List.map_cons, List.cons.injEq] at hw
    rw [fold_step d d' w r (by rw [hw.1]; exact h)]
    exact hr r hw.2
theorem fold_stations : ∀ (st : List Bs) (d : Lay) (L : List (List Bs)) (ws : List (List W)) (P : Lay × Int × Int), Texts (st.map (fun s => [kwStation, s]) ++ L) ws → (∀ ws, Texts L ws → fold { d with stations := d.stations ++ st } ws = P) → fold d ws = P
  | [], d, L, ws, P, hw, hr => by
    have := hr ws (by simpa using hw)
    simpa using this
  | s :: st, d, L, ws, P, hw, hr => by
    refine fold_cons (d' := { d with stations := d.stations ++ [s] }) hw (by simp [decl]) (fun ws' hw' => ?_)
    exact fold_stations st _ L ws' P hw' (fun v hv => by simpa using hr v hv)
theorem fold_points : ∀ (st : List Bs) (d : Lay) (L : List (List Bs)) (ws : List (List W)) (P : Lay × Int × Int), Texts (st.map (fun s => [kwPoint, s]) ++ L) ws → (∀ ws, Texts L ws → fold { d with points := d.points ++ st } ws = P) → fold d ws = P
  | [], d, L, ws, P, hw, hr => by
    have := hr ws (by simpa using hw)
    simpa using this
  | s :: st, d, L, ws, P, hw, hr => by
    refine fold_cons (d' := { d with points := d.points ++ [s] }) hw (by simp [decl, show kwPoint ≠ kwStation by decide]) (fun ws' hw' => ?_)
    exact fold_points st _ L ws' P hw' (fun v hv => by simpa using hr v hv)
theorem fold_secs (l : Lay) (hv : Valid l) : ∀ (ss : List Sec) (d : Lay) (L : List (List Bs)) (ws : List (List W)) (P : Lay × Int × Int), d.stations = l.stations → (∀ s ∈ ss, s ∈ l.sections) → Texts (ss.map (secLine l) ++ L) ws → (∀ ws, Texts L ws → fold { d with sections := d.sections ++ ss } ws = P) → fold d ws = P
  | [], d, L, ws, P, _, _, hw, hr => by
    have := hr ws (by simpa using hw)
    simpa using this
  | s :: ss, d, L, ws, P, hd, hm, hw, hr => by
    refine fold_cons (d' := { d with sections := d.sections ++ [s] }) hw (decl_sec l d s hd hv.stn (hv.sec s (hm s List.mem_cons_self)).2) (fun ws' hw' => ?_)
    exact fold_secs l hv ss _ L ws' P hd (fun x hx => hm x (List.mem_cons_of_mem _ hx)) hw' (fun v hv => by simpa using hr v hv)
theorem fold_links (l : Lay) (hv : Valid l) : ∀ (ks : List Lnk) (d : Lay) (L : List (List Bs)) (ws : List (List W)) (P : Lay × Int × Int), d.points = l.points → d.sections = l.sections → (∀ k ∈ ks, k ∈ l.links) → Texts (ks.map (linkLine l) ++ L) ws → (∀ ws, Texts L ws → fold { d with links := d.links ++ ks } ws = P) → fold d ws = P
  | [], d, L, ws, P, _, _, _, hw, hr => by
    have := hr ws (by simpa using hw)
    simpa using this
  | k :: ks, d, L, ws, P, hp, hs, hm, hw, hr => by
    refine fold_cons (d' := { d with links := d.links ++ [k] }) hw (decl_link l d k hp hs hv.ptn hv.secn (hv.lnk k (hm k List.mem_cons_self))) (fun ws' hw' => ?_)
    exact fold_links l hv ks _ L ws' P hp hs (fun x hx => hm x (List.mem_cons_of_mem _ hx)) hw' (fun v hv => by simpa using hr v hv)
/-- the lines of a valid layout declare it -/
theorem fold_lines (l : Lay) (h : check l = 0) (ws : List (List W)) (hw : Texts (lines l) ws) : fold zero ws = (l, 0, 0) := by
  have hv := valid_of h
  refine fold_stations l.stations zero _ ws _ hw (fun ws hw => ?_)
  refine fold_points l.points _ _ ws _ hw (fun ws hw => ?_)
  refine fold_secs l hv l.sections _ _ ws _ (by simp [zero]) (fun _ h => h) hw (fun ws hw => ?_)
  refine fold_links l hv l.links _ [] ws _ (by simp [zero]) (by simp [zero]) (fun _ h => h) (by simpa using hw) (fun ws hw => ?_)
  have : ws = [] := by simpa [Texts] using hw
  subst this
  simp [fold, zero, h]

/-! ### the words of a layout's lines -/

theorem later_plain (b : UInt8) (h : later b = true) : plain b = true := by
  unfold later letter digit under at h
  unfold plain
  simp only [Bool.or_eq_true, Bool.and_eq_true, decide_eq_true_eq, Bool.not_eq_true', decide_eq_false_iff_not] at *
  omega
theorem name_fine {s : Bs} (h : isName s = true) : Fine s := by
  cases s with
  | nil => cases h
  | cons b r =>
    unfold isName at h
    simp only [Bool.and_eq_true] at h
    refine ⟨by simp, ?_⟩
    rw [List.all_cons, Bool.and_eq_true]
    refine ⟨later_plain b (by unfold later; rw [h.1.2]; rfl), ?_⟩
    rw [List.all_eq_true]
    exact fun x hx => later_plain x (List.all_eq_true.1 h.2 x hx)
theorem digit_plain (b : UInt8) (h : digit b = true) : plain b = true := later_plain b (by unfold later; rw [h]; simp)
theorem dec_fine (n : Int) : Fine (dec n) := by
  have hd : ∀ a : Nat, (dz a).all plain = true := fun a => by
    rw [List.all_eq_true]
    exact fun x hx => digit_plain x (List.all_eq_true.1 (dz_digits a) x hx)
  unfold dec
  split
  · exact ⟨by simp, by decide⟩
  · split
    · exact ⟨by simp, by rw [List.all_cons, hd]; decide⟩
    · exact ⟨dz_ne _ (by omega), hd _⟩
theorem endBs_fine (e : Int) : Fine (endBs e) := by
  unfold endBs
  split <;> exact ⟨by simp, by decide⟩
/-- a word of at most 20 bytes -/
def Short (w : Bs) : Prop := Fine w ∧ w.length ≤ 20
theorem name_short {s : Bs} (h : isName s = true) : Short s := by
  refine ⟨name_fine h, ?_⟩
  cases s with
  | nil => cases h
  | cons b r =>
    unfold isName at h
    simp only [Bool.and_eq_true, decide_eq_true_eq] at h
    simp only [List.length_cons]; omega
theorem dec_short (n : Int) (h1 : -9223372036854775808 ≤ n) (h2 : n ≤ 9223372036854775807) : Short (dec n) := ⟨dec_fine n, dec_len n h1 h2⟩
theorem endBs_short (e : Int) : Short (endBs e) := by
  refine ⟨endBs_fine e, ?_⟩
  unfold endBs
  split <;> simp
theorem lines_fine (l : Lay) (h : check l = 0) : ∀ L ∈ lines l, (∀ w ∈ L, Short w) ∧ 1 ≤ L.length ∧ L.length ≤ 7 := by
  have hv := valid_of h
  intro L hL
  have k1 : Short kwStation := ⟨⟨by decide, by decide⟩, by decide⟩
  have k2 : Short kwPoint := ⟨⟨by decide, by decide⟩, by decide⟩
  have k3 : Short kwSection := ⟨⟨by decide, by decide⟩, by decide⟩
  have k4 : Short kwLink := ⟨⟨by decide, by decide⟩, by decide⟩
  have k5 : Short kwAt := ⟨⟨by decide, by decide⟩, by decide⟩
  unfold lines at hL
  simp only [List.mem_append, List.mem_map] at hL
  rcases hL with ⟨s, hs, rfl⟩ | ⟨s, hs, rfl⟩ | ⟨s, hs, rfl⟩ | ⟨k, hk, rfl⟩
  · refine ⟨fun w hw => ?_, by simp, by simp⟩
    simp at hw
    rcases hw with rfl | rfl
    · exact k1
    · exact name_short (hv.st _ hs)
  · refine ⟨fun w hw => ?_, by simp, by simp⟩
    simp at hw
    rcases hw with rfl | rfl
    · exact k2
    · exact name_short (hv.pt _ hs)
  · obtain ⟨r1, r2, r3, r4, r5, r6, r7, r8⟩ := sec_range (hv.sec s hs).2
    have n1 := name_short (hv.sec s hs).1
    unfold secLine
    by_cases h0 : 0 ≤ s.st
    · rw [if_pos h0]
      have n2 := name_short (hv.st _ (List.mem_of_getElem? (nth_some h0 r8)))
      refine ⟨fun w hw => ?_, by simp, by simp⟩
      simp only [List.cons_append, List.nil_append, List.mem_cons, List.not_mem_nil, or_false] at hw
      rcases hw with rfl | rfl | rfl | rfl | rfl | rfl | rfl
      · exact k3
      · exact n1
      · exact dec_short _ (by omega) (by omega)
      · exact dec_short _ (by omega) (by omega)
      · exact dec_short _ (by omega) (by omega)
      · exact k5
      · exact n2
    · rw [if_neg h0]
      refine ⟨fun w hw => ?_, by simp, by simp⟩
      simp only [List.append_nil, List.mem_cons, List.not_mem_nil, or_false] at hw
      rcases hw with rfl | rfl | rfl | rfl | rfl
      · exact k3
      · exact n1
      · exact dec_short _ (by omega) (by omega)
      · exact dec_short _ (by omega) (by omega)
      · exact dec_short _ (by omega) (by omega)
  · obtain ⟨r1, r2, r3, r4, r5, r6, r7, r8, r9, r10, r11, r12, r13⟩ := inr_range (hv.lnk k hk)
    have nm : ∀ i : Int, 0 ≤ i → i < l.sections.length → Short (nameOf l i) := fun i h0 h1 => by
      have hm := List.mem_of_getElem? (nth_some (l := l.sections.map Sec.name) h0 (by simpa using h1))
      obtain ⟨s, hs, he⟩ := List.mem_map.1 hm
      have := name_short (hv.sec s hs).1
      rw [he] at this
      exact this
    unfold linkLine
    by_cases h0 : 0 ≤ k.pt
    · rw [if_pos h0]
      have n2 := name_short (hv.pt _ (List.mem_of_getElem? (nth_some h0 r10)))
      refine ⟨fun w hw => ?_, by simp, by simp⟩
      simp only [List.cons_append, List.nil_append, List.mem_cons, List.not_mem_nil, or_false] at hw
      rcases hw with rfl | rfl | rfl | rfl | rfl | rfl | rfl
      · exact k4
      · exact nm _ r1 r2
      · exact endBs_short _
      · exact nm _ r3 r4
      · exact endBs_short _
      · exact n2
      · exact dec_short _ (by omega) (by omega)
    · rw [if_neg h0]
      refine ⟨fun w hw => ?_, by simp, by simp⟩
      simp only [List.append_nil, List.mem_cons, List.not_mem_nil, or_false] at hw
      rcases hw with rfl | rfl | rfl | rfl | rfl
      · exact k4
      · exact nm _ r1 r2
      · exact endBs_short _
      · exact nm _ r3 r4
      · exact endBs_short _

theorem texts_sw (q : Int) : ∀ (L : List Bs) (k : Nat), texts (sw q k (L.map str)) = L
  | [], k => rfl
  | s :: r, k => by
    simp only [List.map_cons, sw, texts]
    rw [show (sw q (k + (str s).size + 1) (r.map str)).map (·.1) = r from texts_sw q r _, bs_str]
theorem texts_tl : ∀ (L : List (List Bs)) (q : Int), Texts L (tl q (strs L))
  | [], q => rfl
  | x :: L, q => by
    unfold Texts
    simp only [strs, List.map_cons, tl]
    rw [texts_sw, show (tl (q + 1) (L.map fun w => w.map str)).map texts = L from texts_tl L (q + 1)]
theorem wt_short : ∀ (L : List Bs), (∀ w ∈ L, Short w) → wt (L.map str) ≤ 21 * L.length
  | [], _ => by simp [wt]
  | w :: r, h => by
    have := wt_short r (fun x hx => h x (List.mem_cons_of_mem _ hx))
    have h1 := (h w List.mem_cons_self).2
    simp only [List.map_cons, wt, size_str, List.length_cons]; omega
theorem wtL_short : ∀ (L : List (List Bs)), (∀ x ∈ L, (∀ w ∈ x, Short w) ∧ x.length ≤ 7) → wtL (strs L) ≤ 148 * L.length
  | [], _ => by simp [strs, wtL]
  | x :: L, h => by
    have := wtL_short L (fun y hy => h y (List.mem_cons_of_mem _ hy))
    obtain ⟨h1, h2⟩ := h x List.mem_cons_self
    have h3 := wt_short x h1
    unfold strs at this
    simp only [strs, List.map_cons, wtL, List.length_cons]; omega
theorem limits {l : Lay} (h : check l = 0) : l.stations.length ≤ 24 ∧ l.points.length ≤ 48 ∧ l.sections.length ≤ 96 ∧ l.links.length ≤ 192 := by
  unfold check at h
  split at h
  · cases h
  · omega
/-- no layout's text is too long -/
theorem format_len (l : Lay) : (format l).length ≤ 53280 := by
  unfold format
  split
  · next h =>
    have h1 := jt_len (strs (lines l))
    have h2 := wtL_short (lines l) (fun x hx => ⟨(lines_fine l h x hx).1, (lines_fine l h x hx).2.2⟩)
    have h3 : (lines l).length = l.stations.length + (l.points.length + (l.sections.length + l.links.length)) := by simp [lines]
    have := limits h
    omega
  · simp
/-- the text of a valid layout declares it -/
theorem parse_format (l : Lay) (h : check l = 0) : parse (format l) = (l, 0, 0) := by
  have hf : ∀ L ∈ strs (lines l), AllFine L ∧ 1 ≤ L.length ∧ L.length ≤ 64 := by
    intro L hL
    obtain ⟨M, hM, rfl⟩ := List.mem_map.1 hL
    obtain ⟨h1, h2, h3⟩ := lines_fine l h M hM
    refine ⟨fun s hs => ?_, by simpa using h2, by simp only [List.length_map]; omega⟩
    obtain ⟨w, hw, rfl⟩ := List.mem_map.1 hs
    exact (h1 w hw).1
  have hl : linesOf (format l) = (tl 1 (strs (lines l)), 0, 0) := by
    unfold linesOf
    rw [if_neg (by have := format_len l; omega)]
    unfold format
    rw [if_pos h, go_jt _ [] 1 hf, List.nil_append]
  unfold parse
  rw [hl, if_pos rfl]
  exact fold_lines l h _ (texts_tl _ 1)
end Go.Proofs.YtkfobijgjdgbgaaDoor.LayT
