/-
  Plain mathematics of the binary encoding of a layout: what is written, what is read, and how the two fit. No program in it.
-/
import Derived.Test.YtepbdcnjhbaehaaLayT
import Derived.Test.YtepbdcnjhbaehaaCrcA
namespace Go.Proofs.Ytepbdcnjhbaehaa.Bin
open Wd Lay LayT Crc

/-! ### numbers of several bytes, the least significant one first -/

def le : Nat → Nat → Bs
  | 0, _ => []
  | n + 1, v => UInt8.ofNat v :: le n (v / 256)
def val : Bs → Nat
  | [] => 0
  | b :: r => b.toNat + 256 * val r
theorem le_length : ∀ n v, (le n v).length = n
  | 0, _ => rfl
  | n + 1, v => by simp [le, le_length n]
theorem byte_toNat (v : Nat) : (UInt8.ofNat v).toNat = v % 256 := by rw [UInt8.toNat_ofNat']
theorem val_le : ∀ n v, v < 256 ^ n → val (le n v) = v
  | 0, v, h => by simp at h; simp [le, val, h]
  | n + 1, v, h => by
    have h2 : v / 256 < 256 ^ n := by rw [Nat.div_lt_iff_lt_mul (by decide)]; rw [Nat.pow_succ] at h; exact h
    rw [le, val, byte_toNat, val_le n _ h2]
    omega
theorem le_val : ∀ s : Bs, le s.length (val s) = s
  | [] => rfl
  | b :: r => by
    have hb := b.toNat_lt
    rw [List.length_cons, le, val, show (b.toNat + 256 * val r) / 256 = val r by omega, le_val r]
    congr 1
    apply UInt8.toNat_inj.1
    rw [byte_toNat]
    omega
theorem val_lt : ∀ s : Bs, val s < 256 ^ s.length
  | [] => by simp [val]
  | b :: r => by
    have hb := b.toNat_lt
    have := val_lt r
    rw [val, List.length_cons, Nat.pow_succ]
    omega
theorem val_inj {s t : Bs} (hl : s.length = t.length) (h : val s = val t) : s = t := by
  rw [← le_val s, ← le_val t, hl, h]

/-! ### what is written -/

def nm (s : Bs) : Bs := le 1 s.length ++ s
def encSec (s : Sec) : Bs := nm s.name ++ (le 2 s.len.toNat ++ (le 3 s.lim.toNat ++ (le 1 (s.grade + 40).toNat ++ le 1 (s.st + 1).toNat)))
def encLnk (k : Lnk) : Bs := le 1 (k.a * 2 + k.ae).toNat ++ (le 1 (k.b * 2 + k.be).toNat ++ (le 1 (k.pt + 1).toNat ++ le 1 k.ps.toNat))
def sig : Bs := [82, 80, 76, 49]
def counts (l : Lay) : Bs := le 1 l.stations.length ++ (le 1 l.points.length ++ (le 1 l.sections.length ++ le 1 l.links.length))
def body (l : Lay) : Bs := sig ++ (counts l ++ (l.stations.flatMap nm ++ (l.points.flatMap nm ++ (l.sections.flatMap encSec ++ l.links.flatMap encLnk))))
def enc (l : Lay) : Bs := body l ++ le 4 (crc (body l))

/-! ### what is read -/

/-- a position, and whether an item was not complete there -/
abbrev Cur := Nat × Bool
def Rdr (α : Type) := Bs → Cur → α × Cur
def bnd {α β : Type} (A : Rdr α) (f : α → Rdr β) : Rdr β := fun s c => f (A s c).1 s (A s c).2
def ret {α : Type} (a : α) : Rdr α := fun _ c => (a, c)
def item (n : Nat) : Rdr Bs := fun s c => if c.2 = true ∨ s.length - c.1 < n then ([], c.1, true) else ((s.drop c.1).take n, c.1 + n, false)
def rdNum (n : Nat) : Rdr Nat := fun s c => (val (item n s c).1, (item n s c).2)
def size (s : Bs) (p : Nat) : Nat := 1 + ((s[p]?).getD 0).toNat
def rdName : Rdr Bs := fun s c => ((item (size s c.1) s c).1.drop 1, (item (size s c.1) s c).2)
def many {α : Type} (A : Rdr α) : Nat → Rdr (List α)
  | 0 => ret []
  | n + 1 => bnd (many A n) fun l => bnd A fun a => ret (l ++ [a])
def rdSec : Rdr Sec := bnd rdName fun a => bnd (rdNum 2) fun b => bnd (rdNum 3) fun c => bnd (rdNum 1) fun d => bnd (rdNum 1) fun e => ret ⟨a, b, c, (d : Int) - 40, (e : Int) - 1⟩
def rdLnk : Rdr Lnk := bnd (rdNum 1) fun a => bnd (rdNum 1) fun b => bnd (rdNum 1) fun c => bnd (rdNum 1) fun d => ret ⟨(a : Int) / 2, (a : Int) % 2, (b : Int) / 2, (b : Int) % 2, (c : Int) - 1, d⟩
def rdLay : Rdr Lay := bnd (rdNum 1) fun a => bnd (rdNum 1) fun b => bnd (rdNum 1) fun c => bnd (rdNum 1) fun d =>
  bnd (many rdName a) fun S => bnd (many rdName b) fun P => bnd (many rdSec c) fun X => bnd (many rdLnk d) fun K => ret ⟨S, P, X, K⟩
/-- the layout and what is behind it: the sum -/
def whole (s : Bs) : (Lay × Cur) × (Nat × Cur) := (rdLay s (item 4 s (0, false)).2, rdNum 4 s (rdLay s (item 4 s (0, false)).2).2)
def decode (s : Bs) : Lay × Nat × Int :=
  if 4 ≤ s.length ∧ s.take 4 ≠ sig then (zero, 0, 2)
  else if (whole s).2.2.2 = true then (zero, (whole s).2.2.1, 10)
  else if (whole s).2.1 ≠ crc (s.take (whole s).1.2.1) then (zero, (whole s).1.2.1, 9)
  else if (whole s).2.2.1 ≠ s.length then (zero, (whole s).2.2.1, 2)
  else if check (whole s).1.1 ≠ 0 then (zero, 0, check (whole s).1.1)
  else ((whole s).1.1, 0, 0)

/-! ### how readers go together -/

structure Fine {α : Type} (A : Rdr α) : Prop where
  stuck : ∀ s p, (A s (p, true)).2 = (p, true)
  mono : ∀ s p, p ≤ s.length → p ≤ (A s (p, false)).2.1 ∧ (A s (p, false)).2.1 ≤ s.length
  pre : ∀ s k p, p ≤ k → k ≤ s.length → (A s (p, false)).2.2 = false →
    ((A s (p, false)).2.1 ≤ k → A (s.take k) (p, false) = A s (p, false)) ∧ (k < (A s (p, false)).2.1 → (A (s.take k) (p, false)).2.2 = true)
theorem fine_ret {α : Type} (a : α) : Fine (ret a) :=
  ⟨fun _ _ => rfl, fun _ _ h => ⟨Nat.le_refl _, h⟩, fun s k p h _ _ => ⟨fun _ => rfl, fun h2 => by simp only [ret] at h2; omega⟩⟩
theorem fine_bnd {α β : Type} {A : Rdr α} {f : α → Rdr β} (hA : Fine A) (hf : ∀ a, Fine (f a)) : Fine (bnd A f) := by
  refine ⟨fun s p => ?_, fun s p h => ?_, fun s k p h1 h2 h3 => ?_⟩
  · unfold bnd; rw [hA.stuck]; exact (hf _).stuck s p
  · obtain ⟨m1, m2⟩ := hA.mono s p h
    unfold bnd
    rcases hc : (A s (p, false)).2 with ⟨q, st⟩
    rw [hc] at m1 m2
    cases st with
    | true => rw [(hf _).stuck]; exact ⟨m1, m2⟩
    | false =>
      obtain ⟨n1, n2⟩ := (hf (A s (p, false)).1).mono s q m2
      exact ⟨Nat.le_trans m1 n1, n2⟩
  · unfold bnd at h3 ⊢
    obtain ⟨m1, m2⟩ := hA.mono s p (by omega)
    rcases hc : A s (p, false) with ⟨a, q, st⟩
    rw [hc] at h3 m1 m2
    simp only at h3 m1 m2 ⊢
    cases st with
    | true => rw [(hf a).stuck] at h3; cases h3
    | false =>
      obtain ⟨p1, p2⟩ := hA.pre s k p h1 h2 (by rw [hc])
      rw [hc] at p1 p2
      simp only at p1 p2
      obtain ⟨n1, n2⟩ := (hf a).mono s q m2
      by_cases hq : q ≤ k
      · rw [p1 hq]
        exact (hf a).pre s k q hq h2 h3
      · have hst := p2 (by omega)
        refine ⟨fun h => absurd h (by omega), fun _ => ?_⟩
        rcases hd : A (s.take k) (p, false) with ⟨b, q', st'⟩
        rw [hd] at hst
        simp only at hst
        subst hst
        rw [(hf b).stuck]
theorem fine_item (n : Nat) : Fine (item n) := by
  refine ⟨fun s p => by simp [item], fun s p h => ?_, fun s k p h1 h2 h3 => ?_⟩
  · unfold item
    split
    · exact ⟨Nat.le_refl _, h⟩
    · rename_i hc
      simp only [Bool.false_eq_true, false_or] at hc
      exact ⟨Nat.le_add_right _ _, by simp only; omega⟩
  · unfold item at h3 ⊢
    split at h3
    · cases h3
    · rename_i hc
      simp only [Bool.false_eq_true, false_or] at hc
      have hl : (s.take k).length = k := by simp; omega
      rw [if_neg (by simpa using hc), hl]
      simp only
      refine ⟨fun hq => ?_, fun hq => ?_⟩
      · rw [if_neg (by simp; omega)]
        congr 1
        rw [List.drop_take, List.take_take, Nat.min_eq_left (by omega)]
      · rw [if_pos (.inr (by omega))]
theorem fine_num (n : Nat) : Fine (rdNum n) := by
  have h := fine_item n
  refine ⟨h.stuck, h.mono, fun s k p h1 h2 h3 => ?_⟩
  obtain ⟨p1, p2⟩ := h.pre s k p h1 h2 h3
  exact ⟨fun hq => by unfold rdNum; rw [p1 hq], p2⟩
theorem size_take {s : Bs} {k p : Nat} (h : p < k) : size (s.take k) p = size s p := by
  unfold size; rw [List.getElem?_take_of_lt h]
theorem size_pos (s : Bs) (p : Nat) : 1 ≤ size s p := Nat.le_add_right _ _
theorem fine_name : Fine rdName := by
  refine ⟨fun s p => (fine_item (size s p)).stuck s p, fun s p h => (fine_item (size s p)).mono s p h, fun s k p h1 h2 h3 => ?_⟩
  have h3' : (item (size s p) s (p, false)).2.2 = false := h3
  by_cases hp : p < k
  · obtain ⟨p1, p2⟩ := (fine_item (size s p)).pre s k p h1 h2 h3'
    unfold rdName
    simp only [size_take hp]
    exact ⟨fun hq => by rw [p1 hq], p2⟩
  · have : p = k := by omega
    subst this
    have hz := size_pos s p
    have hz2 := size_pos (s.take p) p
    have hq : (rdName s (p, false)).2.1 = p + size s p := by
      unfold rdName item at *
      split at h3'
      · cases h3'
      · rename_i hc; rw [if_neg hc]
    refine ⟨fun h => absurd h (by omega), fun _ => ?_⟩
    unfold rdName item
    rw [if_pos (.inr (by simp; omega))]
theorem fine_many {α : Type} {A : Rdr α} (hA : Fine A) : ∀ n, Fine (many A n)
  | 0 => fine_ret _
  | n + 1 => fine_bnd (fine_many hA n) fun _ => fine_bnd hA fun _ => fine_ret _
theorem fine_sec : Fine rdSec := fine_bnd fine_name fun _ => fine_bnd (fine_num _) fun _ => fine_bnd (fine_num _) fun _ => fine_bnd (fine_num _) fun _ => fine_bnd (fine_num _) fun _ => fine_ret _
theorem fine_lnk : Fine rdLnk := fine_bnd (fine_num _) fun _ => fine_bnd (fine_num _) fun _ => fine_bnd (fine_num _) fun _ => fine_bnd (fine_num _) fun _ => fine_ret _
theorem fine_lay : Fine rdLay := fine_bnd (fine_num _) fun _ => fine_bnd (fine_num _) fun _ => fine_bnd (fine_num _) fun _ => fine_bnd (fine_num _) fun _ =>
  fine_bnd (fine_many fine_name _) fun _ => fine_bnd (fine_many fine_name _) fun _ => fine_bnd (fine_many fine_sec _) fun _ => fine_bnd (fine_many fine_lnk _) fun _ => fine_ret _
theorem head_pos (s : Bs) : (item 4 s (0, false)).2 = if 4 ≤ s.length then (4, false) else (0, true) := by
  unfold item
  by_cases h : 4 ≤ s.length
  · rw [if_pos h, if_neg (by simp; omega)]
  · rw [if_neg h, if_pos (.inr (by simp; omega))]
/-- the positions stay inside the text -/
theorem whole_le (s : Bs) : (whole s).1.2.1 ≤ s.length ∧ (whole s).2.2.1 ≤ s.length := by
  unfold whole
  simp only
  rw [head_pos]
  split
  · rename_i h
    obtain ⟨m1, m2⟩ := fine_lay.mono s 4 h
    rcases hc : (rdLay s (4, false)).2 with ⟨q, st⟩
    rw [hc] at m1 m2
    cases st with
    | true => rw [(fine_num 4).stuck]; exact ⟨m2, m2⟩
    | false => exact ⟨m2, ((fine_num 4).mono s q m2).2⟩
  · rw [fine_lay.stuck, (fine_num 4).stuck]
    exact ⟨Nat.zero_le _, Nat.zero_le _⟩
/-- where nothing is missing the sum is the four bytes behind the layout -/
theorem whole_sum {s : Bs} (h : (whole s).2.2.2 = false) : 4 ≤ s.length ∧ (whole s).2.2.1 = (whole s).1.2.1 + 4 ∧ (whole s).2.1 = val ((s.drop (whole s).1.2.1).take 4) ∧ (whole s).1.2.1 + 4 ≤ s.length := by
  have hle := (whole_le s).1
  unfold whole at h hle ⊢
  simp only at h hle ⊢
  rcases hc : (rdLay s (item 4 s (0, false)).2).2 with ⟨q, st⟩
  rw [hc] at h hle
  simp only at hle
  cases st with
  | true => rw [(fine_num 4).stuck] at h; cases h
  | false =>
    unfold rdNum item at h ⊢
    split at h
    · cases h
    · rename_i hn
      rw [if_neg hn]
      simp only [Bool.false_eq_true, false_or] at hn
      refine ⟨?_, rfl, rfl, by simp only; omega⟩
      rw [head_pos] at hc
      split at hc
      · assumption
      · rw [fine_lay.stuck] at hc; cases hc

/-! ### reading back what was written -/

def Reads {α : Type} (A : Rdr α) (x : Bs) (v : α) : Prop := ∀ s p r, s.drop p = x ++ r → A s (p, false) = (v, (p + x.length, false))
theorem reads_ret {α : Type} (a : α) : Reads (ret a) [] a := fun _ _ _ _ => rfl
theorem reads_bnd {α β : Type} {A : Rdr α} {f : α → Rdr β} {x y : Bs} {v : α} {u : β} (hA : Reads A x v) (hf : Reads (f v) y u) : Reads (bnd A f) (x ++ y) u := by
  intro s p r h
  have h1 := hA s p (y ++ r) (by rw [h, List.append_assoc])
  have h2 : s.drop (p + x.length) = y ++ r := by
    rw [← List.drop_drop, h, List.append_assoc, List.drop_left]
  unfold bnd
  rw [h1]
  have := hf s (p + x.length) r h2
  simp only
  rw [this, List.length_append, Nat.add_assoc]
theorem reads_last {α β : Type} {A : Rdr α} {f : α → Rdr β} {x : Bs} {v : α} {u : β} (hA : Reads A x v) (hf : Reads (f v) [] u) : Reads (bnd A f) x u := by
  have := reads_bnd hA hf
  rwa [List.append_nil] at this
theorem reads_item (x : Bs) : Reads (item x.length) x x := by
  intro s p r h
  have hl := congrArg List.length h
  rw [List.length_drop, List.length_append] at hl
  unfold item
  by_cases hx : x = []
  · subst hx
    simp
  · have : 0 < x.length := List.length_pos_iff.2 hx
    rw [if_neg (by simp only [Bool.false_eq_true, false_or]; omega), h]
    simp
theorem reads_num {n v : Nat} (h : v < 256 ^ n) : Reads (rdNum n) (le n v) v := by
  intro s p r hs
  have := reads_item (le n v) s p r hs
  rw [le_length] at this
  unfold rdNum
  rw [this, le_length]
  simp only
  rw [val_le n v h]
theorem reads_name {x : Bs} (h : x.length < 256) : Reads rdName (nm x) x := by
  intro s p r hs
  have hz : size s p = (nm x).length := by
    have h0 : (s.drop p)[0]? = some (UInt8.ofNat x.length) := by rw [hs]; rfl
    rw [List.getElem?_drop, Nat.add_zero] at h0
    unfold size
    rw [h0]
    simp only [Option.getD_some, byte_toNat, nm, List.length_append, le_length]
    omega
  have := reads_item (nm x) s p r hs
  unfold rdName
  simp only [hz]
  rw [this]
  rfl
theorem reads_many {α : Type} {A : Rdr α} {e : α → Bs} : ∀ (n : Nat) (L : List α), L.length = n → (∀ a ∈ L, Reads A (e a) a) → Reads (many A n) (L.flatMap e) L
  | 0, L, hl, _ => by
    have : L = [] := List.length_eq_zero_iff.1 hl
    subst this
    exact reads_ret _
  | n + 1, L, hl, h => by
    have hne : L ≠ [] := fun e => by rw [e] at hl; simp at hl
    obtain ⟨M, a, hM⟩ : ∃ M a, L = M ++ [a] := ⟨L.dropLast, L.getLast hne, (List.dropLast_concat_getLast hne).symm⟩
    subst hM
    have h1 := reads_many n M (by simpa using hl) (fun a ha => h a (List.mem_append_left _ ha))
    have h2 := h a (List.mem_append_right _ (List.mem_singleton.2 rfl))
    have h3 : Reads (many A (n + 1)) (M.flatMap e ++ e a) (M ++ [a]) := reads_bnd h1 (reads_last h2 (reads_ret _))
    rw [List.flatMap_append, show [a].flatMap e = e a by simp]
    exact h3
theorem name_short {s : Bs} (h : isName s = true) : s.length < 256 := by
  cases s with
  | nil => simp
  | cons b r =>
    unfold isName at h
    simp only [Bool.and_eq_true, decide_eq_true_eq] at h
    simp only [List.length_cons]
    omega
theorem reads_sec {q : Nat} {s : Sec} (hq : q ≤ 24) (hn : isName s.name = true) (hs : secErr q s = 0) : Reads rdSec (encSec s) s := by
  obtain ⟨r1, r2, r3, r4, r5, r6, r7, r8⟩ := sec_range hs
  have h := reads_bnd (reads_name (name_short hn)) (f := fun a => bnd (rdNum 2) fun b => bnd (rdNum 3) fun c => bnd (rdNum 1) fun d => bnd (rdNum 1) fun e => ret (⟨a, b, c, (d : Int) - 40, (e : Int) - 1⟩ : Sec))
    (reads_bnd (reads_num (n := 2) (v := s.len.toNat) (by omega)) (reads_bnd (reads_num (n := 3) (v := s.lim.toNat) (by omega)) (reads_bnd (reads_num (n := 1) (v := (s.grade + 40).toNat) (by omega)) (reads_last (reads_num (n := 1) (v := (s.st + 1).toNat) (by omega)) (reads_ret _)))))
  have e : (⟨s.name, (s.len.toNat : Nat), (s.lim.toNat : Nat), (((s.grade + 40).toNat : Nat) : Int) - 40, (((s.st + 1).toNat : Nat) : Int) - 1⟩ : Sec) = s := by
    obtain ⟨a, b, c, d, e⟩ := s
    simp only at r1 r3 r5 r7 ⊢
    congr 1 <;> omega
  rw [e] at h
  exact h
theorem reads_lnk {n p : Nat} {k : Lnk} (hn : n ≤ 96) (hp : p ≤ 48) (hk : inr n p k = true) : Reads rdLnk (encLnk k) k := by
  obtain ⟨r1, r2, r3, r4, r5, r6, r7, r8, r9, r10, r11, r12, r13⟩ := inr_range hk
  have h := reads_bnd (reads_num (n := 1) (v := (k.a * 2 + k.ae).toNat) (by omega)) (f := fun (a : Nat) => bnd (rdNum 1) fun b => bnd (rdNum 1) fun c => bnd (rdNum 1) fun d => ret (⟨(a : Int) / 2, (a : Int) % 2, (b : Int) / 2, (b : Int) % 2, (c : Int) - 1, d⟩ : Lnk))
    (reads_bnd (reads_num (n := 1) (v := (k.b * 2 + k.be).toNat) (by omega)) (reads_bnd (reads_num (n := 1) (v := (k.pt + 1).toNat) (by omega)) (reads_last (reads_num (n := 1) (v := k.ps.toNat) (by omega)) (reads_ret _))))
  have e : (⟨(((k.a * 2 + k.ae).toNat : Nat) : Int) / 2, (((k.a * 2 + k.ae).toNat : Nat) : Int) % 2, (((k.b * 2 + k.be).toNat : Nat) : Int) / 2, (((k.b * 2 + k.be).toNat : Nat) : Int) % 2, (((k.pt + 1).toNat : Nat) : Int) - 1, (k.ps.toNat : Nat)⟩ : Lnk) = k := by
    obtain ⟨a, b, c, d, e, f⟩ := k
    simp only at r1 r3 r5 r6 r7 r8 r9 r11 ⊢
    congr 1 <;> omega
  rw [e] at h
  exact h
theorem sizes_of {l : Lay} (h : check l = 0) : l.stations.length ≤ 24 ∧ l.points.length ≤ 48 ∧ l.sections.length ≤ 96 ∧ l.links.length ≤ 192 := by
  unfold check at h
  split at h
  · cases h
  · omega
theorem reads_lay {l : Lay} (h : check l = 0) : Reads rdLay (counts l ++ (l.stations.flatMap nm ++ (l.points.flatMap nm ++ (l.sections.flatMap encSec ++ l.links.flatMap encLnk)))) l := by
  obtain ⟨z1, z2, z3, z4⟩ := sizes_of h
  have hv := valid_of h
  have h1 := reads_many (A := rdName) (e := nm) _ l.stations rfl (fun a ha => reads_name (name_short (hv.st a ha)))
  have h2 := reads_many (A := rdName) (e := nm) _ l.points rfl (fun a ha => reads_name (name_short (hv.pt a ha)))
  have h3 := reads_many (A := rdSec) (e := encSec) _ l.sections rfl (fun a ha => reads_sec z1 (hv.sec a ha).1 (hv.sec a ha).2)
  have h4 := reads_many (A := rdLnk) (e := encLnk) _ l.links rfl (fun a ha => reads_lnk z3 z2 (hv.lnk a ha))
  have h := reads_bnd (reads_num (n := 1) (v := l.stations.length) (by omega)) (f := fun a => bnd (rdNum 1) fun b => bnd (rdNum 1) fun c => bnd (rdNum 1) fun d => bnd (many rdName a) fun S => bnd (many rdName b) fun P => bnd (many rdSec c) fun X => bnd (many rdLnk d) fun K => ret (⟨S, P, X, K⟩ : Lay))
    (reads_bnd (reads_num (n := 1) (v := l.points.length) (by omega)) (reads_bnd (reads_num (n := 1) (v := l.sections.length) (by omega)) (reads_bnd (reads_num (n := 1) (v := l.links.length) (by omega))
      (reads_bnd h1 (reads_bnd h2 (reads_bnd h3 (reads_last h4 (reads_ret _))))))))
  unfold counts
  simp only [List.append_assoc] at h ⊢
  exact h
theorem body_len (l : Lay) : 8 ≤ (body l).length := by
  unfold body counts sig
  simp only [List.length_append, le_length, List.length_cons, List.length_nil]
  omega
theorem enc_len (l : Lay) : (enc l).length = (body l).length + 4 := by
  unfold enc
  rw [List.length_append, le_length]
theorem enc_head (l : Lay) : (enc l).take 4 = sig := by
  unfold enc body sig
  rfl
/-- reading what was written -/
theorem whole_enc {l : Lay} (h : check l = 0) : whole (enc l) = ((l, ((body l).length, false)), (crc (body l), ((enc l).length, false))) := by
  have hb := body_len l
  have he := enc_len l
  have h0 : (item 4 (enc l) (0, false)).2 = (4, false) := by rw [head_pos, if_pos (by omega)]
  have h1 : rdLay (enc l) (4, false) = (l, ((body l).length, false)) := by
    have := reads_lay h (enc l) 4 (le 4 (crc (body l))) (by unfold enc body sig; simp)
    rw [this]
    congr 2
    unfold body sig
    simp only [List.length_append, List.length_cons, List.length_nil]
  have h2 : rdNum 4 (enc l) ((body l).length, false) = (crc (body l), ((enc l).length, false)) := by
    have := reads_num (n := 4) (v := crc (body l)) (by have := crc_lt (body l); omega) (enc l) (body l).length [] (by unfold enc; simp)
    rw [this, le_length, he]
  unfold whole
  rw [h0, h1]
  simp only
  rw [h2]
theorem decode_enc {l : Lay} (h : check l = 0) : decode (enc l) = (l, 0, 0) := by
  unfold decode
  rw [whole_enc h]
  simp only
  have ht : (enc l).take (body l).length = body l := by unfold enc; exact List.take_left
  rw [if_neg (fun hc => hc.2 (enc_head l)), if_neg (by simp), if_neg (fun hc => hc (by rw [ht])), if_neg (fun hc => hc rfl), if_neg (fun hc => hc h)]
/-- a proper beginning of an encoding is too short -/
theorem decode_prefix {l : Lay} (h : check l = 0) {k : Nat} (hk : k < (enc l).length) : (decode ((enc l).take k)).2.2 = 10 ∧ (decode ((enc l).take k)).2.1 ≤ k := by
  have hl : ((enc l).take k).length = k := by simp; omega
  have hst : (whole ((enc l).take k)).2.2.2 = true := by
    unfold whole
    simp only
    rw [head_pos, hl]
    split
    · rename_i h4
      have hw := whole_enc h
      unfold whole at hw
      rw [head_pos, if_pos (by omega)] at hw
      simp only [Prod.mk.injEq] at hw
      obtain ⟨w1, w2⟩ := hw
      have f : Fine (bnd rdLay fun _ => rdNum 4) := fine_bnd fine_lay fun _ => fine_num 4
      have e : bnd rdLay (fun _ => rdNum 4) (enc l) (4, false) = (crc (body l), ((enc l).length, false)) := w2
      exact (f.pre (enc l) k 4 h4 (by omega) (by rw [e])).2 (by rw [e]; exact hk)
    · rw [fine_lay.stuck, (fine_num 4).stuck]
  have hsig : ¬ (4 ≤ ((enc l).take k).length ∧ ((enc l).take k).take 4 ≠ sig) := by
    rintro ⟨h1, h2⟩
    apply h2
    rw [List.take_take, Nat.min_eq_left (by omega)]
    exact enc_head l
  have hle := (whole_le ((enc l).take k)).2
  unfold decode
  rw [if_neg hsig, if_pos hst]
  exact ⟨rfl, by simp only; omega⟩
/-- a changed byte is found -/
theorem decode_change {l : Lay} (p q : Bs) (c d : UInt8) (he : enc l = p ++ c :: q) (hcd : c ≠ d) : (decode (p ++ d :: q)).2.2 ≠ 0 := by
  intro h
  have hlen : (p ++ d :: q).length = (body l).length + 4 := by
    rw [← enc_len l, he]; simp
  unfold decode at h
  split at h
  · cases h
  · split at h
    · cases h
    · rename_i hsig hst
      obtain ⟨w1, w2, w3, w4⟩ := whole_sum (Bool.eq_false_iff.2 hst)
      split at h
      · cases h
      · rename_i hsum
        split at h
        · cases h
        · rename_i hpos
          rw [w3] at hsum
          rw [w2, Classical.not_not] at hpos
          have hb : (whole (p ++ d :: q)).1.2.1 = (body l).length := by omega
          rw [hb, Classical.not_not] at hsum
          have h4 : ((p ++ d :: q).drop (body l).length).take 4 = (p ++ d :: q).drop (body l).length := List.take_of_length_le (by rw [List.length_drop]; omega)
          rw [h4] at hsum
          have ht : (enc l).take (body l).length = body l := by unfold enc; exact List.take_left
          have hd : (enc l).drop (body l).length = le 4 (crc (body l)) := by unfold enc; exact List.drop_left
          rw [he] at ht hd
          have hv : val ((p ++ c :: q).drop (body l).length) = crc (body l) := by rw [hd, val_le 4 _ (by have := crc_lt (body l); omega)]
          by_cases hk : p.length < (body l).length
          · have x1 : ∀ z : UInt8, (p ++ z :: q).drop (body l).length = q.drop ((body l).length - p.length - 1) := fun z => by
              rw [List.drop_append, List.drop_eq_nil_of_le (by omega), List.nil_append]
              obtain ⟨m, hm⟩ : ∃ m, (body l).length - p.length = m + 1 := ⟨(body l).length - p.length - 1, by omega⟩
              rw [hm, List.drop_succ_cons]
              congr 1
            have x2 : ∀ z : UInt8, (p ++ z :: q).take (body l).length = p ++ z :: q.take ((body l).length - p.length - 1) := fun z => by
              rw [List.take_append, List.take_of_length_le (by omega)]
              obtain ⟨m, hm⟩ : ∃ m, (body l).length - p.length = m + 1 := ⟨(body l).length - p.length - 1, by omega⟩
              rw [hm, List.take_succ_cons]
              congr 2
            have hs2 : crc ((p ++ c :: q).take (body l).length) = crc ((p ++ d :: q).take (body l).length) := by rw [ht, ← hv, x1 c, ← x1 d]; exact hsum
            rw [x2, x2] at hs2
            exact hcd (crc_change _ _ _ _ hs2)
          · have x2 : ∀ z : UInt8, (p ++ z :: q).take (body l).length = p.take (body l).length := fun z => List.take_append_of_le_length (by omega)
            rw [x2 d, ← x2 c, ht, ← hv] at hsum
            have hx := val_inj (by simp) hsum
            have e1 : p ++ d :: q = p ++ c :: q := by
              rw [← List.take_append_drop (body l).length (p ++ d :: q), hx, x2 d, ← x2 c, List.take_append_drop]
            have := List.append_cancel_left e1
            injection this with e
            exact hcd e.symm

end Go.Proofs.Ytepbdcnjhbaehaa.Bin
