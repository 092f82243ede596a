/-
  Plain mathematics of running times: limits, rates, the two passes over the squared speeds, roots and times; what orders them. No program in it.
-/
import Derived.Test.YtglcimahdgnnnaaRows
namespace Go.Proofs.Ytglcimahdgnnnaa.Dyn
set_option linter.unusedVariables false

/-- a cell: its limit and its grade -/
structure Cel where
  lim : Int
  gr : Int
/-- the numbers of a stock -/
structure Stk where
  len : Int
  spd : Int
  acc : Int
  brk : Int
instance : Inhabited Cel := ⟨⟨0, 0⟩⟩

def okStk (s : Stk) : Bool := decide (1 ≤ s.len ∧ s.len ≤ 40 ∧ 1000 ≤ s.spd ∧ s.spd ≤ 100000 ∧ 100 ≤ s.acc ∧ s.acc ≤ 2000 ∧ 100 ≤ s.brk ∧ s.brk ≤ 2000)
def okCel (c : Cel) : Bool := decide (1000 ≤ c.lim ∧ c.lim ≤ 100000 ∧ -40 ≤ c.gr ∧ c.gr ≤ 40)
theorem okStk_iff {s : Stk} : okStk s = true ↔ (1 ≤ s.len ∧ s.len ≤ 40 ∧ 1000 ≤ s.spd ∧ s.spd ≤ 100000 ∧ 100 ≤ s.acc ∧ s.acc ≤ 2000 ∧ 100 ≤ s.brk ∧ s.brk ≤ 2000) := by simp [okStk]
theorem okCel_iff {c : Cel} : okCel c = true ↔ (1000 ≤ c.lim ∧ c.lim ≤ 100000 ∧ -40 ≤ c.gr ∧ c.gr ≤ 40) := by simp [okCel]
/-- the first error of a run: 0 for none, 1 the stock, 7 too many cells, 4 a range -/
def err (cs : List Cel) (start : Int) (s : Stk) : Int :=
  if okStk s = false then 1
  else if 4000 < cs.length then 7
  else if cs.all okCel = false then 4
  else if 0 ≤ start ∧ start ≤ cs.length - 2 then 0 else 4

def cel (cs : List Cel) (i : Nat) : Cel := cs.getD i default
theorem cel_eq {cs : List Cel} {i : Nat} {c : Cel} (h : cs[i]? = some c) : cel cs i = c := by simp [cel, h]
theorem cel_ok {cs : List Cel} {i : Nat} (h : cs.all okCel = true) (hi : i < cs.length) : okCel (cel cs i) = true := by
  rw [cel_eq (List.getElem?_eq_getElem hi)]
  exact List.all_eq_true.1 h _ (List.getElem_mem hi)

/-- the least of v and the limits of the n cells from a on -/
def upto (cs : List Cel) (v : Int) (a : Nat) : Nat → Int
  | 0 => v
  | n + 1 => min (upto cs v a n) (cel cs (a + n)).lim
/-- the limit of cell k -/
def lim (cs : List Cel) (s : Stk) (k : Nat) : Int := upto cs s.spd (k - s.len.toNat) (k + 1 - (k - s.len.toNat))
theorem le_upto {cs : List Cel} {v : Int} {a : Nat} (x : Int) : ∀ n, (x ≤ upto cs v a n ↔ x ≤ v ∧ ∀ i, a ≤ i → i < a + n → x ≤ (cel cs i).lim)
  | 0 => by simp only [upto]; exact ⟨fun h => ⟨h, fun i h1 h2 => by omega⟩, fun h => h.1⟩
  | n + 1 => by
    simp only [upto, Int.le_min, le_upto x n]
    constructor
    · rintro ⟨⟨h1, h2⟩, h3⟩
      refine ⟨h1, fun i hi hi2 => ?_⟩
      by_cases e : i = a + n
      · subst e; exact h3
      · exact h2 i hi (by omega)
    · rintro ⟨h1, h2⟩
      exact ⟨⟨h1, fun i hi hi2 => h2 i hi (by omega)⟩, h2 _ (by omega) (by omega)⟩
theorem le_lim {cs : List Cel} {s : Stk} {k : Nat} (x : Int) : x ≤ lim cs s k ↔ x ≤ s.spd ∧ ∀ i, k - s.len.toNat ≤ i → i ≤ k → x ≤ (cel cs i).lim := by
  unfold lim
  rw [le_upto]
  constructor
  · rintro ⟨h1, h2⟩; exact ⟨h1, fun i hi hi2 => h2 i hi (by omega)⟩
  · rintro ⟨h1, h2⟩; exact ⟨h1, fun i hi hi2 => h2 i hi (by omega)⟩
theorem lim_bounds {cs : List Cel} {s : Stk} {k : Nat} (hs : okStk s = true) (hc : cs.all okCel = true) (hk : k < cs.length) : 1000 ≤ lim cs s k ∧ lim cs s k ≤ 100000 := by
  have h := okStk_iff.1 hs
  refine ⟨(le_lim _).2 ⟨by omega, fun i _ hi => ?_⟩, ?_⟩
  · have := okCel_iff.1 (cel_ok hc (show i < cs.length by omega)); omega
  · have := ((le_lim (lim cs s k)).1 (Int.le_refl _)).1; omega
theorem lim_mono {cs ds : List Cel} {s r : Stk} {k : Nat} (hsp : s.spd ≤ r.spd) (hl : r.len ≤ s.len) (hc : ∀ i, i ≤ k → (cel cs i).lim ≤ (cel ds i).lim) : lim cs s k ≤ lim ds r k := by
  have h := (le_lim (cs := cs) (s := s) (k := k) _).1 (Int.le_refl _)
  refine (le_lim _).2 ⟨by omega, fun i h1 h2 => ?_⟩
  have := h.2 i (by omega) h2
  have := hc i h2
  omega
theorem lim_const {cs : List Cel} {s : Stk} {k : Nat} {L : Int} (h : ∀ i, i ≤ k → (cel cs i).lim = L) : lim cs s k = min s.spd L := by
  have h1 := (le_lim (cs := cs) (s := s) (k := k) _).1 (Int.le_refl _)
  have h2 := h1.2 k (by omega) (Nat.le_refl _)
  rw [h k (Nat.le_refl _)] at h2
  have h3 : min s.spd L ≤ lim cs s k := (le_lim _).2 ⟨by omega, fun i _ hi => by rw [h i hi]; omega⟩
  omega

/-- the acceleration in a cell -/
def acc (c : Cel) (s : Stk) : Int := if 0 < c.gr then max 50 (s.acc - 10 * c.gr) else s.acc
/-- the braking rate in a cell -/
def brk (c : Cel) (s : Stk) : Int := if c.gr < 0 then max 50 (s.brk + 10 * c.gr) else s.brk
theorem acc_bounds {c : Cel} {s : Stk} (hs : okStk s = true) : 50 ≤ acc c s ∧ acc c s ≤ s.acc := by
  have := okStk_iff.1 hs
  unfold acc; split <;> omega
theorem brk_bounds {c : Cel} {s : Stk} (hs : okStk s = true) : 50 ≤ brk c s ∧ brk c s ≤ s.brk := by
  have := okStk_iff.1 hs
  unfold brk; split <;> omega
theorem acc_mono {c d : Cel} {s r : Stk} (h : s.acc ≤ r.acc) (hg : c.gr = d.gr) : acc c s ≤ acc d r := by
  unfold acc; rw [hg]; split <;> omega
theorem brk_mono {c d : Cel} {s r : Stk} (h : s.brk ≤ r.brk) (hg : c.gr = d.gr) : brk c s ≤ brk d r := by
  unfold brk; rw [hg]; split <;> omega

/-- the square of the least limit at boundary b (of n cells from start on), 0 at both ends -/
def base (cs : List Cel) (s : Stk) (start n b : Nat) : Int :=
  if 0 < b ∧ b < n then min (lim cs s (start + b - 1)) (lim cs s (start + b)) * min (lim cs s (start + b - 1)) (lim cs s (start + b)) else 0
/-- the pass forward -/
def fwd (A bs : Nat → Int) : Nat → Int
  | 0 => bs 0
  | b + 1 => min (bs (b + 1)) (fwd A bs b + 20000 * A b)
/-- the pass backward, j boundaries before the last one -/
def bwd (B f : Nat → Int) (n : Nat) : Nat → Int
  | 0 => f n
  | j + 1 => min (f (n - (j + 1))) (bwd B f n j + 20000 * B (n - (j + 1)))
def forw (cs : List Cel) (s : Stk) (start n : Nat) : Nat → Int := fwd (fun b => acc (cel cs (start + b)) s) (base cs s start n)
/-- the squared speed at boundary b -/
def sq (cs : List Cel) (s : Stk) (start n b : Nat) : Int := bwd (fun b => brk (cel cs (start + b)) s) (forw cs s start n) n (n - b)
theorem forw_zero (cs : List Cel) (s : Stk) (start n : Nat) : forw cs s start n 0 = 0 := by simp [forw, fwd, base]
theorem forw_succ (cs : List Cel) (s : Stk) (start n b : Nat) : forw cs s start n (b + 1) = min (base cs s start n (b + 1)) (forw cs s start n b + 20000 * acc (cel cs (start + b)) s) := rfl
theorem sq_last (cs : List Cel) (s : Stk) (start n : Nat) : sq cs s start n n = forw cs s start n n := by simp [sq, bwd]
theorem sq_step (cs : List Cel) (s : Stk) (start n b : Nat) (h : b < n) : sq cs s start n b = min (forw cs s start n b) (sq cs s start n (b + 1) + 20000 * brk (cel cs (start + b)) s) := by
  unfold sq
  obtain ⟨j, hj⟩ : ∃ j, n - b = j + 1 := ⟨n - b - 1, by omega⟩
  rw [hj, show n - (b + 1) = j by omega]
  simp only [bwd]
  rw [show n - (j + 1) = b by omega]
theorem sq_le_forw {cs : List Cel} {s : Stk} {start n b : Nat} (h : b ≤ n) : sq cs s start n b ≤ forw cs s start n b := by
  by_cases e : b = n
  · subst e; rw [sq_last]; exact Int.le_refl _
  · rw [sq_step _ _ _ _ _ (by omega)]; omega
theorem forw_le_base (cs : List Cel) (s : Stk) (start n b : Nat) : forw cs s start n b ≤ base cs s start n b := by
  cases b with
  | zero => simp [forw_zero, base]
  | succ b => rw [forw_succ]; omega

section
variable {cs : List Cel} {s : Stk} {start : Nat}
theorem sqr_mono {a b : Int} (h0 : 0 ≤ a) (h : a ≤ b) : a * a ≤ b * b := Int.mul_le_mul h h (by omega) (by omega)
theorem base_bounds {n b : Nat} (hs : okStk s = true) (hc : cs.all okCel = true) (hn : start + n ≤ cs.length) (hb : 0 < b) (hb2 : b < n) : 1000000 ≤ base cs s start n b ∧ base cs s start n b ≤ 10000000000 := by
  have h1 := lim_bounds hs hc (show start + b - 1 < cs.length by omega)
  have h2 := lim_bounds hs hc (show start + b < cs.length by omega)
  unfold base
  rw [if_pos ⟨hb, hb2⟩]
  have h3 : 1000 ≤ min (lim cs s (start + b - 1)) (lim cs s (start + b)) := by omega
  have h4 : min (lim cs s (start + b - 1)) (lim cs s (start + b)) ≤ 100000 := by omega
  exact ⟨by have := sqr_mono (by omega) h3; omega, by have := sqr_mono (by omega) h4; omega⟩
theorem base_all {n b : Nat} (hs : okStk s = true) (hc : cs.all okCel = true) (hn : start + n ≤ cs.length) : 0 ≤ base cs s start n b ∧ base cs s start n b ≤ 10000000000 := by
  by_cases h : 0 < b ∧ b < n
  · have := base_bounds hs hc hn h.1 h.2; omega
  · unfold base; rw [if_neg h]; omega
theorem forw_bounds {n : Nat} (hs : okStk s = true) (hc : cs.all okCel = true) (hn : start + n ≤ cs.length) : ∀ b, 0 ≤ forw cs s start n b ∧ forw cs s start n b ≤ 10000000000 ∧ (0 < b → b < n → 1000000 ≤ forw cs s start n b)
  | 0 => by rw [forw_zero]; omega
  | b + 1 => by
    have ih := forw_bounds hs hc hn b
    have h1 := base_all (b := b + 1) hs hc hn
    have h2 := acc_bounds (c := cel cs (start + b)) hs
    rw [forw_succ]
    refine ⟨by omega, by omega, fun h h' => ?_⟩
    have := base_bounds hs hc hn h h'
    omega
theorem sq_bounds {n : Nat} (hs : okStk s = true) (hc : cs.all okCel = true) (hn : start + n ≤ cs.length) : ∀ j b, n = b + j → 0 ≤ sq cs s start n b ∧ sq cs s start n b ≤ 10000000000 ∧ (0 < b → b < n → 1000000 ≤ sq cs s start n b)
  | 0, b, h => by
    obtain rfl : n = b := by omega
    have := forw_bounds hs hc hn n
    rw [sq_last]
    exact ⟨this.1, this.2.1, fun _ h => by omega⟩
  | j + 1, b, h => by
    have ih := sq_bounds hs hc hn j (b + 1) (by omega)
    have h1 := forw_bounds hs hc hn b
    have h2 := brk_bounds (c := cel cs (start + b)) hs
    rw [sq_step _ _ _ _ _ (by omega)]
    refine ⟨by omega, by omega, fun h h' => ?_⟩
    have := h1.2.2 h h'
    omega
theorem sq_in {n b : Nat} (hs : okStk s = true) (hc : cs.all okCel = true) (hn : start + n ≤ cs.length) (hb : b ≤ n) : 0 ≤ sq cs s start n b ∧ sq cs s start n b ≤ 10000000000 ∧ (0 < b → b < n → 1000000 ≤ sq cs s start n b) := sq_bounds hs hc hn (n - b) b (by omega)
theorem sq_first {n : Nat} (hs : okStk s = true) (hc : cs.all okCel = true) (hn : start + n ≤ cs.length) : sq cs s start n 0 = 0 := by
  have h1 := sq_in (b := 0) hs hc hn (by omega)
  have h2 := sq_le_forw (cs := cs) (s := s) (start := start) (n := n) (b := 0) (by omega)
  rw [forw_zero] at h2
  omega
theorem sq_end {n : Nat} (hs : okStk s = true) (hc : cs.all okCel = true) (hn : start + n ≤ cs.length) : sq cs s start n n = 0 := by
  have h1 := sq_in (b := n) hs hc hn (by omega)
  have h2 := sq_le_forw (cs := cs) (s := s) (start := start) (n := n) (b := n) (by omega)
  have h3 := forw_le_base cs s start n n
  simp [base] at h3
  omega
/-- behind both passes both rates are kept -/
theorem sq_rates {n b : Nat} (hs : okStk s = true) (hb : b < n) : sq cs s start n (b + 1) ≤ sq cs s start n b + 20000 * acc (cel cs (start + b)) s ∧ sq cs s start n b ≤ sq cs s start n (b + 1) + 20000 * brk (cel cs (start + b)) s := by
  have h1 := sq_step cs s start n b hb
  have h2 := sq_le_forw (cs := cs) (s := s) (start := start) (n := n) (b := b + 1) (by omega)
  have h3 := forw_succ cs s start n b
  have h4 := acc_bounds (c := cel cs (start + b)) hs
  have h5 := brk_bounds (c := cel cs (start + b)) hs
  omega
end

/-! ### what orders the squares -/
theorem forw_mono {cs ds : List Cel} {s r : Stk} {start n m : Nat} (hbase : ∀ b, b ≤ n → base cs s start n b ≤ base ds r start m b) (hacc : ∀ b, b < n → acc (cel cs (start + b)) s ≤ acc (cel ds (start + b)) r) :
    ∀ b, b ≤ n → forw cs s start n b ≤ forw ds r start m b
  | 0, _ => by rw [forw_zero, forw_zero]; exact Int.le_refl _
  | b + 1, h => by
    have ih := forw_mono hbase hacc b (by omega)
    have h1 := hbase (b + 1) h
    have h2 := hacc b (by omega)
    rw [forw_succ, forw_succ]
    omega
theorem sq_mono {cs ds : List Cel} {s r : Stk} {start n m : Nat} (hnm : n ≤ m) (hf : ∀ b, b ≤ n → forw cs s start n b ≤ forw ds r start m b) (hbrk : ∀ b, b < n → brk (cel cs (start + b)) s ≤ brk (cel ds (start + b)) r)
    (h0 : sq cs s start n n ≤ sq ds r start m n) : ∀ j b, n = b + j → sq cs s start n b ≤ sq ds r start m b
  | 0, b, h => by obtain rfl : n = b := by omega
                  exact h0
  | j + 1, b, h => by
    have ih := sq_mono hnm hf hbrk h0 j (b + 1) (by omega)
    have h1 := hf b (by omega)
    have h2 := hbrk b (by omega)
    rw [sq_step _ _ _ _ _ (by omega), sq_step _ _ _ _ _ (show b < m by omega)]
    omega
theorem base_mono {cs ds : List Cel} {s r : Stk} {start n b : Nat} (hs : okStk s = true) (hc : cs.all okCel = true) (hn : start + n ≤ cs.length) (h : ∀ k, k < start + n → lim cs s k ≤ lim ds r k) : base cs s start n b ≤ base ds r start n b := by
  unfold base
  split
  · rename_i hb
    have h1 := lim_bounds hs hc (show start + b - 1 < cs.length by omega)
    have h2 := lim_bounds hs hc (show start + b < cs.length by omega)
    have h3 := h (start + b - 1) (by omega)
    have h4 := h (start + b) (by omega)
    exact sqr_mono (by omega) (by omega)
  · exact Int.le_refl _
/-- a greater speed or rate never lowers a squared speed; nor do a shorter train and greater limits -/
theorem faster {cs ds : List Cel} {s r : Stk} {start n : Nat} (hs : okStk s = true) (hc : cs.all okCel = true) (hn : start + n ≤ cs.length) (h1 : s.spd ≤ r.spd) (h2 : s.acc ≤ r.acc) (h3 : s.brk ≤ r.brk) (h4 : r.len ≤ s.len)
    (hcs : ∀ i, i < start + n → (cel cs i).lim ≤ (cel ds i).lim ∧ (cel cs i).gr = (cel ds i).gr) {b : Nat} (hb : b ≤ n) : sq cs s start n b ≤ sq ds r start n b := by
  have hf := forw_mono (cs := cs) (ds := ds) (s := s) (r := r) (start := start) (n := n) (m := n) (fun b _ => base_mono hs hc hn (fun k hk => lim_mono h1 h4 (fun i hi => (hcs i (by omega)).1))) (fun b hb => acc_mono h2 (hcs _ (by omega)).2)
  exact sq_mono (Nat.le_refl _) hf (fun b hb => brk_mono h3 (hcs _ (by omega)).2) (by rw [sq_last, sq_last]; exact hf n (Nat.le_refl _)) (n - b) b (by omega)
/-- a train that stops earlier is never faster -/
theorem shorter {cs : List Cel} {s : Stk} {start n m : Nat} (hs : okStk s = true) (hc : cs.all okCel = true) (hn : start + m ≤ cs.length) (hnm : n ≤ m) {b : Nat} (hb : b ≤ n) : sq (cs.take (start + n)) s start n b ≤ sq cs s start m b := by
  have hcel : ∀ i, i < start + n → cel (cs.take (start + n)) i = cel cs i := fun i hi => by
    unfold cel; rw [List.getD_eq_getElem?_getD, List.getD_eq_getElem?_getD, List.getElem?_take_of_lt hi]
  have hlim : ∀ k, k < start + n → lim (cs.take (start + n)) s k = lim cs s k := fun k hk => by
    have a := lim_mono (cs := cs.take (start + n)) (ds := cs) (s := s) (r := s) (k := k) (Int.le_refl _) (Int.le_refl _) (fun i hi => by rw [hcel i (by omega)]; exact Int.le_refl _)
    have b := lim_mono (cs := cs) (ds := cs.take (start + n)) (s := s) (r := s) (k := k) (Int.le_refl _) (Int.le_refl _) (fun i hi => by rw [hcel i (by omega)]; exact Int.le_refl _)
    omega
  have hc' : (cs.take (start + n)).all okCel = true := List.all_eq_true.2 fun x hx => List.all_eq_true.1 hc x (List.mem_of_mem_take hx)
  have hl' : start + n ≤ (cs.take (start + n)).length := by rw [List.length_take]; omega
  have hbase : ∀ b, b ≤ n → base (cs.take (start + n)) s start n b ≤ base cs s start m b := fun b hb => by
    by_cases h : 0 < b ∧ b < n
    · unfold base
      rw [if_pos h, if_pos ⟨h.1, by omega⟩, hlim _ (by omega), hlim _ (by omega)]
      exact Int.le_refl _
    · have := (base_all (b := b) hs hc hn).1
      have e : base (cs.take (start + n)) s start n b = 0 := by unfold base; rw [if_neg h]
      omega
  have hf := forw_mono (cs := cs.take (start + n)) (ds := cs) (s := s) (r := s) (start := start) (n := n) (m := m) hbase (fun b hb => by rw [hcel _ (by omega)]; exact Int.le_refl _)
  exact sq_mono hnm hf (fun b hb => by rw [hcel _ (by omega)]; exact Int.le_refl _) (by rw [sq_end hs hc' hl']; exact (sq_in hs hc hn hnm).1) (n - b) b (by omega)
/-- on level track with one limit and equal rates -/
theorem level {cs : List Cel} {s : Stk} {n : Nat} {L : Int} (hs : okStk s = true) (hn : n = cs.length) (hc : ∀ i, i < n → cel cs i = ⟨L, 0⟩) (hL : 1000 ≤ L) (he : s.brk = s.acc) {b : Nat} (hb : b ≤ n) :
    sq cs s 0 n b = min (min (min s.spd L * min s.spd L) (20000 * s.acc * b)) (20000 * s.acc * ((n : Int) - b)) := by
  have hS := okStk_iff.1 hs
  have hpos : 0 ≤ min s.spd L * min s.spd L := Int.mul_nonneg (by omega) (by omega)
  have hlim : ∀ k, k < n → lim cs s k = min s.spd L := fun k hk => lim_const (fun i hi => by rw [hc i (by omega)])
  generalize hM : min s.spd L * min s.spd L = M at *
  have hbase : ∀ b, 0 < b → b < n → base cs s 0 n b = M := fun b h1 h2 => by
    unfold base
    rw [if_pos ⟨h1, h2⟩, hlim _ (by omega), hlim _ (by omega), Int.min_self, hM]
  have hacc : ∀ b, b < n → acc (cel cs (0 + b)) s = s.acc := fun b hb => by rw [hc _ (by omega)]; simp [acc]
  have hbrk : ∀ b, b < n → brk (cel cs (0 + b)) s = s.acc := fun b hb => by rw [hc _ (by omega)]; simp [brk, he]
  have hf : ∀ b, b < n → forw cs s 0 n b = min M (20000 * s.acc * b) := by
    intro b
    induction b with
    | zero => intro _; rw [forw_zero]; simp; omega
    | succ b ih =>
      intro hb
      have e : 20000 * s.acc * ((b + 1 : Nat) : Int) = 20000 * s.acc * b + 20000 * s.acc := by push_cast; rw [Int.mul_add, Int.mul_one]
      rw [forw_succ, ih (by omega), hbase _ (by omega) hb, hacc _ (by omega), e]
      omega
  have key : ∀ j b, n = b + j → sq cs s 0 n b = min (min M (20000 * s.acc * b)) (20000 * s.acc * ((n : Int) - b)) := by
    intro j
    induction j with
    | zero =>
      intro b h
      obtain rfl : n = b := by omega
      rw [sq_last, show 20000 * s.acc * ((n : Int) - n) = 0 by rw [Int.sub_self, Int.mul_zero]]
      cases hcase : n with
      | zero => rw [forw_zero]; simp; omega
      | succ q =>
        subst hcase
        have e : 20000 * s.acc * ((q + 1 : Nat) : Int) = 20000 * s.acc * q + 20000 * s.acc := by push_cast; rw [Int.mul_add, Int.mul_one]
        have p : 0 ≤ 20000 * s.acc * (q : Int) := Int.mul_nonneg (by omega) (by omega)
        rw [forw_succ, hf q (by omega), hacc _ (by omega), e, show base cs s 0 (q + 1) (q + 1) = 0 by simp [base]]
        omega
    | succ j ih =>
      intro b h
      have e : 20000 * s.acc * ((b + 1 : Nat) : Int) = 20000 * s.acc * b + 20000 * s.acc := by push_cast; rw [Int.mul_add, Int.mul_one]
      have e2 : 20000 * s.acc * ((n : Int) - (b + 1 : Nat)) = 20000 * s.acc * ((n : Int) - b) - 20000 * s.acc := by push_cast; rw [show (n : Int) - (b + 1) = ((n : Int) - b) - 1 by omega, Int.mul_sub, Int.mul_one]
      rw [sq_step _ _ _ _ _ (by omega), ih (b + 1) (by omega), hf b (by omega), hbrk _ (by omega), e, e2]
      omega
  exact key (n - b) b (by omega)

/-! ### roots -/
theorem root_unique {n r q : Int} (h0 : 0 ≤ r) (h1 : r * r ≤ n) (h2 : n < (r + 1) * (r + 1)) (g0 : 0 ≤ q) (g1 : q * q ≤ n) (g2 : n < (q + 1) * (q + 1)) : r = q := by
  rcases Int.lt_trichotomy r q with h | h | h
  · have := sqr_mono (a := r + 1) (b := q) (by omega) (by omega); omega
  · exact h
  · have := sqr_mono (a := q + 1) (b := r) (by omega) (by omega); omega
theorem root_exists : ∀ n : Nat, ∃ r : Int, 0 ≤ r ∧ r * r ≤ n ∧ n < (r + 1) * (r + 1)
  | 0 => ⟨0, by decide, by decide, by decide⟩
  | n + 1 => by
    obtain ⟨r, h0, h1, h2⟩ := root_exists n
    by_cases h : ((n + 1 : Nat) : Int) < (r + 1) * (r + 1)
    · exact ⟨r, h0, by omega, h⟩
    · refine ⟨r + 1, by omega, by omega, ?_⟩
      have : (r + 1) * (r + 1) < (r + 1 + 1) * (r + 1 + 1) := Int.mul_lt_mul (by omega) (by omega) (by omega) (by omega)
      omega
noncomputable def root (n : Int) : Int := Classical.choose (root_exists n.toNat)
theorem root_spec {n : Int} (h : 0 ≤ n) : 0 ≤ root n ∧ root n * root n ≤ n ∧ n < (root n + 1) * (root n + 1) := by
  have := Classical.choose_spec (root_exists n.toNat)
  have e : ((n.toNat : Nat) : Int) = n := Int.toNat_of_nonneg h
  exact ⟨this.1, Int.le_trans this.2.1 (Int.le_of_eq e), Int.lt_of_le_of_lt (Int.le_of_eq e.symm) this.2.2⟩
theorem root_eq {n r : Int} (h0 : 0 ≤ r) (h1 : r * r ≤ n) (h2 : n < (r + 1) * (r + 1)) : root n = r := by
  have hn : 0 ≤ n := Int.le_trans (Int.mul_nonneg h0 h0) h1
  obtain ⟨g0, g1, g2⟩ := root_spec hn
  exact root_unique g0 g1 g2 h0 h1 h2
theorem root_mono {n m : Int} (h0 : 0 ≤ n) (h : n ≤ m) : root n ≤ root m := by
  obtain ⟨a0, a1, a2⟩ := root_spec h0
  obtain ⟨b0, b1, b2⟩ := root_spec (show 0 ≤ m by omega)
  apply Int.not_lt.1
  intro hlt
  have := sqr_mono (a := root m + 1) (b := root n) (by omega) (by omega)
  omega
theorem root_le {n r : Int} (h0 : 0 ≤ n) (hr : 0 ≤ r) (h : n ≤ r * r) : root n ≤ r := by
  obtain ⟨a0, a1, a2⟩ := root_spec h0
  apply Int.not_lt.1
  intro hlt
  have h1 : (r + 1) * (r + 1) ≤ root n * root n := sqr_mono (by omega) (by omega)
  have h2 : (r + 1) * (r + 1) = r * r + 2 * r + 1 := by rw [Int.add_mul, Int.mul_add]; omega
  omega
theorem le_root {n r : Int} (hr : 0 ≤ r) (h : r * r ≤ n) : r ≤ root n := by
  have h0 : 0 ≤ n := Int.le_trans (Int.mul_nonneg hr hr) h
  obtain ⟨a0, a1, a2⟩ := root_spec h0
  apply Int.not_lt.1
  intro hlt
  have := sqr_mono (a := root n + 1) (b := r) (by omega) (by omega)
  omega
theorem root_zero : root 0 = 0 := root_eq (by decide) (by decide) (by decide)

/-! ### times -/
def ceil (a b : Int) : Int := -((-a) / b)
theorem ceil_spec {a b : Int} (hb : 0 < b) (q : Int) : ceil a b ≤ q ↔ a ≤ q * b := by
  unfold ceil
  have h := Int.le_ediv_iff_mul_le (a := -q) (b := -a) hb
  rw [Int.neg_mul] at h
  omega
theorem ceil_anti {a x y : Int} (ha : 0 ≤ a) (hx : 0 < x) (h : x ≤ y) : ceil a y ≤ ceil a x := by
  rw [ceil_spec (by omega)]
  have h1 := (ceil_spec (a := a) hx (ceil a x)).1 (Int.le_refl _)
  have h2 : 0 ≤ ceil a x := by
    apply Int.not_lt.1
    intro hlt
    have := Int.mul_neg_of_neg_of_pos hlt hx
    omega
  have := Int.mul_le_mul_of_nonneg_left h h2
  omega
theorem ceil_pos {a x : Int} (ha : 0 < a) (hx : 0 < x) : 0 < ceil a x := by
  apply Int.not_le.1
  intro h
  have := (ceil_spec hx 0).1 h
  omega
theorem ceil_le {a x : Int} (ha : 0 ≤ a) (hx : 0 < x) : ceil a x ≤ a := by
  rw [ceil_spec hx]
  have : a * 1 ≤ a * x := Int.mul_le_mul_of_nonneg_left (by omega) ha
  omega
/-- the time at boundary b, of the speeds v -/
def tim (v : Nat → Int) : Nat → Int
  | 0 => 0
  | b + 1 => tim v b + ceil 20000000 (v b + v (b + 1))
theorem tim_mono {v u : Nat → Int} {n : Nat} (hpos : ∀ b, b < n → 0 < u b + u (b + 1)) (h : ∀ b, b ≤ n → u b ≤ v b) : ∀ b, b ≤ n → tim v b ≤ tim u b
  | 0, _ => Int.le_refl _
  | b + 1, hb => by
    have ih := tim_mono hpos h b (by omega)
    have h1 := h b (by omega)
    have h2 := h (b + 1) hb
    have := ceil_anti (a := 20000000) (by omega) (hpos b (by omega)) (show u b + u (b + 1) ≤ v b + v (b + 1) by omega)
    simp only [tim]
    omega
theorem tim_bounds {v : Nat → Int} {n : Nat} (hpos : ∀ b, b < n → 0 < v b + v (b + 1)) : ∀ b, b ≤ n → 0 ≤ tim v b ∧ tim v b ≤ 20000000 * b
  | 0, _ => by simp [tim]
  | b + 1, hb => by
    have ih := tim_bounds hpos b (by omega)
    have h1 := ceil_pos (a := 20000000) (by omega) (hpos b (by omega))
    have h2 := ceil_le (a := 20000000) (by omega) (hpos b (by omega))
    simp only [tim]
    push_cast
    omega
theorem tim_step {v : Nat → Int} {b : Nat} (hpos : 0 < v b + v (b + 1)) : tim v b < tim v (b + 1) := by
  have h1 := ceil_pos (a := 20000000) (by omega) hpos
  simp only [tim]
  omega
theorem tim_congr {v u : Nat → Int} : ∀ b, (∀ i, i ≤ b → v i = u i) → tim v b = tim u b
  | 0, _ => rfl
  | b + 1, h => by simp only [tim]; rw [tim_congr b (fun i hi => h i (by omega)), h b (by omega), h (b + 1) (Nat.le_refl _)]

/-- the speed at boundary b -/
noncomputable def vel (cs : List Cel) (s : Stk) (start n b : Nat) : Int := root (sq cs s start n b)
section
variable {cs : List Cel} {s : Stk} {start n : Nat}
theorem vel_bounds {b : Nat} (hs : okStk s = true) (hc : cs.all okCel = true) (hn : start + n ≤ cs.length) (hb : b ≤ n) : 0 ≤ vel cs s start n b ∧ vel cs s start n b ≤ 100000 ∧ (0 < b → b < n → 1000 ≤ vel cs s start n b) := by
  obtain ⟨h1, h2, h3⟩ := sq_in hs hc hn hb
  refine ⟨(root_spec h1).1, root_le h1 (by omega) (by omega), fun a b => le_root (by omega) (by have := h3 a b; omega)⟩
theorem vel_pos {b : Nat} (hs : okStk s = true) (hc : cs.all okCel = true) (hn : start + n ≤ cs.length) (h2 : 2 ≤ n) (hb : b < n) : 0 < vel cs s start n b + vel cs s start n (b + 1) := by
  have h1 := vel_bounds hs hc hn (show b ≤ n by omega)
  have h3 := vel_bounds hs hc hn (show b + 1 ≤ n by omega)
  by_cases h : 0 < b
  · have := h1.2.2 h hb; omega
  · have := h3.2.2 (by omega) (by omega); omega
theorem vel_first (hs : okStk s = true) (hc : cs.all okCel = true) (hn : start + n ≤ cs.length) : vel cs s start n 0 = 0 := by unfold vel; rw [sq_first hs hc hn, root_zero]
theorem vel_end (hs : okStk s = true) (hc : cs.all okCel = true) (hn : start + n ≤ cs.length) : vel cs s start n n = 0 := by unfold vel; rw [sq_end hs hc hn, root_zero]
/-- the speeds at both boundaries of a cell keep its limit -/
theorem vel_lim {b : Nat} (hs : okStk s = true) (hc : cs.all okCel = true) (hn : start + n ≤ cs.length) (hb : b < n) : vel cs s start n b ≤ lim cs s (start + b) ∧ vel cs s start n (b + 1) ≤ lim cs s (start + b) := by
  have hl := lim_bounds hs hc (show start + b < cs.length by omega)
  have one : ∀ a, a ≤ n → (0 < a ∧ a < n → min (lim cs s (start + a - 1)) (lim cs s (start + a)) ≤ lim cs s (start + b)) → vel cs s start n a ≤ lim cs s (start + b) := fun a ha h => by
    have h1 := sq_in hs hc hn ha
    have h2 := sq_le_forw (cs := cs) (s := s) (start := start) ha
    have h3 := forw_le_base cs s start n a
    refine root_le h1.1 (by omega) ?_
    by_cases e : 0 < a ∧ a < n
    · have l1 := lim_bounds hs hc (show start + a - 1 < cs.length by omega)
      have l2 := lim_bounds hs hc (show start + a < cs.length by omega)
      have := sqr_mono (by omega) (h e)
      unfold base at h3
      rw [if_pos e] at h3
      omega
    · unfold base at h3
      rw [if_neg e] at h3
      have : 0 ≤ lim cs s (start + b) * lim cs s (start + b) := Int.mul_nonneg (by omega) (by omega)
      omega
  exact ⟨one b (by omega) (fun _ => by omega), one (b + 1) (by omega) (fun _ => by rw [show start + (b + 1) - 1 = start + b by omega]; omega)⟩
/-- up to the rounding of the roots the rates are kept -/
theorem vel_rates {b : Nat} (hs : okStk s = true) (hc : cs.all okCel = true) (hn : start + n ≤ cs.length) (hb : b < n) :
    vel cs s start n (b + 1) * vel cs s start n (b + 1) - (vel cs s start n b + 1) * (vel cs s start n b + 1) ≤ 20000 * max s.acc s.brk ∧
    vel cs s start n b * vel cs s start n b - (vel cs s start n (b + 1) + 1) * (vel cs s start n (b + 1) + 1) ≤ 20000 * max s.acc s.brk := by
  have h1 := root_spec (sq_in hs hc hn (show b ≤ n by omega)).1
  have h2 := root_spec (sq_in hs hc hn (show b + 1 ≤ n by omega)).1
  have h3 := sq_rates (cs := cs) (start := start) hs hb
  have h4 := acc_bounds (c := cel cs (start + b)) hs
  have h5 := brk_bounds (c := cel cs (start + b)) hs
  unfold vel
  omega
end
end Go.Proofs.Ytglcimahdgnnnaa.Dyn
