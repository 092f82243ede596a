/-
  Contracts of the makers of arguments: the source of choices, and the set that it makes.
-/
import Derived.Test.YtapflikdoiedeaaRefMake
import Derived.Deep.DeepCutAuto
namespace Go.Proofs.Ytapflikdoiedeaa.Source
open Go.ChangeShapes Go.WideShapes Go.ChangeAt Go.RowKit Plain Mem Nums Valid Errs Marks Gather RefOps RefMake
set_option linter.unusedVariables false

/-- n integers lie at A, below block B -/
def Ints (w : World) (B : Nat) (A : Option Addr) (n : Nat) : Prop :=
  ∀ j, j < n → ∃ ad z, A = some ad ∧ ad.block < B ∧ w.cell? (ad.add j) = some (.int .i64 z) ∧ -9223372036854775808 ≤ z ∧ z ≤ 9223372036854775807
theorem Ints.keep {w w' : World} {B n : Nat} {A : Option Addr} (h : Ints w B A n) (hk : ∀ p : Addr, p.block < B → w'.cell? p = w.cell? p) : Ints w' B A n := fun j hj => by
  obtain ⟨ad, z, e, hb, hc, h1, h2⟩ := h j hj
  exact ⟨ad, z, e, hb, (hk _ (by rw [Mem.block_add]; exact hb)).trans hc, h1, h2⟩
theorem Ints.below {w w' : World} {B n : Nat} {A : Option Addr} (h : Ints w B A n) (hb : Below B w w') : Ints w' B A n := h.keep fun _ hp => hb.cell hp

/-- block g is a source that has used up i choices of the n at A -/
def Src (w : World) (g : Nat) (A : Option Addr) (n c i : Nat) : Prop := w.heap[g]? = some (.cells #[.slice A n c, .int .i64 i] 67 (0, 0))
theorem Src.lt {w : World} {g n c i : Nat} {A : Option Addr} (h : Src w g A n c i) : g < w.heap.size := lt_of_block h
theorem Src.cell0 {w : World} {g n c i : Nat} {A : Option Addr} (h : Src w g A n c i) : w.cell? ⟨g, 0, none⟩ = some (.slice A n c) := by
  unfold Src at h; simp [World.cell?, h]
theorem Src.cell1 {w : World} {g n c i : Nat} {A : Option Addr} (h : Src w g A n c i) : w.cell? ⟨g, 1, none⟩ = some (.int .i64 i) := by
  unfold Src at h; simp [World.cell?, h]
theorem Src.free {w : World} {g n c i : Nat} {A : Option Addr} (h : Src w g A n c i) (j : Nat) : w.frozen? ⟨g, j, none⟩ = false := by
  unfold Src at h; simp [World.frozen?, h]
theorem Src.put {w : World} {g n c i : Nat} {A : Option Addr} (h : Src w g A n c i) (k : Nat) : Src (w.setCell ⟨g, 1, none⟩ (.int .i64 k)) g A n c k := by
  unfold Src at h ⊢
  simp [World.setCell, Array.getElem?_modify, h]
theorem Src.drewN {w : World} {g n c i : Nat} {A : Option Addr} (h : Src w g A n c i) (k : Nat) : Src (w.drewN k) g A n c i := h
theorem Src.below {w w' : World} {g n c i B : Nat} {A : Option Addr} (h : Src w g A n c i) (hb : Below B w w') (hg : g < B) : Src w' g A n c i := (hb.block g hg).trans h

def NextPost (n : Int) (g : Nat) (A : Option Addr) (l c : Nat) (w : World) (e : Ending) (w' : World) : Prop :=
  ∃ (r : Int) (i : Nat), 0 ≤ r ∧ r < n ∧ e = .returned (.int .i64 r) ∧ i ≤ l ∧ Src w' g A l c i ∧ w.grownBy w' (some g)

theorem quiet_same {P : Program} {f : FuncId} {args : Array Value} {w : World} {n : Nat} {v : Value} (h : Calls P f args (w.drewN n) fun e w' => e = .returned v ∧ w.drewN n = w') :
    Calls P f args (w.drewN n) fun e w' => e = .returned v ∧ ∃ m, w' = w.drewN m := h.mono fun _ _ ⟨he, hm⟩ => ⟨he, n, hm.symm⟩

theorem only_draws {a w : World} {row : Option Nat} (h : a.grownBy w row) (n : Nat) : a.grownBy (w.drewN n) row := ⟨h.os, h.tape, h.output, h.size, h.block⟩
theorem only_set {w : World} {g j : Nat} (u : Value) : w.grownBy (w.setCell ⟨g, j, none⟩ u) (some g) :=
  ⟨rfl, rfl, rfl, by simp [World.setCell], fun k hk hne => Below.heap_setCell w ⟨g, j, none⟩ u k (fun e => hne (by rw [e]))⟩

theorem next_any (g : Nat) (A : Option Addr) (l c i B : Nat) (n : Int) (w : World) (hs : Src w g A l c i) (hi : i ≤ l) (hl : l ≤ 9223372036854775807) (hI : Ints w B A l) (hgB : B ≤ g) (hn : 1 ≤ n) (hn2 : n ≤ 9223372036854775807) :
    Calls Try.prog 50 #[.pointer (some ⟨g, 0, none⟩), .int .i64 n] w (NextPost n g A l c w) := by
  have k0 := hs.cell0
  have k1 := hs.cell1
  have HS := Lib.hid hs
  by_cases hlt : i < l
  · obtain ⟨ad, z, rfl, hb, hz, z1, z2⟩ := hI i hlt
    have hr := pick_range z n hn
    have dl : decide ((l : Int) ≤ (i : Int)) = false := by simp; omega
    clear hI hs
    go_enter Try.func50, Try.ntmps50
    go_wp2
    go_quiet (fail)
    rename_i nq
    have HS2 := Lib.hid (HS.out.drewN nq)
    have f1 := HS2.out.free 1
    have g0 : w.grownBy (w.drewN nq) (some g) := only_draws (World.grownBy.refl w _) nq
    have HG := Lib.hid g0
    have kz : (w.drewN nq).cell? (ad.add i) = some (.int .i64 z) := hz
    have k0' : (w.drewN nq).cell? ⟨g, 0, none⟩ = some (.slice (some ad) l c) := k0
    have k1' : (w.drewN nq).cell? ⟨g, 1, none⟩ = some (.int .i64 i) := k1
    clear g0 hz k0 k1
    generalize w.drewN nq = wq at *
    go_upto_region 4 with fail
    have HS3 : Hid (Src (wq.setCell ⟨g, 1, none⟩ (.int .i64 ((i : Int) + 1))) g (some ad) l c (i + 1)) := by
      have := HS2.out.put (i + 1)
      rwa [show ((i + 1 : Nat) : Int) = (i : Int) + 1 from by omega] at this
    have m0 := HS3.out.cell0
    have m1 := HS3.out.cell1
    have mz : (wq.setCell ⟨g, 1, none⟩ (.int .i64 ((i : Int) + 1))).cell? (ad.add i) = some (.int .i64 z) := by
      rw [World.cell?_setCell_other _ _ _ _ (fun e => by
        have : (ad.add i).block = g := by rw [← e]
        rw [Mem.block_add] at this; omega)]
      exact kz
    have HG2 : Hid (w.grownBy (wq.setCell ⟨g, 1, none⟩ (.int .i64 ((i : Int) + 1))) (some g)) :=
      ⟨HG.out.os, HG.out.tape, HG.out.output, Nat.le_trans HG.out.size (by simp [World.setCell]), fun k hk hne => (Below.heap_setCell wq ⟨g, 1, none⟩ _ k (fun e => hne (by rw [e]))).trans (HG.out.block k hk hne)⟩
    clear k0' k1' kz f1
    generalize wq.setCell ⟨g, 1, none⟩ (.int .i64 ((i : Int) + 1)) = wp at *
    have i0 : (0 : Int) ≤ (i : Int) := by omega
    have i1 : (i : Int) < (l : Int) := by omega
    have s1 : IntKind.i64.wrap ((i : Int) + 1 - 1) = (i : Int) := by rw [show (i : Int) + 1 - 1 = (i : Int) from by omega]; exact IntWalk.i64_in _ (by omega)
    have c1 : ((i + 1 : Nat) : Int) = (i : Int) + 1 := by omega
    rw [c1] at m1
    clear c1
    go_quiet ((go_at_call 27; exact quiet_same (pick_any _ _ _ (by omega) (by omega) (by omega) (by omega))))
    clear s1
    go_wp2
    go_ret
    exact ⟨pick z n, i + 1, hr.1, hr.2, rfl, by omega, HS3.out, only_draws HG2.out _⟩
  · have dl : decide ((l : Int) ≤ (i : Int)) = true := by simp; omega
    clear hI hs
    go_enter Try.func50, Try.ntmps50
    go_wp2
    go_quiet (fail)
    go_wp2
    go_ret
    exact ⟨0, i, Int.le_refl _, by omega, rfl, hi, HS.out, only_draws (World.grownBy.refl w _) _⟩

theorem from_any (A : Option Addr) (l c : Nat) (w : World) :
    Calls Try.prog 49 #[.slice A l c] w fun e w' => e = .returned (.pointer (some ⟨w.heap.size, 0, none⟩)) ∧ w' = w.alloc (.cells #[.slice A l c, .int .i64 0] 67) := by
  go_enter Try.func49, Try.ntmps49
  go_wp2
  go_ret
  exact ⟨rfl, rfl⟩

def GenPost (t : Int) (w : World) (e : Ending) (w' : World) : Prop :=
  ∃ A n c L, e = .returned (.slice A n c) ∧ Own w' w.heap.size (.slice A n c) n L ∧ vl t L = true ∧ Below w.heap.size w w'

theorem own_src {w : World} {g l cl i n c B : Nat} {A A2 : Option Addr} {L : List Sp} (h : Own w B (.slice A n c) n L) (hs : Src w g A2 l cl i) : (Value.slice A n c).ownBlock ≠ some g := by
  intro e
  rcases h.2.2 with ⟨e2, _⟩ | ⟨g', cap, cur, e2, _, hh, _⟩
  · rw [e2] at e; simp [Value.ownBlock] at e
  · rw [e2] at e
    have : g' = g := by simpa [Value.ownBlock] using e
    subst this
    unfold Src at hs
    rw [hs] at hh
    simp at hh
theorem own_only {w w' : World} {g B n c : Nat} {A : Option Addr} {L : List Sp} (h : Own w B (.slice A n c) n L) (hg : w.grownBy w' (some g)) (hne : (Value.slice A n c).ownBlock ≠ some g) : Own w' B (.slice A n c) n L :=
  ⟨h.1, h.2.kept hg (.inr hne)⟩
theorem below_only {a w w' : World} {g B : Nat} (h : Below B a w) (hg : w.grownBy w' (some g)) (hB : B ≤ w.heap.size) (hg2 : B ≤ g) : Below B a w' := h.grown hg hB (fun k hk => by injection hk with hk; omega)

theorem set_any (t : Nat) (A : Option Addr) (l c : Nat) (w : World) (ht0 : 1 ≤ t) (ht : t ≤ 7200) (hI : Ints w w.heap.size A l) (hl : l ≤ 9223372036854775807) :
    Calls Try.prog 25 #[.int .i64 (t : Int), .slice A l c] w (GenPost t w) := by
  have HI := Lib.hid hI
  clear hI
  go_enter Try.func25, Try.ntmps25
  go_wp2_with fail
  refine (from_any A l c w).mono ?_
  rintro e w1 ⟨rfl, rfl⟩
  have hs : Src (w.alloc (.cells #[.slice A l c, .int .i64 0] 67)) w.heap.size A l c 0 := by
    exact heap_alloc_new w _
  have hb : Below w.heap.size w (w.alloc (.cells #[.slice A l c, .int .i64 0] 67)) := (Below.refl _ _).alloc (Nat.le_refl _) _
  have hz : w.heap.size + 1 ≤ (w.alloc (.cells #[.slice A l c, .int .i64 0] 67)).heap.size := by simp
  generalize w.alloc (.cells #[.slice A l c, .int .i64 0] 67) = w1 at *
  go_wp2_with fail
  refine (next_any w.heap.size A l c 0 w.heap.size 5 _ hs (by omega) hl (HI.out.below hb) (Nat.le_refl _) (by omega) (by omega)).mono ?_
  rintro e w2 ⟨r, i, hr0, hr1, rfl, hi, hs2, hg2⟩
  have hb2 := below_only hb hg2 (by omega) (Nat.le_refl _)
  have hz2 : w.heap.size + 1 ≤ w2.heap.size := Nat.le_trans hz hg2.size
  clear hs hg2 hb hz
  go_wp2_with fail
  go_loopw [6, 7] (fun o k wr => ∃ (m i n cc : Nat) (Ao : Option Addr) (L : List Sp), k = .int .i64 m ∧ o = .slice Ao n cc ∧ m ≤ 5 ∧ i ≤ l ∧ Src wr w.heap.size A l c i ∧ Own wr w.heap.size (.slice Ao n cc) n L ∧ Hid (vl t L = true) ∧ w.heap.size + 1 ≤ wr.heap.size ∧ Below w.heap.size w wr) (fun _ k _ => (intOf k).toNat)
  case atStart =>
    refine ⟨r.toNat, i, 0, 0, none, [], by rw [Int.toNat_of_nonneg hr0], rfl, by omega, hi, hs2, Own.nil _ _, ?_, hz2, hb2⟩
    have : vp (t : Int) = true := (vp_iff t).2 ⟨by omega, by omega⟩
    simp [Hid, vl, this, vf]
  case round =>
    obtain ⟨m, i, n, cc, Ao, L, rfl, rfl, hm, hi, hs, hO, hV, hz, hbr⟩ := hrel
    by_cases hm0 : m = 0
    · subst hm0
      go_wp2
      go_ret
      exact ⟨Ao, n, cc, L, rfl, hO, hV.out, hbr⟩
    · obtain ⟨q, rfl⟩ : ∃ q, m = q + 1 := ⟨m - 1, by omega⟩
      have HO := Lib.hid hO
      have HS := Lib.hid hs
      clear hO hs
      go_wp2_with fail
      refine (next_any w.heap.size A l c i w.heap.size t _ HS.out hi hl (HI.out.below hbr) (Nat.le_refl _) (by omega) (by omega)).mono ?_
      rintro e w3 ⟨r1, i1, hr0, hr1, rfl, hi1, hs3, hg3⟩
      have hO3 := Lib.hid (own_only HO.out hg3 (own_src HO.out HS.out))
      have hb3 := below_only hbr hg3 (by omega) (Nat.le_refl _)
      have hz3 : w.heap.size + 1 ≤ w3.heap.size := Nat.le_trans hz hg3.size
      have HS3 := Lib.hid hs3
      clear hs3 hg3
      go_wp2_with fail
      refine (next_any w.heap.size A l c i1 w.heap.size _ _ HS3.out hi1 hl (HI.out.below hb3) (Nat.le_refl _) (by omega) (by omega)).mono ?_
      rintro e w4 ⟨r2, i2, hr2, hr3, rfl, hi2, hs4, hg4⟩
      have hO4 := Lib.hid (own_only hO3.out hg4 (own_src hO3.out HS3.out))
      have hb4 := below_only hb3 hg4 (by omega) (Nat.le_refl _)
      have hz4 : w.heap.size + 1 ≤ w4.heap.size := Nat.le_trans hz3 hg4.size
      have HS4 := Lib.hid hs4
      clear hs4 hg4
      go_wp2_with fail
      refine (makeref_yes t r1 r2 w4 ht0 ht (by omega) (by omega) (by omega) (by omega)).mono ?_
      rintro e w5 ⟨A5, n5, c5, rfl, L5, hO5, hv5, _, hb5⟩
      have hS5 := hO5.spans
      have hO6 := Lib.hid (hO4.out.below hb5 (Nat.le_refl _))
      have HS5 := Lib.hid (HS4.out.below hb5 (by omega))
      have hb6 := hb4.trans (hb5.mono (by omega))
      have hz6 : w.heap.size + 1 ≤ w5.heap.size := Nat.le_trans hz4 hb5.size
      have hn5 : n5 ≤ 9223372036854775807 := by
        have h1 := vf_len L5 0 t hv5 (by omega)
        rw [hO5.1] at h1
        omega
      have hvp : vp (t : Int) = true := (vp_iff t).2 ⟨by omega, by omega⟩
      have hn6 : n ≤ 9223372036854775807 := by
        have hv := hV.out
        have hv' : vf 0 t L = true := by simp only [vl, Bool.and_eq_true] at hv; exact hv.2
        have h1 := vf_len L 0 t hv' (by omega)
        rw [HO.out.1] at h1
        omega
      have hv5' : Hid (vl t L5 = true) := by simp [Hid, vl, hvp, hv5]
      clear hO5 hv5 hb5 hvp
      have HS5s := Lib.hid hS5
      clear hS5
      go_wp2_with fail
      refine (unionref_yes t Ao n cc L A5 n5 c5 L5 w5 ht0 ht hO6.out.spans hn6 HS5s.out hn5 hV.out hv5'.out).mono ?_
      rintro e w7 ⟨A7, n7, c7, rfl, L7, hO7, hv7, _, hb7⟩
      have hO8 := hO7.base_ (show w.heap.size ≤ w5.heap.size by omega)
      have HS7 := HS5.out.below hb7 (by omega)
      have hb8 := hb6.trans (hb7.mono (by omega))
      have hz8 : w.heap.size + 1 ≤ w7.heap.size := Nat.le_trans hz6 hb7.size
      have hv8 : Hid (vl t L7 = true) := by
        have : vp (t : Int) = true := (vp_iff t).2 ⟨by omega, by omega⟩
        simp [Hid, vl, this, hv7]
      clear hO7 hv7 hb7
      go_wp2_with fail
      go_roundw
      case rel => exact ⟨q, i2, n7, c7, A7, L7, by go_num, rfl, by omega, hi2, HS7, hO8, hv8, hz8, hb8⟩
      case measure => simp [intOf]

end Go.Proofs.Ytapflikdoiedeaa.Source
