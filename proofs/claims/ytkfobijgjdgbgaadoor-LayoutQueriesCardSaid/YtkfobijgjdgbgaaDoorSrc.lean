/-
  Contracts of the source of choices.
-/
import Derived.Test.YtkfobijgjdgbgaaDoorRFree
import Derived.Test.YtkfobijgjdgbgaaDoorDec
import Derived.Deep.DeepCutAuto
namespace Go.Proofs.YtkfobijgjdgbgaaDoor.Src
open Go.ChangeShapes Go.WideShapes Go.ChangeAt Go.RowKit Wd Small Mem Dec PNames PSecs PEnds
set_option linter.unusedVariables false

/-- n integers lie at A, below block B -/
def Ints (w : World) (B : Nat) (A : Option Addr) (n : Nat) : Prop :=
  ∀ j, j < n → ∃ ad z, A = some ad ∧ ad.block < B ∧ w.cell? (ad.add j) = some (.int .i64 z) ∧ -9223372036854775808 ≤ z ∧ z ≤ 9223372036854775807
theorem Ints.keep {w w' : World} {B n : Nat} {A : Option Addr} (h : Ints w B A n) (hk : ∀ p : Addr, p.block < B → w'.cell? p = w.cell? p) : Ints w' B A n := fun j hj => by
  obtain ⟨ad, z, e, hb, hc, h1, h2⟩ := h j hj
  exact ⟨ad, z, e, hb, (hk _ (by rw [Mem.block_add]; exact hb)).trans hc, h1, h2⟩
theorem Ints.below {w w' : World} {B n : Nat} {A : Option Addr} (h : Ints w B A n) (hb : Below B w w') : Ints w' B A n := h.keep fun _ hp => hb.cell hp

/-- block g is a source that has used up i choices of the n at A -/
def Src (w : World) (g : Nat) (A : Option Addr) (n c i : Nat) : Prop := w.heap[g]? = some (.cells #[.slice A n c, .int .i64 i] 104 (0, 0))
theorem Src.lt {w : World} {g n c i : Nat} {A : Option Addr} (h : Src w g A n c i) : g < w.heap.size := lt_of_block h
theorem Src.cell0 {w : World} {g n c i : Nat} {A : Option Addr} (h : Src w g A n c i) : w.cell? ⟨g, 0, none⟩ = some (.slice A n c) := by
  unfold Src at h; simp [World.cell?, h]
theorem Src.cell1 {w : World} {g n c i : Nat} {A : Option Addr} (h : Src w g A n c i) : w.cell? ⟨g, 1, none⟩ = some (.int .i64 i) := by
  unfold Src at h; simp [World.cell?, h]
theorem Src.free {w : World} {g n c i : Nat} {A : Option Addr} (h : Src w g A n c i) (j : Nat) : w.frozen? ⟨g, j, none⟩ = false := by
  unfold Src at h; simp [World.frozen?, h]
theorem Src.put {w : World} {g n c i : Nat} {A : Option Addr} (h : Src w g A n c i) (k : Nat) : Src (w.setCell ⟨g, 1, none⟩ (.int .i64 k)) g A n c k := by
  unfold Src at h ⊢
  simp [World.setCell, Array.getElem?_modify, h]
theorem Src.drewN {w : World} {g n c i : Nat} {A : Option Addr} (h : Src w g A n c i) (k : Nat) : Src (w.drewN k) g A n c i := h
theorem Src.below {w w' : World} {g n c i B : Nat} {A : Option Addr} (h : Src w g A n c i) (hb : Below B w w') (hg : g < B) : Src w' g A n c i := (hb.block g hg).trans h

def NextPost (n : Int) (g : Nat) (A : Option Addr) (l c : Nat) (w : World) (e : Ending) (w' : World) : Prop :=
  ∃ (r : Int) (i : Nat), 0 ≤ r ∧ r < n ∧ e = .returned (.int .i64 r) ∧ i ≤ l ∧ Src w' g A l c i ∧ w.grownBy w' (some g)

theorem quiet_same {P : Program} {f : FuncId} {args : Array Value} {w : World} {n : Nat} {v : Value} (h : Calls P f args (w.drewN n) fun e w' => e = .returned v ∧ w.drewN n = w') :
    Calls P f args (w.drewN n) fun e w' => e = .returned v ∧ ∃ m, w' = w.drewN m := h.mono fun _ _ ⟨he, hm⟩ => ⟨he, n, hm.symm⟩

theorem only_draws {a w : World} {row : Option Nat} (h : a.grownBy w row) (n : Nat) : a.grownBy (w.drewN n) row := ⟨h.os, h.tape, h.output, h.size, h.block⟩
theorem only_set {w : World} {g j : Nat} (u : Value) : w.grownBy (w.setCell ⟨g, j, none⟩ u) (some g) :=
  ⟨rfl, rfl, rfl, by simp [World.setCell], fun k hk hne => Below.heap_setCell w ⟨g, j, none⟩ u k (fun e => hne (by rw [e]))⟩

theorem next_any (g : Nat) (A : Option Addr) (l c i B : Nat) (n : Int) (w : World) (hs : Src w g A l c i) (hi : i ≤ l) (hl : l ≤ 9223372036854775807) (hI : Ints w B A l) (hgB : B ≤ g) (hn : 1 ≤ n) (hn2 : n ≤ 9223372036854775807) :
    Calls Tryd.prog 55 #[.pointer (some ⟨g, 0, none⟩), .int .i64 n] w (NextPost n g A l c w) := by
  have k0 := hs.cell0
  have k1 := hs.cell1
  have HS := Lib.hid hs
  by_cases hlt : i < l
  · obtain ⟨ad, z, rfl, hb, hz, z1, z2⟩ := hI i hlt
    have hr := pick_range z n hn
    have dl : decide ((l : Int) ≤ (i : Int)) = false := by simp; omega
    clear hI hs
    go_enter Tryd.func55, Tryd.ntmps55
    go_wp2
    go_quiet (fail)
    rename_i nq
    have HS2 := Lib.hid (HS.out.drewN nq)
    have f1 := HS2.out.free 1
    have g0 : w.grownBy (w.drewN nq) (some g) := only_draws (World.grownBy.refl w _) nq
    have HG := Lib.hid g0
    have kz : (w.drewN nq).cell? (ad.add i) = some (.int .i64 z) := hz
    have k0' : (w.drewN nq).cell? ⟨g, 0, none⟩ = some (.slice (some ad) l c) := k0
    have k1' : (w.drewN nq).cell? ⟨g, 1, none⟩ = some (.int .i64 i) := k1
    clear g0 hz k0 k1
    generalize w.drewN nq = wq at *
    go_upto_region 4 with fail
    have HS3 : Hid (Src (wq.setCell ⟨g, 1, none⟩ (.int .i64 ((i : Int) + 1))) g (some ad) l c (i + 1)) := by
      have := HS2.out.put (i + 1)
      rwa [show ((i + 1 : Nat) : Int) = (i : Int) + 1 from by omega] at this
    have m0 := HS3.out.cell0
    have m1 := HS3.out.cell1
    have mz : (wq.setCell ⟨g, 1, none⟩ (.int .i64 ((i : Int) + 1))).cell? (ad.add i) = some (.int .i64 z) := by
      rw [World.cell?_setCell_other _ _ _ _ (fun e => by
        have : (ad.add i).block = g := by rw [← e]
        rw [Mem.block_add] at this; omega)]
      exact kz
    have HG2 : Hid (w.grownBy (wq.setCell ⟨g, 1, none⟩ (.int .i64 ((i : Int) + 1))) (some g)) :=
      ⟨HG.out.os, HG.out.tape, HG.out.output, Nat.le_trans HG.out.size (by simp [World.setCell]), fun k hk hne => (Below.heap_setCell wq ⟨g, 1, none⟩ _ k (fun e => hne (by rw [e]))).trans (HG.out.block k hk hne)⟩
    clear k0' k1' kz f1
    generalize wq.setCell ⟨g, 1, none⟩ (.int .i64 ((i : Int) + 1)) = wp at *
    have i0 : (0 : Int) ≤ (i : Int) := by omega
    have i1 : (i : Int) < (l : Int) := by omega
    have s1 : IntKind.i64.wrap ((i : Int) + 1 - 1) = (i : Int) := by rw [show (i : Int) + 1 - 1 = (i : Int) from by omega]; exact IntWalk.i64_in _ (by omega)
    have c1 : ((i + 1 : Nat) : Int) = (i : Int) + 1 := by omega
    rw [c1] at m1
    clear c1
    go_quiet ((go_at_call 33; exact quiet_same (pick_any _ _ _ (by omega) (by omega) (by omega) (by omega))))
    clear s1
    go_wp2
    go_ret
    exact ⟨pick z n, i + 1, hr.1, hr.2, rfl, by omega, HS3.out, only_draws HG2.out _⟩
  · have dl : decide ((l : Int) ≤ (i : Int)) = true := by simp; omega
    clear hI hs
    go_enter Tryd.func55, Tryd.ntmps55
    go_wp2
    go_quiet (fail)
    go_wp2
    go_ret
    exact ⟨0, i, Int.le_refl _, by omega, rfl, hi, HS.out, only_draws (World.grownBy.refl w _) _⟩

theorem from_any (A : Option Addr) (l c : Nat) (w : World) :
    Calls Tryd.prog 28 #[.slice A l c] w fun e w' => e = .returned (.pointer (some ⟨w.heap.size, 0, none⟩)) ∧ w' = w.alloc (.cells #[.slice A l c, .int .i64 0] 104) := by
  go_enter Tryd.func28, Tryd.ntmps28
  go_wp2
  go_ret
  exact ⟨rfl, rfl⟩


end Go.Proofs.YtkfobijgjdgbgaaDoor.Src
