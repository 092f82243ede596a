/-
  Contract of the program's function that adds a name to the stations or to the points.
-/
import Derived.Test.YtdcbaedhgoipjaaTxt
import Derived.Deep.RegionHeld3
import Derived.Deep.RegionLaw
import Derived.Deep.AppendLies
namespace Go.Proofs.Ytdcbaedhgoipjaa.App
open Go.ChangeShapes Go.WideShapes Go.ChangeAt Go.RowKit Wd Small Mem Lay LayT Recs Keep Names PNames PSecs PEnds RNames Txt
set_option linter.unusedVariables false

theorem frozen_same {w w' : World} {p : Addr} (h : w'.heap[p.block]? = w.heap[p.block]?) : w'.frozen? p = w.frozen? p := by
  unfold World.frozen?
  rw [h]
theorem cell_same {w w' : World} {p : Addr} (h : w'.heap[p.block]? = w.heap[p.block]?) : w'.cell? p = w.cell? p := by
  unfold World.cell?
  rw [h]
/-- the operands of a line: names that lie behind block g -/
def Opn (w : World) (g : Nat) (A : Option Addr) (n : Nat) (O : List Bs) : Prop := Recs.Rd sR w w.heap.size A n O ∧ ∀ ad, A = some ad → g < ad.block
/-- what a call leaves that has put a name behind the list of cell j of block g -/
def AppPost (g j m k base n c : Nat) (A : Option Addr) (L : List Bs) (s : Bs) (w : World) (e : Ending) (w' : World) : Prop :=
  ∃ A' c' wn, e = .returned (.int .i64 0) ∧ Nums wn m (k + 1) (L ++ [s]) ∧ Recs.Own sR wn base (.slice A' (n + 1) c') (n + 1) (L ++ [s]) ∧
    (∀ b, (Value.slice A' (n + 1) c').ownBlock = some b → (Value.slice A n c).ownBlock = some b ∨ w.heap.size ≤ b) ∧
    (∃ wm, w.grownBy wm (some m) ∧ wm.grownBy wn (Value.slice A n c).ownBlock) ∧ w' = wn.setCell ⟨g, j, none⟩ (.slice A' (n + 1) c')

set_option maxRecDepth 100000 in
theorem append_no (g j m n c : Nat) (B : Option Addr) (p q : Nat) (w : World) (hp : p ≠ 1) (hp2 : p ≤ 100) :
    Calls Try.prog 42 #[.pointer (some ⟨g, j, none⟩), .map (some m), .slice B p q] w (ErrPost 2 w) := by
  have h : ((p : Int) != 1) = true := by rw [bne_iff_ne]; omega
  go_enter Try.func42, Try.ntmps42
  go_wp2_with fail
  go_ret
  exact ⟨rfl, Below.refl _ _⟩

set_option maxRecDepth 100000 in
set_option maxHeartbeats 2000000 in
theorem append_one (g j m k base n c : Nat) (A : Option Addr) (L : List Bs) (B : Option Addr) (q : Nat) (s : Bs) (w : World) (hc : w.cell? ⟨g, j, none⟩ = some (.slice A n c)) (hf : w.frozen? ⟨g, j, none⟩ = false)
    (hO : Recs.Own sR w base (.slice A n c) n L) (hN : Nums w m k L) (hP : Opn w g B 1 [s]) (hg : g < base) (hmg : m < g) (hbase : base ≤ w.heap.size) (hk : k ≤ 100000) (hn : n ≤ k) (hs : s.length ≤ 65537) :
    Calls Try.prog 42 #[.pointer (some ⟨g, j, none⟩), .map (some m), .slice B 1 q] w (AppPost g j m k base n c A L s w) := by
  obtain ⟨ih, hih, hz0, hz1, hz2⟩ := info_parts infoS
  obtain ⟨ad, t, rfl, hab, ht, x0⟩ := loadS hP.1 (show 0 < 1 by omega)
  obtain rfl : s = t := by simpa using ht
  have hadg := hP.2 ad rfl
  have hgw : g < w.heap.size := by omega
  have x0' : w.cell? ad = some (.string (str s)) := x0
  have KA : Hid (∀ w', Below w.heap.size w w' → w'.cell? ⟨g, j, none⟩ = some (.slice A n c) ∧ w'.cell? ad = some (.string (str s))) := fun w' hb => ⟨(hb.cell (p := ⟨g, j, none⟩) hgw).trans hc, (hb.cell hab).trans x0'⟩
  have KB : Hid (∀ w', w.drew.grownBy w' (some m) → w'.cell? ⟨g, j, none⟩ = some (.slice A n c) ∧ w'.cell? ad = some (.string (str s))) := fun w' hb =>
    ⟨(grown_cell (p := ⟨g, j, none⟩) hb hgw (by simp; omega)).trans hc, (grown_cell hb hab (by simp; omega)).trans x0'⟩
  have HOL : Hid (∀ wq, w.drew.grownBy wq (some m) → Recs.Own sR wq base (.slice A n c) n L) := fun wq hq => Recs.Own.grown (w := w.drew) (hO.drewN 1) hq (by
    cases hv : (Value.slice A n c).ownBlock with
    | none => exact .inl rfl
    | some b => exact .inr (fun e => by have := (hO.2.lt b hv).1; injection e; omega))
  have HGL : Hid (∀ b, (Value.slice A n c).ownBlock = some b → base ≤ b ∧ b < w.heap.size) := fun b hb => hO.2.lt b hb
  have hD0 := fun wx (h : Nums wx m k L) => declare_any m k L s wx h (by omega) (by omega) (by have := hO.1; omega)
  rw [hO.1] at hD0
  have HD := Lib.hid hD0
  have HN := Lib.hid hN
  have HF := Lib.hid hf
  have hn63 : n + 1 ≤ maxLen := by unfold maxLen; omega
  have hby : (n + 1) * 16 ≤ 140737488355328 := by omega
  clear hc hf hO hN hP x0 ht hD0
  go_enter Try.func42, Try.ntmps42
  go_upto_region 3 with fail
  have hb0 := Below.refl w.heap.size w
  go_region_held3 (fun w' => w'.cell? ⟨g, j, none⟩ = some (.slice A n c) ∧ w'.cell? ad = some (.string (str s)))
    (first | exact KA.out _ hb0.drew | exact KB.out _ hgq)
    ((go_at_call 72; refine (HD.out w.drew HN.out).mono ?_; rintro e wq ⟨rfl, hNq, hgq⟩))
  obtain ⟨hcq, hxq⟩ := KB.out _ hgq
  have hzq := hgq.size
  have hzq' : w.heap.size ≤ wq.heap.size := hzq
  have hfq : wq.frozen? ⟨g, j, none⟩ = false := (frozen_same (p := ⟨g, j, none⟩) (hgq.block g hgw (by simp; omega))).trans HF.out
  have HOq := Lib.hid (HOL.out _ hgq)
  have HNq := Lib.hid hNq
  have HGq := Lib.hid hgq
  have hgwq : g < wq.heap.size := by omega
  clear hgq hNq hzq HD KA KB HOL hb0
  go_upto_region 4 with fail
  have HCQ := Lib.hid hcq
  have HFQ := Lib.hid hfq
  go_region_law (refine step_append_lies _ (by rfl) _ _ _ (by rfl) base 9 ih _ 1 16 Try.underlying22 hih hz0 hz1 hz2 rfl (by omega) (.slice A n c) n (sR.cs L) (by rfl) (HOq.out.2.alloc _) ⟨wq.heap.size, 0, none⟩ 1 1 [.string (str s)] (by rfl) (by rfl) (World.news_of_block (cs := #[.string (str s)]) (t := 9) (fr := (0, 0)) (heap_alloc_new wq _)) (by simp [Value.oneCell']) (by omega) hn63 hby (by simp; omega) (wq.heap.size + 1) (by simp) ?_; intro gg cap w7 hown7 hgrow7 hat7 hlt7; have hg7 : w7.heap[g]? = wq.heap[g]? := (hgrow7.block g (by simp; omega) (fun e => by have := HGL.out _ e.symm; omega)).trans (((Below.refl wq.heap.size wq).alloc (Nat.le_refl _) _).block g (by omega)); have k7 := (cell_same (p := ⟨g, j, none⟩) hg7).trans HCQ.out; have f7 := (frozen_same (p := ⟨g, j, none⟩) hg7).trans HFQ.out)
  all_goals
    have HO7 := Lib.hid (Recs.Own.push (R := sR) (a := s) HOq.out.1 hown7)
    have HN7 := Lib.hid (Nums.kept (w := (wq.alloc (.cells #[.string (str s)] 9)).drew) (HNq.out.alloc (.cells #[.string (str s)] 9)) hgrow7 (by
      intro e
      have := HGL.out _ e.symm
      omega))
    have HT7 : Hid (∃ wm, w.grownBy wm (some m) ∧ wm.grownBy w7 (Value.slice A n c).ownBlock) := ⟨wq, ⟨HGq.out.os, HGq.out.tape, HGq.out.output, HGq.out.size, HGq.out.block⟩, (grown_drew (World.grownBy_alloc wq _ _)).trans hgrow7⟩
    have HA7 : Hid (∀ b, (Value.slice (some ⟨gg, 0, none⟩) (n + 1) cap).ownBlock = some b → (Value.slice A n c).ownBlock = some b ∨ w.heap.size ≤ b) := fun b hb => by
      have hb' : gg = b := by simpa [Value.ownBlock] using hb
      subst hb'
      rcases hat7 with h | h
      · exact .inl h
      · exact .inr (by omega)
    clear hown7 hgrow7 hat7 hlt7 hg7
    go_wp2_with fail
    go_ret
    exact ⟨_, _, w7, rfl, HN7.out, HO7.out, HA7.out, HT7.out, rfl⟩
end Go.Proofs.Ytdcbaedhgoipjaa.App
