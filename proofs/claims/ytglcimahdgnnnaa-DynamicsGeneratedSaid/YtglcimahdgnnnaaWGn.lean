/-
  Walk of the statement that compares all answers for made cells and stocks.
-/
import Derived.Test.YtglcimahdgnnnaaWAg
namespace Go.Proofs.Ytglcimahdgnnnaa.WGn
open Go.ChangeShapes Go.WideShapes Go.ChangeAt Go.RowKit Dyn Mem Src PSm PChk PLim PPer PSpd PTim RSm RLim RSpd RTim Mak Eq6 LawF WEx WAg
set_option linter.unusedVariables false

set_option maxRecDepth 100000 in
set_option maxHeartbeats 8000000 in
theorem generated (A0 : Option Addr) (n0 c0 : Nat) (hn0 : n0 ≤ c0) (hc0 : c0 ≤ 9223372036854775807) (A1 : Option Addr) (n1 c1 : Nat) (hn1 : n1 ≤ c1) (hc1 : c1 ≤ 9223372036854775807) (a2 : Int) (w2 : (Lit.int .i64 a2).wf = true) (w : World)
    (hB0 : Src.Ints w w.heap.size A0 n0) (hB1 : Src.Ints w w.heap.size A1 n1) : Calls Try.prog 5 #[.slice A0 n0 c0, .slice A1 n1 c1, .int .i64 a2] w (Yes w) := by
  have b2 := bounds_i64 w2
  have HCE := Lib.hid (cells_any A0 n0 c0 w hB0 (by omega))
  have HST := Lib.hid (fun w' (hb : Below w.heap.size w w') => stock_any A1 n1 c1 w' (fun j hj => by obtain ⟨ad, z, e, h1, h2⟩ := hB1.below hb j hj; exact ⟨ad, z, e, Nat.lt_of_lt_of_le h1 hb.size, h2⟩) (by omega))
  clear hB0 hB1
  go_enter Try.func5, Try.ntmps5
  go_upto_region 2 with (first
    | (go_at_call 20; (with_reducible refine (HCE.out).mono ?_); rintro e wc ⟨A, n, c, L, rfl, hO, hm, hnc, hcb, hbc⟩)
    | (go_at_call 21; (with_reducible refine (HST.out _ hbc).mono ?_); rintro e ws ⟨s, rfl, hs, hbs⟩; have HG := Lib.hid (gn_start hO hm hnc hcb hbc hs hbs); obtain ⟨len, spd, ac, bk⟩ := s; simp only [stk]))
  obtain ⟨W, hW⟩ : ∃ W, ws.alloc (.cells #[.string xX, .int .i64 len, .int .i64 spd, .int .i64 ac, .int .i64 bk] 23) = W := ⟨_, rfl⟩
  rw [hW] at HG ⊢
  generalize ws.heap.size = b at *
  clear hW hO hbc hbs hm HCE HST hnc hcb
  have hmd := HG.out.made
  have hn56 : n ≤ 56 := hmd.2.2
  have pr := pick_range a2 ((n : Int) + 2) (by omega)
  have HPK := Lib.hid (fun w => pick_any a2 ((n : Int) + 2) w (by omega) (by omega) (by omega) (by omega))
  have HAG : Hid (∀ w' : World, Below W.heap.size W w' → Calls Try.prog 19 #[.slice A n c, .int .i64 (pick a2 ((n : Int) + 2) - 1), .agg #[.string xX, .int .i64 len, .int .i64 spd, .int .i64 ac, .int .i64 bk]] w' (BoolPost true w')) :=
    fun w' hb => agrees A n c L _ xX ⟨len, spd, ac, bk⟩ w' ((HG.out.keep hb).any (by omega) _)
  have HCK : Hid (∀ w' : World, Calls Try.prog 18 #[.agg #[.string xX, .int .i64 len, .int .i64 spd, .int .i64 ac, .int .i64 bk]] w' (BoolPost true w')) := fun w' => by
    have h := p_check xX ⟨len, spd, ac, bk⟩ w'
    rw [HG.out.stk.1] at h
    exact h
  have HX := Lib.hid (fun w' (hb : Below W.heap.size W w') => (HG.out.keep hb).box.cells)
  simp only at HX
  have HBW := Lib.hid HG.out.below
  generalize pick a2 ((n : Int) + 2) = r at *
  have s0 : IntKind.i64.wrap (r - 1) = r - 1 := IntWalk.i64_in _ (by omega)
  have s1 : IntKind.i64.wrap ((n : Int) + 2) = (n : Int) + 2 := IntWalk.i64_in _ (by omega)
  clear hmd HG
  have h0 := Below.refl W.heap.size W
  go_region_held3 (fun w' => (w'.cell? ⟨b, 0, none⟩ = some (.string xX) ∧ w'.cell? ⟨b, 1, none⟩ = some (.int .i64 len) ∧ w'.cell? ⟨b, 2, none⟩ = some (.int .i64 spd) ∧ w'.cell? ⟨b, 3, none⟩ = some (.int .i64 ac) ∧ w'.cell? ⟨b, 4, none⟩ = some (.int .i64 bk)))
    (first | exact HX.out _ h0.drew | exact HX.out _ (h0.drew.trans h1) | exact HX.out _ ((h0.drew.trans h1).trans h2))
    ((first
      | (go_at_call 22; (with_reducible refine (HPK.out _).mono ?_); rintro e w1 ⟨rfl, rfl⟩)
      | (go_at_call 19; (with_reducible refine (HAG.out _ h0.drew).mono ?_); rintro e w1 ⟨rfl, q1⟩; have h1 := Below.mono q1 h0.drew.size)
      | (go_at_call 18; (with_reducible refine (HCK.out _).mono ?_); rintro e w2 ⟨rfl, q2⟩; have h2 := Below.mono q2 (h0.drew.trans h1).size)))
  all_goals
    have HBF := Lib.hid (HBW.out.trans (((h0.drew.trans h1).trans h2).mono HBW.out.size))
    clear h0 h1 h2 q1 q2 HX HBW HCK HAG HPK
    go_wp2
    go_ret
    exact ⟨rfl, HBF.out⟩
end Go.Proofs.Ytglcimahdgnnnaa.WGn
