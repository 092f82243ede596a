/-
  Walk of the statement that a longer train is not earlier.
-/
import Derived.Test.YtglcimahdgnnnaaWAg
import Derived.Test.YtglcimahdgnnnaaMan
namespace Go.Proofs.Ytglcimahdgnnnaa.WLg
open Go.ChangeShapes Go.WideShapes Go.ChangeAt Go.RowKit Dyn Mem Src PSm PChk PLim PPer PSpd PTim RSm RLim RSpd RTim Mak Eq6 LawF WEx WAg Man
set_option linter.unusedVariables false

theorem cs_set_lim : ∀ (L : List Cel) (k : Nat) (z : Cel) (v : Int), L[k]? = some z → celR.cs (L.set k ⟨v, z.gr⟩) = (celR.cs L).set (k * 2) (.int .i64 v)
  | [], k, z, v, h => by simp at h
  | c :: L, 0, z, v, h => by
    simp at h
    subst h
    simp [Rec.cs, celR, celCells]
  | c :: L, k + 1, z, v, h => by
    have ih := cs_set_lim L k z v (by simpa using h)
    rw [show (k + 1) * 2 = k * 2 + 1 + 1 by omega]
    simp only [Rec.cs, List.set_cons_succ, List.flatMap_cons] at ih ⊢
    rw [ih]
    simp [celR, celCells]
theorem add_off (g j : Nat) : (⟨g, 0, none⟩ : Addr).add j = ⟨g, j, none⟩ := by
  unfold Addr.add
  by_cases h0 : j = 0
  · subst h0; rfl
  · simp [h0]
theorem put_lim {w : World} {base n c g k : Nat} {L : List Cel} {z : Cel} {v : Int} (h : Mem.Own celR w base (.slice (some ⟨g, 0, none⟩) n c) n L) (hz : L[k]? = some z) :
    Mem.Own celR (w.setCell ⟨g, k * 2, none⟩ (.int .i64 v)) base (.slice (some ⟨g, 0, none⟩) n c) n (L.set k ⟨v, z.gr⟩) := by
  refine ⟨by simpa using h.1, ?_⟩
  rw [cs_set_lim L k z v hz]
  exact (h.2.stored _ _).1
theorem rd_news {w : World} {B n : Nat} {ad : Addr} {L : List Cel} (h : Rd celR w B (some ad) n L) : ∀ (j : Nat) (u : Value), (celR.cs L)[j]? = some u → w.cell? (ad.add j) = some u := fun j u hu => by
  obtain ⟨ad', e, _, hc⟩ := h.2 j u hu
  cases e
  exact hc

set_option maxRecDepth 100000 in
set_option maxHeartbeats 16000000 in
theorem walkDynamicsLongerIsNotEarlier (A0 : Option Addr) (n0 c0 : Nat) (hn0 : n0 ≤ c0) (hc0 : c0 ≤ 9223372036854775807) (A1 : Option Addr) (n1 c1 : Nat) (hn1 : n1 ≤ c1) (hc1 : c1 ≤ 9223372036854775807) (a2 : Int) (w2 : (Lit.int .i64 a2).wf = true) (a3 : Int) (w3 : (Lit.int .i64 a3).wf = true) (a4 : Int) (w4 : (Lit.int .i64 a4).wf = true) (a5 : Int) (w5 : (Lit.int .i64 a5).wf = true) (w : World)
    (hB0 : Src.Ints w w.heap.size A0 n0) (hB1 : Src.Ints w w.heap.size A1 n1) : Calls Try.prog 10 #[.slice A0 n0 c0, .slice A1 n1 c1, .int .i64 a2, .int .i64 a3, .int .i64 a4, .int .i64 a5] w (Yes w) := by
  have b2 := bounds_i64 w2
  have b3 := bounds_i64 w3
  have b4 := bounds_i64 w4
  have b5 := bounds_i64 w5
  have HCE := Lib.hid (cells_any A0 n0 c0 w hB0 (by omega))
  have HST := Lib.hid (fun w' (hb : Below w.heap.size w w') => stock_any A1 n1 c1 w' (fun j hj => by obtain ⟨ad, z, e, h1, h2⟩ := hB1.below hb j hj; exact ⟨ad, z, e, Nat.lt_of_lt_of_le h1 hb.size, h2⟩) (by omega))
  clear hB0 hB1
  go_enter Try.func10, Try.ntmps10
  go_upto_region 2 with (first
    | (go_at_call 20; (with_reducible refine (HCE.out).mono ?_); rintro e wc ⟨A, n, c, L, rfl, hO, hm, hnc, hcb, hbc⟩)
    | (go_at_call 21; (with_reducible refine (HST.out _ hbc).mono ?_); rintro e ws ⟨s, rfl, hs, hbs⟩; have HG := Lib.hid (gn_start hO hm hnc hcb hbc hs hbs); obtain ⟨len, spd, ac, bk⟩ := s; simp only [stk]))
  obtain ⟨W, hW⟩ : ∃ W, ws.alloc (.cells #[.string xX, .int .i64 len, .int .i64 spd, .int .i64 ac, .int .i64 bk] 23) = W := ⟨_, rfl⟩
  rw [hW] at HG ⊢
  generalize ws.heap.size = b at *
  clear hW hO hbc hbs hm HCE HST hnc hcb
  have hmd := HG.out.made
  have hn56 : n ≤ 56 := hmd.2.2
  have hn1' : 1 ≤ n := hmd.2.1
  have HOK := Lib.hid HG.out.stk.1
  have HALL := Lib.hid hmd.1
  have HLL := Lib.hid HG.out.rd.1
  have HL4 := Lib.hid HG.out.stk.2
  have HCK : Hid (∀ w' : World, Calls Try.prog 18 #[.agg #[.string xX, .int .i64 len, .int .i64 spd, .int .i64 ac, .int .i64 bk]] w' (BoolPost true w')) := fun w' => by
    have h := p_check xX ⟨len, spd, ac, bk⟩ w'
    rw [HG.out.stk.1] at h
    exact h
  have HX := Lib.hid (fun w' (hb : Below W.heap.size W w') => (HG.out.keep hb).box.cells)
  simp only at HX
  have HBW := Lib.hid HG.out.below
  have HBX := Lib.hid HG.out.box
  have HRUN := Lib.hid (fun w' (hb : Below W.heap.size W w') (st : Nat) (hk : st + 2 ≤ n) => (HG.out.keep hb).run hk HG.out.stk.1)
  have h0 := Lib.hid (Below.refl W.heap.size W)
  clear hmd HG
  by_cases hlt : n < 2
  · have hlti : (n : Int) < 2 := by omega
    obtain ⟨x0, x1, x2, x3, x4⟩ := HX.out W h0.out
    go_wp2_with (go_at_call 18; (with_reducible refine (HCK.out _).mono ?_); rintro e w9 ⟨rfl, q9⟩)
    all_goals go_ret
    all_goals exact ⟨rfl, HBW.out.trans (q9.mono HBW.out.size)⟩
  have hlti : ¬ (n : Int) < 2 := by omega
  have pr := pick_range a2 ((n : Int) - 1) (by omega)
  obtain ⟨st, hst⟩ : ∃ st : Nat, pick a2 ((n : Int) - 1) = (st : Int) := ⟨(pick a2 ((n : Int) - 1)).toNat, by omega⟩
  have HPK := Lib.hid (fun w => pick_any a2 ((n : Int) - 1) w (by omega) (by omega) (by omega) (by omega))
  rw [hst] at HPK pr
  obtain ⟨m, hm⟩ : ∃ m, n = st + m := ⟨n - st, by omega⟩
  have hk2 : st + 2 ≤ n := by omega
  have hm2 : 2 ≤ m := by omega
  have HM := Lib.hid hm
  have hst56 : st ≤ 54 := by omega
  obtain ⟨x0, x1, x2, x3, x4⟩ := HX.out W h0.out
  clear hst
  obtain ⟨infC, hih, hzz0, hzz1, hzz2⟩ := info_parts infoC
  have pm := pick_range a3 10 (by omega)
  have HPM := Lib.hid (fun w => pick_any a3 10 w (by omega) (by omega) (by omega) (by omega))
  generalize pick a3 10 = p at *
  have pk := pick_range a4 (n : Int) (by omega)
  obtain ⟨k, hk⟩ : ∃ k : Nat, pick a4 (n : Int) = (k : Int) := ⟨(pick a4 (n : Int)).toNat, by omega⟩
  have HPA := Lib.hid (fun w => pick_any a4 (n : Int) w (by omega) (by omega) (by omega) (by omega))
  rw [hk] at HPA pk
  have pl := pick_range a5 20000 (by omega)
  have HPB := Lib.hid (fun w => pick_any a5 20000 w (by omega) (by omega) (by omega) (by omega))
  generalize pick a5 20000 = q at *
  have hSS := okStk_iff.1 HOK.out
  have hl4 := HL4.out
  simp only at hSS hl4
  have s1 : IntKind.i64.wrap (len + p) = len + p := IntWalk.i64_in _ (by omega)
  clear hk hm
  go_upto_region 6 with (go_at_call 22; (with_reducible refine (HPK.out _).mono ?_); rintro e w1 ⟨rfl, rfl⟩)
  have hby := Bx.new W xX ⟨len, spd, ac, bk⟩
  have hbW : Below W.heap.size W (W.alloc (.cells #[.string xX, .int .i64 len, .int .i64 spd, .int .i64 ac, .int .i64 bk] 23)) := (Below.refl _ _).alloc (Nat.le_refl _) _
  simp only at hby
  have hwlt := HBX.out.lt
  generalize W.alloc (.cells #[.string xX, .int .i64 len, .int .i64 spd, .int .i64 ac, .int .i64 bk] 23) = V at *
  obtain ⟨b2, hb2⟩ : ∃ b2, W.heap.size = b2 := ⟨_, rfl⟩
  rw [hb2] at hby hwlt ⊢
  have HB2 := Lib.hid hb2
  have hbx := HBX.out.below hbW (by omega)
  clear x0 x1 x2 x3 x4
  obtain ⟨x0, x1, x2, x3, x4⟩ := hbx.cells
  obtain ⟨t0, t1, t2, t3, t4⟩ := hby.cells
  have ff := Bx.free hby 1
  simp only at x1 x2 x3 x4 t1 t2 t3 t4
  have HKB : Hid (V.drew.cell? ⟨b, 1, none⟩ = some (.int .i64 len)) := x1
  have HKC : Hid (∀ u : Value, (V.drew.setCell ⟨b2, 1, none⟩ u).cell? ⟨b, 1, none⟩ = some (.int .i64 len)) := fun u => (World.cell?_setCell_other _ _ _ _ (fun e => by injection e with e1; omega)).trans x1
  have td : V.drew.cell? ⟨b2, 1, none⟩ = some (.int .i64 len) := t1
  have fd : V.drew.frozen? ⟨b2, 1, none⟩ = false := ff
  have HBY := Lib.hid hby
  have HBXV := Lib.hid hbx
  have HBV := Lib.hid hbW
  clear hby hbx hbW hb2
  go_region_held3 (fun w' => w'.cell? ⟨b, 1, none⟩ = some (.int .i64 len))
    (first | exact HKB.out | exact HKC.out _)
    ((go_at_call 22; (with_reducible refine (HPM.out _).mono ?_); rintro e w1 ⟨rfl, rfl⟩))
  obtain ⟨v, hv⟩ : ∃ v, len + p = v := ⟨_, rfl⟩
  have hvb : len ≤ v ∧ v ≤ len + 9 := by omega
  rw [hv]
  have HZ1 : Hid (Bx (V.setCell ⟨b2, 1, none⟩ (.int .i64 v)).drew b xX ⟨len, spd, ac, bk⟩) := (Below.heap_setCell V ⟨b2, 1, none⟩ _ b (by simp only; omega)).trans HBXV.out
  have HZ2 : Hid (Bx (V.setCell ⟨b2, 1, none⟩ (.int .i64 v)).drew b2 xX ⟨v, spd, ac, bk⟩) := by
    have h := HBY.out
    have h2 : V.heap[b2]? = some (.cells #[.string xX, .int .i64 len, .int .i64 spd, .int .i64 ac, .int .i64 bk] 23 (0, 0)) := h
    show (V.setCell ⟨b2, 1, none⟩ (.int .i64 v)).heap[b2]? = _
    simp [World.setCell, Array.getElem?_modify, h2]
  have HBZ : Hid (Below W.heap.size W (V.setCell ⟨b2, 1, none⟩ (.int .i64 v)).drew) := (HBV.out.setCell (by have := HB2.out; simp only; omega) _).drew
  clear hv td fd ff x0 x1 x2 x3 x4 t0 t1 t2 t3 t4 s1 HKB HKC HPM
  generalize (V.setCell ⟨b2, 1, none⟩ (.int .i64 v)).drew = Wz at *
  have hrd := (HRUN.out Wz HBZ.out st hk2).rd
  obtain ⟨ad, zz, hA, habz, _, _, _⟩ := loadCel hrd (show 0 < n by omega)
  subst hA
  have HNW := Lib.hid (rd_news hrd)
  have hLl : (celR.cs L).length = n * 2 := by rw [Mem.cs_length, HLL.out]; rfl
  have HOC := Lib.hid (fun u hu => Mem.cs_one (R := celR) L u hu)
  have hn63 : 0 + n ≤ maxLen := by unfold maxLen; omega
  have hby : (0 + n) * 16 ≤ 140737488355328 := by omega
  clear hrd
  go_upto_region 7 with fail
  go_wp2_with (at_builtin; refine wpList_append_own _ rfl _ _ 28 rfl Wz.heap.size 42 infC _ 2 16 Try.underlying28 hih hzz0 hzz1 hzz2 rfl (by omega) (.slice none 0 0) 0 [] rfl (World.ownsRow_nil _ _ _ _) ad n c (celR.cs L) rfl hLl HNW.out HOC.out hn63 hby (Nat.le_refl _) ?_)
  intro v7 w7 hown hgrow _
  have hO : Mem.Own celR w7 Wz.heap.size v7 n L := ⟨HLL.out, hown⟩
  obtain ⟨A7, c7, rfl, hc7, hm7⟩ := hO.form
  obtain ⟨ga, rfl, hga, hgb⟩ : ∃ ga, A7 = some ⟨ga, 0, none⟩ ∧ Wz.heap.size ≤ ga ∧ ga < w7.heap.size := by
    rcases hO.2.2 with ⟨_, e⟩ | ⟨g1, cap, cur, e, hb, hr, _⟩
    · omega
    · injection e with e1
      exact ⟨g1, e1, hb, lt_of_block hr⟩
  have HW7 : Hid (Below Wz.heap.size Wz w7) := (Below.refl _ _).grown hgrow (Nat.le_refl _) (fun r e => by cases e)
  have hlk : k < L.length := by rw [HLL.out]; omega
  obtain ⟨z, hz⟩ : ∃ z, L[k]? = some z := ⟨_, List.getElem?_eq_getElem hlk⟩
  have hzok := okCel_iff.1 (List.all_eq_true.1 HALL.out z (List.mem_of_getElem? hz))
  have hrd7 := hO.2.cells (g := ga) rfl
  have ec := Mem.cs_get (R := celR) L k 0 (by decide)
  rw [hz] at ec
  have cz : w7.cell? ⟨ga, k * 2, none⟩ = some (.int .i64 z.lim) := by
    have h := hrd7 (k * 2) _ ec
    rwa [add_off] at h
  have fz : w7.frozen? ⟨ga, k * 2, none⟩ = false := hO.2.frozenAt _
  have HO7 := Lib.hid hO
  have HZZ := Lib.hid hz
  have hc7' : c7 ≤ 9223372036854775807 := by unfold maxLen at hm7; omega
  have s2 : IntKind.i64.wrap (z.lim - q) = z.lim - q := IntWalk.i64_in _ (by omega)
  clear hown hgrow hO hrd7 ec hz HNW HOC hLl
  go_upto_region 9 with (go_at_call 22; (with_reducible refine (HPA.out _).mono ?_); rintro e w1 ⟨rfl, rfl⟩)
  have czd : w7.drew.cell? ⟨ga, k * 2, none⟩ = some (.int .i64 z.lim) := cz
  have fzd : w7.drew.frozen? ⟨ga, k * 2, none⟩ = false := fz
  refine wp_region_noPanic ?_
  refine wp_region_held_drew (S := fun _ => True) (by kernel_rfl) trivial (fun hHeld => ?_)
  refine take_yes 0 (some 50) (v := ?v0_1) rfl rfl (by kernel_rfl) (by kernel_rfl) (by kernel_rfl) (fun _ _ _ h => h) (by kernel_rfl) ?h0_1 (by assumption) ?_
  case h0_1 =>
    intro w hSw
    (try dsimp only at hSw)
    (try go_split_ands)
    go_simp
    try with_reducible rfl
  (try simp only [Act.put, List.setIfInBounds_toArray, List.set_cons_zero, List.set_cons_succ])
  refine take_yes 1 (some 51) (v := ?v1_2) rfl rfl (by kernel_rfl) (by kernel_rfl) (by kernel_rfl) (fun _ _ _ h => h) (by kernel_rfl) ?h1_2 (by assumption) ?_
  case h1_2 =>
    intro w hSw
    (try dsimp only at hSw)
    (try go_split_ands)
    go_simp
    try with_reducible rfl
  (try simp only [Act.put, List.setIfInBounds_toArray, List.set_cons_zero, List.set_cons_succ])
  refine take_yes 2 (some 52) (v := ?v2_3) rfl rfl (by kernel_rfl) (by kernel_rfl) (by kernel_rfl) (fun _ _ _ h => h) (by kernel_rfl) ?h2_3 (by assumption) ?_
  case h2_3 =>
    intro w hSw
    (try dsimp only at hSw)
    (try go_split_ands)
    go_simp
    try with_reducible rfl
  (try simp only [Act.put, List.setIfInBounds_toArray, List.set_cons_zero, List.set_cons_succ])
  refine take_yes 3 (some 53) (v := ?v3_4) rfl rfl (by kernel_rfl) (by kernel_rfl) (by kernel_rfl) (fun _ _ _ h => h) (by kernel_rfl) ?h3_4 (by assumption) ?_
  case h3_4 =>
    intro w hSw
    (try dsimp only at hSw)
    (try go_split_ands)
    go_simp
    try with_reducible rfl
  (try simp only [Act.put, List.setIfInBounds_toArray, List.set_cons_zero, List.set_cons_succ])
  refine take_yes 4 (some 54) (v := ?v4_5) rfl rfl (by kernel_rfl) (by kernel_rfl) (by kernel_rfl) (fun _ _ _ h => h) (by kernel_rfl) ?h4_5 (by assumption) ?_
  case h4_5 =>
    intro w hSw
    (try dsimp only at hSw)
    (try go_split_ands)
    go_simp
    try with_reducible rfl
  (try simp only [Act.put, List.setIfInBounds_toArray, List.set_cons_zero, List.set_cons_succ])
  refine take_yes 5 (some 55) (v := ?v5_6) rfl rfl (by kernel_rfl) (by kernel_rfl) (by kernel_rfl) (fun _ _ _ h => h) (by kernel_rfl) ?h5_6 (by assumption) ?_
  case h5_6 =>
    intro w hSw
    (try dsimp only at hSw)
    (try go_split_ands)
    go_simp
    try with_reducible rfl
  (try simp only [Act.put, List.setIfInBounds_toArray, List.set_cons_zero, List.set_cons_succ])
  refine take_yes 7 (some 57) (v := ?v7_7) rfl rfl (by kernel_rfl) (by kernel_rfl) (by kernel_rfl) (fun _ _ _ h => h) (by kernel_rfl) ?h7_7 (by assumption) ?_
  case h7_7 =>
    intro w hSw
    (try dsimp only at hSw)
    (try go_split_ands)
    go_simp
    try with_reducible rfl
  (try simp only [Act.put, List.setIfInBounds_toArray, List.set_cons_zero, List.set_cons_succ])
  refine wpAnyH_ready (rs := [6, 8]) (by kernel_rfl) (by simp) ?_
  refine AllReadyH.cons rfl (fun K hK => ?_) (AllReadyH.cons rfl (fun K hK => ?_) AllReadyH.nil)
  · go_simp
    refine hK.out _ _ trivial (fun hHeld1 => ?_)
    clear hK K hHeld
    (try simp only [Act.put, List.setIfInBounds_toArray, List.set_cons_zero, List.set_cons_succ])
    refine wpAnyH_ready (rs := [8]) (by kernel_rfl) (by simp) ?_
    refine AllReadyH.cons rfl (fun K hK => ?_) AllReadyH.nil
    go_simp
    go_at_call 22
    (with_reducible refine (HPB.out _).mono ?_)
    rintro e w1 ⟨rfl, rfl⟩
    go_wp2_with fail
    refine hK.out _ _ trivial (fun hHeld2 => ?_)
    clear hK K hHeld1
    (try simp only [Act.put, List.setIfInBounds_toArray, List.set_cons_zero, List.set_cons_succ])
    refine take_yes 9 (some 59) (v := ?v9_8) rfl rfl (by kernel_rfl) (by kernel_rfl) (by kernel_rfl) (fun _ _ _ h => h) (by kernel_rfl) ?h9_8 (by assumption) ?_
    case h9_8 =>
      intro w hSw
      (try dsimp only at hSw)
      (try go_split_ands)
      go_simp
      try with_reducible rfl
    (try simp only [Act.put, List.setIfInBounds_toArray, List.set_cons_zero, List.set_cons_succ])
    refine take_yes 10 (some 60) (v := ?v10_9) rfl rfl (by kernel_rfl) (by kernel_rfl) (by kernel_rfl) (fun _ _ _ h => h) (by kernel_rfl) ?h10_9 (by assumption) ?_
    case h10_9 =>
      intro w hSw
      (try dsimp only at hSw)
      (try go_split_ands)
      go_simp
      try with_reducible rfl
    (try simp only [Act.put, List.setIfInBounds_toArray, List.set_cons_zero, List.set_cons_succ])
    refine take_yes 11 (some 61) (v := ?v11_10) rfl rfl (by kernel_rfl) (by kernel_rfl) (by kernel_rfl) (fun _ _ _ h => h) (by kernel_rfl) ?h11_10 (by assumption) ?_
    case h11_10 =>
      intro w hSw
      (try dsimp only at hSw)
      (try go_split_ands)
      go_simp
      try with_reducible rfl
    (try simp only [Act.put, List.setIfInBounds_toArray, List.set_cons_zero, List.set_cons_succ])
    refine take_yes 12 (some 62) (v := ?v12_11) rfl rfl (by kernel_rfl) (by kernel_rfl) (by kernel_rfl) (fun _ _ _ h => h) (by kernel_rfl) ?h12_11 (by assumption) ?_
    case h12_11 =>
      intro w hSw
      (try dsimp only at hSw)
      (try go_split_ands)
      go_simp
      try with_reducible rfl
    (try simp only [Act.put, List.setIfInBounds_toArray, List.set_cons_zero, List.set_cons_succ])
    refine wpAnyH_ready (rs := [13]) (by kernel_rfl) (by simp) ?_
    refine AllReadyH.cons rfl (fun K hK => ?_) AllReadyH.nil
    go_simp
    refine hK.out _ _ trivial (fun hHeld3 => ?_)
    clear hK K hHeld2
    (try simp only [Act.put, List.setIfInBounds_toArray, List.set_cons_zero, List.set_cons_succ])
    refine wpAnyH_done (by kernel_rfl) ?_ _
    refine NoPanic.normal ?_
    obtain ⟨u, hu⟩ : ∃ u, (if 1000 < z.lim - q then z.lim - q else 1000) = u := ⟨_, rfl⟩
    have hub : 1000 ≤ u ∧ u ≤ z.lim := by rw [← hu]; split <;> omega
    rw [hu]
    have HOD : Hid (Mem.Own celR (w7.setCell ⟨ga, k * 2, none⟩ (.int .i64 u)).drew Wz.heap.size (.slice (some ⟨ga, 0, none⟩) n c7) n (L.set k ⟨u, z.gr⟩)) := put_lim HO7.out HZZ.out
    have HBD : Hid (Below Wz.heap.size Wz (w7.setCell ⟨ga, k * 2, none⟩ (.int .i64 u)).drew) := (HW7.out.setCell (by simp only; omega) _).drew
    generalize (w7.setCell ⟨ga, k * 2, none⟩ (.int .i64 u)).drew = Y at *
    have hlk' : (L.set k ⟨u, z.gr⟩).length = n := by rw [List.length_set, HLL.out]
    have hlen : st + m ≤ L.length := by have := HM.out; rw [HLL.out]; omega
    have hlen2 : st + m ≤ (L.set k ⟨u, z.gr⟩).length := by have := HM.out; rw [hlk']; omega
    have hok2 : okStk ⟨v, spd, ac, bk⟩ = true := okStk_iff.2 (by simp only; omega)
    have hcel : ∀ i, (cel (L.set k ⟨u, z.gr⟩) i).lim ≤ (cel L i).lim ∧ (cel (L.set k ⟨u, z.gr⟩) i).gr = (cel L i).gr := fun i => by
      by_cases e : i = k
      · subst e
        rw [cel_eq HZZ.out, cel_eq (c := ⟨u, z.gr⟩) (List.getElem?_set_self hlk)]
        exact ⟨hub.2, rfl⟩
      · have : cel (L.set k ⟨u, z.gr⟩) i = cel L i := by unfold cel; rw [List.getD_eq_getElem?_getD, List.getD_eq_getElem?_getD, List.getElem?_set_ne (fun h => e h.symm)]
        rw [this]
        exact ⟨Int.le_refl _, rfl⟩
    have hall2 : (L.set k ⟨u, z.gr⟩).all okCel = true := List.all_eq_true.2 fun x hx => by
      rcases List.mem_or_eq_of_mem_set hx with h | h
      · exact List.all_eq_true.1 HALL.out x h
      · subst h
        exact okCel_iff.2 (by simp only; omega)
    have HX1 := Lib.hid (fun w' (hb : Below Y.heap.size Y w') => (HZ1.out.below (HBD.out.trans (hb.mono HBD.out.size)) HZ1.out.lt).cells)
    have HX2 := Lib.hid (fun w' (hb : Below Y.heap.size Y w') => (HZ2.out.below (HBD.out.trans (hb.mono HBD.out.size)) HZ2.out.lt).cells)
    simp only at HX1 HX2
    have HT1 : Hid (∀ w' : World, Below Y.heap.size Y w' → Calls Try.prog 15 #[.slice (some ad) n c, .int .i64 st, .agg #[.string xX, .int .i64 len, .int .i64 spd, .int .i64 ac, .int .i64 bk]] w' (TupRow (m + 1) (tim (vel L ⟨len, spd, ac, bk⟩ st m)) w')) := fun w' hb => p_times (some ad) n c st m L xX ⟨len, spd, ac, bk⟩ w' (HRUN.out w' (HBZ.out.trans ((HBD.out.trans (hb.mono HBD.out.size)).mono HBZ.out.size)) st hk2) HM.out
    have HT2 : Hid (∀ w' : World, Below Y.heap.size Y w' → Calls Try.prog 15 #[.slice (some ⟨ga, 0, none⟩) n c7, .int .i64 st, .agg #[.string xX, .int .i64 v, .int .i64 spd, .int .i64 ac, .int .i64 bk]] w' (TupRow (m + 1) (tim (vel (L.set k ⟨u, z.gr⟩) ⟨v, spd, ac, bk⟩ st m)) w')) := fun w' hb =>
      p_times (some ⟨ga, 0, none⟩) n c7 st m (L.set k ⟨u, z.gr⟩) xX ⟨v, spd, ac, bk⟩ w' ⟨(HOD.out.rd.below hb).more hb.size, hc7, hc7', hk2, by omega, hok2, hall2⟩ HM.out
    have HLE : Hid (∀ i, i ≤ m → tim (vel L ⟨len, spd, ac, bk⟩ st m) i ≤ tim (vel (L.set k ⟨u, z.gr⟩) ⟨v, spd, ac, bk⟩ st m) i) := fun i hi => tim_mono (v := vel L ⟨len, spd, ac, bk⟩ st m) (u := vel (L.set k ⟨u, z.gr⟩) ⟨v, spd, ac, bk⟩ st m) (n := m) (fun j hj => vel_pos hok2 hall2 hlen2 hm2 hj) (fun j hj => root_mono (sq_in hok2 hall2 hlen2 hj).1 (faster (cs := L.set k ⟨u, z.gr⟩) (ds := L) (s := ⟨v, spd, ac, bk⟩) (r := ⟨len, spd, ac, bk⟩) hok2 hall2 hlen2 (Int.le_refl _) (Int.le_refl _) (Int.le_refl _) (by simp only; omega) (fun i _ => hcel i) hj)) i hi
    have HP1 : Hid (0 < tim (vel L ⟨len, spd, ac, bk⟩ st m) 1) := by
      have := tim_step (v := vel L ⟨len, spd, ac, bk⟩ st m) (b := 0) (vel_pos HOK.out HALL.out hlen hm2 (by omega))
      exact this
    generalize tim (vel L ⟨len, spd, ac, bk⟩ st m) = f at *
    generalize tim (vel (L.set k ⟨u, z.gr⟩) ⟨v, spd, ac, bk⟩ st m) = f2 at *
    obtain ⟨N, hN⟩ : ∃ N, m + 1 = N := ⟨_, rfl⟩
    rw [hN] at HT1 HT2
    have hN3 : 3 ≤ N := by omega
    have hmN : N ≤ m + 1 := by omega
    have hNm : m < N := by omega
    have hm56 : m ≤ 56 := by have := HM.out; omega
    have hz0 := Lib.hid (Below.refl Y.heap.size Y)
    obtain ⟨x0, x1, x2, x3, x4⟩ := HX1.out Y hz0.out
    clear hN hok2 hall2 hcel hlen hlen2 hlk' cz fz czd fzd hzok s2 hub hu
    go_upto_region 12 with (first
      | (go_at_call 15; (with_reducible refine (HT1.out _ hz0.out).mono ?_); rintro e wa ⟨g, rfl, hg, hR, hba⟩; have HFa := Lib.hid hR; have HIa := Lib.hid (hz0.out.trans (hba.mono hz0.out.size)); clear hR hba x0 x1 x2 x3 x4; obtain ⟨z0, z1, z2, z3, z4⟩ := HX2.out _ HIa.out)
      | (go_at_call 15; (with_reducible refine (HT2.out _ HIa.out).mono ?_); rintro e wb ⟨h, rfl, hh, hR, hba⟩; have HFb := Lib.hid hR; have HFc := Lib.hid (HFa.out.below hba HFa.out.lt); have HIb := Lib.hid (HIa.out.trans (hba.mono HIa.out.size)); clear hR hba z0 z1 z2 z3 z4))
    have hgl := HFc.out.lt
    have hhl := HFb.out.lt
    have HZ := Lib.hid (HBW.out.trans ((HBZ.out.trans ((HBD.out.trans (HIb.out.mono HBD.out.size)).mono HBZ.out.size)).mono HBW.out.size))
    clear HX1 HX2 HT1 HT2 HRUN HX HCK
    have hN3i : ¬ (N : Int) < 3 := by omega
    go_wp2
    go_loopw [97] (fun i wr => ∃ k : Nat, k ≤ N ∧ i = .int .i64 k ∧ Hid (Below wb.heap.size wb wr)) (fun i _ => N - (intOf i).toNat)
    case atStart => exact ⟨0, Nat.zero_le _, rfl, Below.refl _ _⟩
    case round =>
      obtain ⟨kk, hkk, rfl, hbr⟩ := hrel
      have hR := HFc.out.below hbr.out hgl
      have hR2 := HFb.out.below hbr.out hhl
      by_cases hlt : kk < N
      · have d0 := hR.cell hlt
        have d1 := hR2.cell hlt
        have hle := HLE.out kk (by omega)
        have hnlt : ¬ f2 kk < f kk := by omega
        clear hR hR2 hle
        generalize f kk = va at *
        generalize f2 kk = vb at *
        go_wp2
        go_quiet (fail)
        go_wp2
        go_roundw
        case rel => exact ⟨kk + 1, by omega, by go_num, below_draws hbr.out _⟩
        case measure => simp [intOf]; omega
      · obtain rfl : kk = N := by omega
        have d1 := hR.cell (i := 1) (by omega)
        have hp1 := HP1.out
        clear hR hR2
        generalize f 1 = va at *
        go_wp2
        all_goals go_ret
        all_goals exact ⟨by first | rfl | simp, HZ.out.trans (hbr.out.mono HZ.out.size)⟩
  · go_simp
    go_at_call 22
    (with_reducible refine (HPB.out _).mono ?_)
    rintro e w1 ⟨rfl, rfl⟩
    go_wp2_with fail
    refine hK.out _ _ trivial (fun hHeld4 => ?_)
    clear hK K hHeld
    (try simp only [Act.put, List.setIfInBounds_toArray, List.set_cons_zero, List.set_cons_succ])
    refine wpAnyH_ready (rs := [6]) (by kernel_rfl) (by simp) ?_
    refine AllReadyH.cons rfl (fun K hK => ?_) AllReadyH.nil
    go_simp
    refine hK.out _ _ trivial (fun hHeld5 => ?_)
    clear hK K hHeld4
    (try simp only [Act.put, List.setIfInBounds_toArray, List.set_cons_zero, List.set_cons_succ])
    refine take_yes 9 (some 59) (v := ?v9_12) rfl rfl (by kernel_rfl) (by kernel_rfl) (by kernel_rfl) (fun _ _ _ h => h) (by kernel_rfl) ?h9_12 (by assumption) ?_
    case h9_12 =>
      intro w hSw
      (try dsimp only at hSw)
      (try go_split_ands)
      go_simp
      try with_reducible rfl
    (try simp only [Act.put, List.setIfInBounds_toArray, List.set_cons_zero, List.set_cons_succ])
    refine take_yes 10 (some 60) (v := ?v10_13) rfl rfl (by kernel_rfl) (by kernel_rfl) (by kernel_rfl) (fun _ _ _ h => h) (by kernel_rfl) ?h10_13 (by assumption) ?_
    case h10_13 =>
      intro w hSw
      (try dsimp only at hSw)
      (try go_split_ands)
      go_simp
      try with_reducible rfl
    (try simp only [Act.put, List.setIfInBounds_toArray, List.set_cons_zero, List.set_cons_succ])
    refine take_yes 11 (some 61) (v := ?v11_14) rfl rfl (by kernel_rfl) (by kernel_rfl) (by kernel_rfl) (fun _ _ _ h => h) (by kernel_rfl) ?h11_14 (by assumption) ?_
    case h11_14 =>
      intro w hSw
      (try dsimp only at hSw)
      (try go_split_ands)
      go_simp
      try with_reducible rfl
    (try simp only [Act.put, List.setIfInBounds_toArray, List.set_cons_zero, List.set_cons_succ])
    refine take_yes 12 (some 62) (v := ?v12_15) rfl rfl (by kernel_rfl) (by kernel_rfl) (by kernel_rfl) (fun _ _ _ h => h) (by kernel_rfl) ?h12_15 (by assumption) ?_
    case h12_15 =>
      intro w hSw
      (try dsimp only at hSw)
      (try go_split_ands)
      go_simp
      try with_reducible rfl
    (try simp only [Act.put, List.setIfInBounds_toArray, List.set_cons_zero, List.set_cons_succ])
    refine wpAnyH_ready (rs := [13]) (by kernel_rfl) (by simp) ?_
    refine AllReadyH.cons rfl (fun K hK => ?_) AllReadyH.nil
    go_simp
    refine hK.out _ _ trivial (fun hHeld6 => ?_)
    clear hK K hHeld5
    (try simp only [Act.put, List.setIfInBounds_toArray, List.set_cons_zero, List.set_cons_succ])
    refine wpAnyH_done (by kernel_rfl) ?_ _
    refine NoPanic.normal ?_
    obtain ⟨u, hu⟩ : ∃ u, (if 1000 < z.lim - q then z.lim - q else 1000) = u := ⟨_, rfl⟩
    have hub : 1000 ≤ u ∧ u ≤ z.lim := by rw [← hu]; split <;> omega
    rw [hu]
    have HOD : Hid (Mem.Own celR (w7.setCell ⟨ga, k * 2, none⟩ (.int .i64 u)).drew Wz.heap.size (.slice (some ⟨ga, 0, none⟩) n c7) n (L.set k ⟨u, z.gr⟩)) := put_lim HO7.out HZZ.out
    have HBD : Hid (Below Wz.heap.size Wz (w7.setCell ⟨ga, k * 2, none⟩ (.int .i64 u)).drew) := (HW7.out.setCell (by simp only; omega) _).drew
    generalize (w7.setCell ⟨ga, k * 2, none⟩ (.int .i64 u)).drew = Y at *
    have hlk' : (L.set k ⟨u, z.gr⟩).length = n := by rw [List.length_set, HLL.out]
    have hlen : st + m ≤ L.length := by have := HM.out; rw [HLL.out]; omega
    have hlen2 : st + m ≤ (L.set k ⟨u, z.gr⟩).length := by have := HM.out; rw [hlk']; omega
    have hok2 : okStk ⟨v, spd, ac, bk⟩ = true := okStk_iff.2 (by simp only; omega)
    have hcel : ∀ i, (cel (L.set k ⟨u, z.gr⟩) i).lim ≤ (cel L i).lim ∧ (cel (L.set k ⟨u, z.gr⟩) i).gr = (cel L i).gr := fun i => by
      by_cases e : i = k
      · subst e
        rw [cel_eq HZZ.out, cel_eq (c := ⟨u, z.gr⟩) (List.getElem?_set_self hlk)]
        exact ⟨hub.2, rfl⟩
      · have : cel (L.set k ⟨u, z.gr⟩) i = cel L i := by unfold cel; rw [List.getD_eq_getElem?_getD, List.getD_eq_getElem?_getD, List.getElem?_set_ne (fun h => e h.symm)]
        rw [this]
        exact ⟨Int.le_refl _, rfl⟩
    have hall2 : (L.set k ⟨u, z.gr⟩).all okCel = true := List.all_eq_true.2 fun x hx => by
      rcases List.mem_or_eq_of_mem_set hx with h | h
      · exact List.all_eq_true.1 HALL.out x h
      · subst h
        exact okCel_iff.2 (by simp only; omega)
    have HX1 := Lib.hid (fun w' (hb : Below Y.heap.size Y w') => (HZ1.out.below (HBD.out.trans (hb.mono HBD.out.size)) HZ1.out.lt).cells)
    have HX2 := Lib.hid (fun w' (hb : Below Y.heap.size Y w') => (HZ2.out.below (HBD.out.trans (hb.mono HBD.out.size)) HZ2.out.lt).cells)
    simp only at HX1 HX2
    have HT1 : Hid (∀ w' : World, Below Y.heap.size Y w' → Calls Try.prog 15 #[.slice (some ad) n c, .int .i64 st, .agg #[.string xX, .int .i64 len, .int .i64 spd, .int .i64 ac, .int .i64 bk]] w' (TupRow (m + 1) (tim (vel L ⟨len, spd, ac, bk⟩ st m)) w')) := fun w' hb => p_times (some ad) n c st m L xX ⟨len, spd, ac, bk⟩ w' (HRUN.out w' (HBZ.out.trans ((HBD.out.trans (hb.mono HBD.out.size)).mono HBZ.out.size)) st hk2) HM.out
    have HT2 : Hid (∀ w' : World, Below Y.heap.size Y w' → Calls Try.prog 15 #[.slice (some ⟨ga, 0, none⟩) n c7, .int .i64 st, .agg #[.string xX, .int .i64 v, .int .i64 spd, .int .i64 ac, .int .i64 bk]] w' (TupRow (m + 1) (tim (vel (L.set k ⟨u, z.gr⟩) ⟨v, spd, ac, bk⟩ st m)) w')) := fun w' hb =>
      p_times (some ⟨ga, 0, none⟩) n c7 st m (L.set k ⟨u, z.gr⟩) xX ⟨v, spd, ac, bk⟩ w' ⟨(HOD.out.rd.below hb).more hb.size, hc7, hc7', hk2, by omega, hok2, hall2⟩ HM.out
    have HLE : Hid (∀ i, i ≤ m → tim (vel L ⟨len, spd, ac, bk⟩ st m) i ≤ tim (vel (L.set k ⟨u, z.gr⟩) ⟨v, spd, ac, bk⟩ st m) i) := fun i hi => tim_mono (v := vel L ⟨len, spd, ac, bk⟩ st m) (u := vel (L.set k ⟨u, z.gr⟩) ⟨v, spd, ac, bk⟩ st m) (n := m) (fun j hj => vel_pos hok2 hall2 hlen2 hm2 hj) (fun j hj => root_mono (sq_in hok2 hall2 hlen2 hj).1 (faster (cs := L.set k ⟨u, z.gr⟩) (ds := L) (s := ⟨v, spd, ac, bk⟩) (r := ⟨len, spd, ac, bk⟩) hok2 hall2 hlen2 (Int.le_refl _) (Int.le_refl _) (Int.le_refl _) (by simp only; omega) (fun i _ => hcel i) hj)) i hi
    have HP1 : Hid (0 < tim (vel L ⟨len, spd, ac, bk⟩ st m) 1) := by
      have := tim_step (v := vel L ⟨len, spd, ac, bk⟩ st m) (b := 0) (vel_pos HOK.out HALL.out hlen hm2 (by omega))
      exact this
    generalize tim (vel L ⟨len, spd, ac, bk⟩ st m) = f at *
    generalize tim (vel (L.set k ⟨u, z.gr⟩) ⟨v, spd, ac, bk⟩ st m) = f2 at *
    obtain ⟨N, hN⟩ : ∃ N, m + 1 = N := ⟨_, rfl⟩
    rw [hN] at HT1 HT2
    have hN3 : 3 ≤ N := by omega
    have hmN : N ≤ m + 1 := by omega
    have hNm : m < N := by omega
    have hm56 : m ≤ 56 := by have := HM.out; omega
    have hz0 := Lib.hid (Below.refl Y.heap.size Y)
    obtain ⟨x0, x1, x2, x3, x4⟩ := HX1.out Y hz0.out
    clear hN hok2 hall2 hcel hlen hlen2 hlk' cz fz czd fzd hzok s2 hub hu
    go_upto_region 12 with (first
      | (go_at_call 15; (with_reducible refine (HT1.out _ hz0.out).mono ?_); rintro e wa ⟨g, rfl, hg, hR, hba⟩; have HFa := Lib.hid hR; have HIa := Lib.hid (hz0.out.trans (hba.mono hz0.out.size)); clear hR hba x0 x1 x2 x3 x4; obtain ⟨z0, z1, z2, z3, z4⟩ := HX2.out _ HIa.out)
      | (go_at_call 15; (with_reducible refine (HT2.out _ HIa.out).mono ?_); rintro e wb ⟨h, rfl, hh, hR, hba⟩; have HFb := Lib.hid hR; have HFc := Lib.hid (HFa.out.below hba HFa.out.lt); have HIb := Lib.hid (HIa.out.trans (hba.mono HIa.out.size)); clear hR hba z0 z1 z2 z3 z4))
    have hgl := HFc.out.lt
    have hhl := HFb.out.lt
    have HZ := Lib.hid (HBW.out.trans ((HBZ.out.trans ((HBD.out.trans (HIb.out.mono HBD.out.size)).mono HBZ.out.size)).mono HBW.out.size))
    clear HX1 HX2 HT1 HT2 HRUN HX HCK
    have hN3i : ¬ (N : Int) < 3 := by omega
    go_wp2
    go_loopw [97] (fun i wr => ∃ k : Nat, k ≤ N ∧ i = .int .i64 k ∧ Hid (Below wb.heap.size wb wr)) (fun i _ => N - (intOf i).toNat)
    case atStart => exact ⟨0, Nat.zero_le _, rfl, Below.refl _ _⟩
    case round =>
      obtain ⟨kk, hkk, rfl, hbr⟩ := hrel
      have hR := HFc.out.below hbr.out hgl
      have hR2 := HFb.out.below hbr.out hhl
      by_cases hlt : kk < N
      · have d0 := hR.cell hlt
        have d1 := hR2.cell hlt
        have hle := HLE.out kk (by omega)
        have hnlt : ¬ f2 kk < f kk := by omega
        clear hR hR2 hle
        generalize f kk = va at *
        generalize f2 kk = vb at *
        go_wp2
        go_quiet (fail)
        go_wp2
        go_roundw
        case rel => exact ⟨kk + 1, by omega, by go_num, below_draws hbr.out _⟩
        case measure => simp [intOf]; omega
      · obtain rfl : kk = N := by omega
        have d1 := hR.cell (i := 1) (by omega)
        have hp1 := HP1.out
        clear hR hR2
        generalize f 1 = va at *
        go_wp2
        all_goals go_ret
        all_goals exact ⟨by first | rfl | simp, HZ.out.trans (hbr.out.mono HZ.out.size)⟩
end Go.Proofs.Ytglcimahdgnnnaa.WLg
