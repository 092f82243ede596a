/-
  Contract of the program: the squared speeds (both passes).
-/
import Derived.Test.YtglcimahdgnnnaaPFwd
namespace Go.Proofs.Ytglcimahdgnnnaa.PSq
open Go.ChangeShapes Go.WideShapes Go.ChangeAt Go.RowKit Go.Shelf Dyn Mem Src PSm PChk PLim PPer PBack PFwd Man
set_option linter.unusedVariables false
attribute [local go_sem] Oper.semAt_some

set_option maxRecDepth 100000 in
set_option maxHeartbeats 4000000 in
theorem p_squared (A : Option Addr) (n c st m : Nat) (L : List Cel) (x : ByteArray) (s : Stk) (w : World) (h : RunArgs w A n c st L s) (hm : n = st + m) :
    Calls Try.prog 24 #[.slice A n c, .int .i64 st, stk x s] w (RowPost (m + 1) (sq L s st m) w) := by
  have hlen := h.rd.1
  have h4 := h.n4
  have hkn := h.kn
  have hnc := h.nc
  have hcb := h.cb
  have hbx := Bx.new w x s
  have hb0 : Below w.heap.size w (w.alloc (.cells #[.string x, .int .i64 s.len, .int .i64 s.spd, .int .i64 s.acc, .int .i64 s.brk] 23)) := (Below.refl _ _).alloc (Nat.le_refl _) _
  have HP := Lib.hid (fun w' (hb : Below w.heap.size w w') => p_permitted A n c st m L x s w' ⟨(h.rd.below hb).more hb.size, h.nc, h.cb, h.kn, h.n4, h.hs, h.hc⟩ hm)
  obtain ⟨ad, y, hA, hab, hy, _, _⟩ := loadCel h.rd (show st < n by omega)
  subst hA
  obtain ⟨hx0, hx1, hx2, hx3, hx4⟩ := hbx.cells
  have H := Lib.hid h
  have HX := Lib.hid hbx
  have HB0 := Lib.hid hb0
  have HM := Lib.hid hm
  have h5 : st + m ≤ n := by omega
  have h6 : n ≤ st + m := by omega
  clear hbx h hb0 hm hy
  obtain ⟨len, spd, ac, bk⟩ := s
  simp only [stk] at *
  obtain ⟨N, hN⟩ : ∃ N, m + 1 = N := ⟨_, rfl⟩
  rw [hN] at HP ⊢
  have HN := Lib.hid hN
  have hN1 : m < N := by omega
  have hN2 : N ≤ m + 1 := by omega
  clear hN
  obtain ⟨W0, hW0⟩ : ∃ W0, w.alloc (.cells #[.string x, .int .i64 len, .int .i64 spd, .int .i64 ac, .int .i64 bk] 23) = W0 := ⟨_, rfl⟩
  rw [hW0] at HX HB0 hx0 hx1 hx2 hx3 hx4
  refine (callsIn_wide (n := 8)).1 ?_
  refine callsIn_of_wp_marks Try.func24 rfl trivial ?_ rfl
  simp only [Try.ntmps24, List.size_toArray, List.length_cons, List.length_nil, Nat.reduceAdd, Nat.reduceSub, Array.replicate_succ, Array.replicate_zero, List.push_toArray, List.append_toArray, List.nil_append, List.cons_append]
  refine (wpIn_wide (n := 8)).2 ?_
  go_upto_region 2 with (go_at_call 36; refine (HP.out _ HB0.out).mono ?_; rintro e w2 ⟨g, rfl, hg1, hR, hb2⟩; have HR := Lib.hid hR; have HB2 := Lib.hid hb2; clear hR hb2)
  have hS : St w (w2.alloc (.cells #[.slice (some ⟨g, 0, none⟩) N N] 24)) w2.heap.size g N x ⟨len, spd, ac, bk⟩ (base L ⟨len, spd, ac, bk⟩ st m) := by
    have b2 := HB2.out
    have z2 := b2.size
    have hlt := HR.out.lt
    have hx := HX.out.lt
    exact ⟨(HX.out.below b2 hx).below ((Below.refl _ _).alloc (Nat.le_refl _) _) (by omega), heap_alloc_new _ _, HR.out.alloc _, (HB0.out.trans (b2.mono (by omega))).alloc (by omega) _, by omega, by omega, by omega⟩
  have hq0 := hS.hq
  have hgq := hS.ne
  have hg0 := hS.hg
  generalize w2.heap.size = q at *
  generalize w2.alloc (.cells #[.slice (some ⟨g, 0, none⟩) N N] 24) = W1 at *
  have HS := Lib.hid hS
  obtain ⟨a0, ha0⟩ : ∃ a0, ad.add (st * 2) = a0 := ⟨_, rfl⟩
  have hab0 : a0.block < w.heap.size := by rw [← ha0, Mem.block_add]; exact hab
  have HQ : Hid (∀ j, j < m → ∃ z, L[st + j]? = some z ∧ okCel z = true ∧ w.cell? (a0.add (j * 2)) = some (.int .i64 z.lim) ∧ w.cell? ⟨(a0.add (j * 2)).block, (a0.add (j * 2)).off + 1, none⟩ = some (.int .i64 z.gr)) := by
    intro j hj
    obtain ⟨ad', z, e, _, hz, c0, c1⟩ := loadCel H.out.rd (show st + j < n by omega)
    cases e
    have e2 : ad.add ((st + j) * 2) = a0.add (j * 2) := by rw [← ha0, add_add', Nat.add_mul]
    rw [e2] at c0 c1
    exact ⟨z, hz, List.all_eq_true.1 H.out.hc _ (List.mem_of_getElem? hz), c0, c1⟩
  have e1 : n - st = m := by omega
  clear hx0 hx1 hx2 hx3 hx4 hS HX HB0 hW0 HR HB2 HP
  go_wp2
  go_loopw [22] (fun i wr => ∃ k : Nat, k ≤ m ∧ i = .int .i64 k ∧ Hid (St w wr q g N x ⟨len, spd, ac, bk⟩ (fun j => if j ≤ k then forw L ⟨len, spd, ac, bk⟩ st m j else base L ⟨len, spd, ac, bk⟩ st m j))) (fun i _ => m - (intOf i).toNat)
  case atStart =>
    refine ⟨0, Nat.zero_le _, rfl, HS.out.congr fun j hj => ?_⟩
    by_cases h0 : j ≤ 0
    · obtain rfl : j = 0 := by omega
      rw [if_pos h0, forw_zero]; simp [base]
    · rw [if_neg h0]
  case round =>
    obtain ⟨k, hk, rfl, hR⟩ := hrel
    by_cases hlt : k < m
    · obtain ⟨z, hz, hok, c0, c1⟩ := HQ.out k hlt
      have hbw := hR.out.below
      have d0 := (hbw.cell (by rw [Mem.block_add]; exact hab0)).trans c0
      have d1 := (hbw.cell (p := ⟨(a0.add (k * 2)).block, (a0.add (k * 2)).off + 1, none⟩) (by rw [Mem.block_add]; exact hab0)).trans c1
      clear c0 c1 hbw
      have HZ := Lib.hid hz
      clear hz
      go_upto_region 6 with fail
      have hR2 := hR.out.alloc (.cells #[.int .i64 z.lim, .int .i64 z.gr] 42)
      obtain ⟨p0, p1⟩ := new_two wr (.int .i64 z.lim) (.int .i64 z.gr) 42
      have pz : wr.heap.size < (wr.alloc (.cells #[.int .i64 z.lim, .int .i64 z.gr] 42)).heap.size := by simp
      have hlt1 : Hid (g < wr.heap.size ∧ q < wr.heap.size) := ⟨hR.out.glt, hR.out.qlt⟩
      generalize wr.heap.size = p at *
      generalize wr.alloc (.cells #[.int .i64 z.lim, .int .i64 z.gr] 42) = wq at *
      obtain ⟨b0, b1, b2, b3, b4⟩ := hR2.box.cells
      have v0 := hR2.cell
      have r0 := hR2.rowCell (i := k) (by omega)
      have r1 := hR2.rowCell (i := k + 1) (by omega)
      have f1 := hR2.free (k + 1)
      rw [if_pos (Nat.le_refl k)] at r0
      rw [if_neg (by omega)] at r1
      have E := Lib.hid (forw_succ L ⟨len, spd, ac, bk⟩ st m k)
      rw [cel_eq HZ.out] at E
      have hbb := base_all (b := k + 1) H.out.hs H.out.hc (show st + m ≤ L.length by omega)
      have hff := forw_bounds H.out.hs H.out.hc (show st + m ≤ L.length by omega) k
      have hff2 := hff.2.1
      have hff1 := hff.1
      have haa := acc_bounds (c := z) H.out.hs
      have HA := Lib.hid (fun w' => p_acc z x ⟨len, spd, ac, bk⟩ w' hok H.out.hs)
      have HR2 := Lib.hid hR2
      have hac2 : ac ≤ 2000 := (okStk_iff.1 H.out.hs).2.2.2.2.2.1
      clear hR2 hff hR
      simp only [stk] at HA
      obtain ⟨B, hB⟩ : ∃ B, base L ⟨len, spd, ac, bk⟩ st m (k + 1) = B := ⟨_, rfl⟩
      obtain ⟨V, hV⟩ : ∃ V, forw L ⟨len, spd, ac, bk⟩ st m k = V := ⟨_, rfl⟩
      obtain ⟨C, hC⟩ : ∃ C, acc z ⟨len, spd, ac, bk⟩ = C := ⟨_, rfl⟩
      rw [hB] at hbb r1 E
      rw [hV] at hff1 hff2 r0 E
      rw [hC] at haa HA E
      have HB := Lib.hid hB
      have HV := Lib.hid hV
      clear hB hV hC
      simp only at haa
      obtain ⟨k', hk'⟩ : ∃ k', k + 1 = k' := ⟨_, rfl⟩
      have e1' : (k : Int) + 1 = (k' : Int) := by omega
      rw [hk'] at r1 f1 HB E
      have HKK := Lib.hid hk'
      have s0 : IntKind.i64.wrap ((k : Int) + 1) = (k' : Int) := by rw [e1']; exact IntWalk.i64_in _ (by omega)
      have s1 : IntKind.i64.wrap (k' : Int) = (k' : Int) := IntWalk.i64_in _ (by omega)
      have s2 : IntKind.i64.wrap (20000 * C) = 20000 * C := IntWalk.i64_in _ (by omega)
      have s3 : IntKind.i64.wrap (V + 20000 * C) = V + 20000 * C := IntWalk.i64_in _ (by omega)
      have j0 : (0 : Int) ≤ (k' : Int) := by omega
      have j1 : (k' : Int) < (N : Int) := by omega
      have i4 : k < N := by omega
      have i5 : k' < N := by omega
      clear hk'
      have hgl := HR2.out.glt
      have hql := HR2.out.qlt
      have hwl := HR2.out.size
      have hpg : p ≠ g := by intro e; have := hlt1.out; omega
      have HK : Hid (∀ w' : World, Below wq.heap.size wq w' → (w'.cell? ⟨q, 0, none⟩ = some (.slice (some ⟨g, 0, none⟩) N N) ∧ w'.cell? ⟨g, k, none⟩ = some (.int .i64 V) ∧ w'.cell? ⟨p, 0, none⟩ = some (.int .i64 z.lim) ∧ w'.cell? ⟨p, 1, none⟩ = some (.int .i64 z.gr) ∧ w'.cell? ⟨w.heap.size, 0, none⟩ = some (.string x) ∧ w'.cell? ⟨w.heap.size, 1, none⟩ = some (.int .i64 len) ∧ w'.cell? ⟨w.heap.size, 2, none⟩ = some (.int .i64 spd) ∧ w'.cell? ⟨w.heap.size, 3, none⟩ = some (.int .i64 ac) ∧ w'.cell? ⟨w.heap.size, 4, none⟩ = some (.int .i64 bk))) := fun w' hb =>
        ⟨(hb.cell (p := ⟨q, 0, none⟩) hql).trans v0, (hb.cell (p := ⟨g, k, none⟩) hgl).trans r0, (hb.cell (p := ⟨p, 0, none⟩) pz).trans p0, (hb.cell (p := ⟨p, 1, none⟩) pz).trans p1,
          (hb.cell (p := ⟨w.heap.size, 0, none⟩) hwl).trans b0, (hb.cell (p := ⟨w.heap.size, 1, none⟩) hwl).trans b1, (hb.cell (p := ⟨w.heap.size, 2, none⟩) hwl).trans b2, (hb.cell (p := ⟨w.heap.size, 3, none⟩) hwl).trans b3, (hb.cell (p := ⟨w.heap.size, 4, none⟩) hwl).trans b4⟩
      have HK2 : Hid (∀ (w' : World) (v : Value), (w'.cell? ⟨q, 0, none⟩ = some (.slice (some ⟨g, 0, none⟩) N N) ∧ w'.cell? ⟨g, k, none⟩ = some (.int .i64 V) ∧ w'.cell? ⟨p, 0, none⟩ = some (.int .i64 z.lim) ∧ w'.cell? ⟨p, 1, none⟩ = some (.int .i64 z.gr) ∧ w'.cell? ⟨w.heap.size, 0, none⟩ = some (.string x) ∧ w'.cell? ⟨w.heap.size, 1, none⟩ = some (.int .i64 len) ∧ w'.cell? ⟨w.heap.size, 2, none⟩ = some (.int .i64 spd) ∧ w'.cell? ⟨w.heap.size, 3, none⟩ = some (.int .i64 ac) ∧ w'.cell? ⟨w.heap.size, 4, none⟩ = some (.int .i64 bk)) → ((w'.setCell ⟨g, k', none⟩ v).cell? ⟨q, 0, none⟩ = some (.slice (some ⟨g, 0, none⟩) N N) ∧ (w'.setCell ⟨g, k', none⟩ v).cell? ⟨g, k, none⟩ = some (.int .i64 V) ∧ (w'.setCell ⟨g, k', none⟩ v).cell? ⟨p, 0, none⟩ = some (.int .i64 z.lim) ∧ (w'.setCell ⟨g, k', none⟩ v).cell? ⟨p, 1, none⟩ = some (.int .i64 z.gr) ∧ (w'.setCell ⟨g, k', none⟩ v).cell? ⟨w.heap.size, 0, none⟩ = some (.string x) ∧ (w'.setCell ⟨g, k', none⟩ v).cell? ⟨w.heap.size, 1, none⟩ = some (.int .i64 len) ∧ (w'.setCell ⟨g, k', none⟩ v).cell? ⟨w.heap.size, 2, none⟩ = some (.int .i64 spd) ∧ (w'.setCell ⟨g, k', none⟩ v).cell? ⟨w.heap.size, 3, none⟩ = some (.int .i64 ac) ∧ (w'.setCell ⟨g, k', none⟩ v).cell? ⟨w.heap.size, 4, none⟩ = some (.int .i64 bk))) := fun w' v ⟨c0, c1, c2, c3, c4, c5, c6, c7, c8⟩ => by
        have hk' := HKK.out
        have far : ∀ a : Addr, a ≠ ⟨g, k', none⟩ → (w'.setCell ⟨g, k', none⟩ v).cell? a = w'.cell? a := fun a ha => World.cell?_setCell_other _ _ _ _ (fun e => ha e.symm)
        refine ⟨(far _ ?_).trans c0, (far _ ?_).trans c1, (far _ ?_).trans c2, (far _ ?_).trans c3, (far _ ?_).trans c4, (far _ ?_).trans c5, (far _ ?_).trans c6, (far _ ?_).trans c7, (far _ ?_).trans c8⟩
        all_goals (intro e; injection e with e1 e2 e3; omega)
      have hb0 := Below.refl wq.heap.size wq
      refine wp_region_noPanic ?_
      refine wp_region_held_drew (S := fun w' => (w'.cell? ⟨q, 0, none⟩ = some (.slice (some ⟨g, 0, none⟩) N N) ∧ w'.cell? ⟨g, k, none⟩ = some (.int .i64 V) ∧ w'.cell? ⟨p, 0, none⟩ = some (.int .i64 z.lim) ∧ w'.cell? ⟨p, 1, none⟩ = some (.int .i64 z.gr) ∧ w'.cell? ⟨w.heap.size, 0, none⟩ = some (.string x) ∧ w'.cell? ⟨w.heap.size, 1, none⟩ = some (.int .i64 len) ∧ w'.cell? ⟨w.heap.size, 2, none⟩ = some (.int .i64 spd) ∧ w'.cell? ⟨w.heap.size, 3, none⟩ = some (.int .i64 ac) ∧ w'.cell? ⟨w.heap.size, 4, none⟩ = some (.int .i64 bk))) (by kernel_rfl) (HK.out _ hb0.drew) (fun hHeld => ?_)
      have r1d : wq.drew.cell? ⟨g, k', none⟩ = some (.int .i64 B) := r1
      refine take_yes 0 (some 27) (v := ?v0_22) rfl rfl (by kernel_rfl) (by kernel_rfl) (by kernel_rfl) (fun _ _ _ h => h) (by kernel_rfl) ?h0_22 (by assumption) ?_
      case h0_22 =>
        intro w hSw
        (try dsimp only at hSw)
        (try go_split_ands)
        go_simp
        try with_reducible rfl
      (try simp only [Act.put, List.setIfInBounds_toArray, List.set_cons_zero, List.set_cons_succ])
      refine take_yes 1 (some 28) (v := ?v1_23) rfl rfl (by kernel_rfl) (by kernel_rfl) (by kernel_rfl) (fun _ _ _ h => h) (by kernel_rfl) ?h1_23 (by assumption) ?_
      case h1_23 =>
        intro w hSw
        (try dsimp only at hSw)
        (try go_split_ands)
        go_simp
        try with_reducible rfl
      (try simp only [Act.put, List.setIfInBounds_toArray, List.set_cons_zero, List.set_cons_succ])
      refine take_yes 2 (some 29) (v := ?v2_24) rfl rfl (by kernel_rfl) (by kernel_rfl) (by kernel_rfl) (fun _ _ _ h => h) (by kernel_rfl) ?h2_24 (by assumption) ?_
      case h2_24 =>
        intro w hSw
        (try dsimp only at hSw)
        (try go_split_ands)
        go_simp
        try with_reducible rfl
      (try simp only [Act.put, List.setIfInBounds_toArray, List.set_cons_zero, List.set_cons_succ])
      refine take_yes 3 (some 30) (v := ?v3_25) rfl rfl (by kernel_rfl) (by kernel_rfl) (by kernel_rfl) (fun _ _ _ h => h) (by kernel_rfl) ?h3_25 (by assumption) ?_
      case h3_25 =>
        intro w hSw
        (try dsimp only at hSw)
        (try go_split_ands)
        go_simp
        try with_reducible rfl
      (try simp only [Act.put, List.setIfInBounds_toArray, List.set_cons_zero, List.set_cons_succ])
      refine take_yes 4 (some 31) (v := ?v4_26) rfl rfl (by kernel_rfl) (by kernel_rfl) (by kernel_rfl) (fun _ _ _ h => h) (by kernel_rfl) ?h4_26 (by assumption) ?_
      case h4_26 =>
        intro w hSw
        (try dsimp only at hSw)
        (try go_split_ands)
        go_simp
        try with_reducible rfl
      (try simp only [Act.put, List.setIfInBounds_toArray, List.set_cons_zero, List.set_cons_succ])
      refine take_yes 5 (some 32) (v := ?v5_27) rfl rfl (by kernel_rfl) (by kernel_rfl) (by kernel_rfl) (fun _ _ _ h => h) (by kernel_rfl) ?h5_27 (by assumption) ?_
      case h5_27 =>
        intro w hSw
        (try dsimp only at hSw)
        (try go_split_ands)
        go_simp
        try with_reducible rfl
      (try simp only [Act.put, List.setIfInBounds_toArray, List.set_cons_zero, List.set_cons_succ])
      refine take_yes 6 (some 33) (v := ?v6_28) rfl rfl (by kernel_rfl) (by kernel_rfl) (by kernel_rfl) (fun _ _ _ h => h) (by kernel_rfl) ?h6_28 (by assumption) ?_
      case h6_28 =>
        intro w hSw
        (try dsimp only at hSw)
        (try go_split_ands)
        go_simp
        try with_reducible rfl
      (try simp only [Act.put, List.setIfInBounds_toArray, List.set_cons_zero, List.set_cons_succ])
      refine take_yes 8 (some 35) (v := ?v8_29) rfl rfl (by kernel_rfl) (by kernel_rfl) (by kernel_rfl) (fun _ _ _ h => h) (by kernel_rfl) ?h8_29 (by assumption) ?_
      case h8_29 =>
        intro w hSw
        (try dsimp only at hSw)
        (try go_split_ands)
        go_simp
        try with_reducible rfl
      (try simp only [Act.put, List.setIfInBounds_toArray, List.set_cons_zero, List.set_cons_succ])
      refine take_yes 9 (some 36) (v := ?v9_30) rfl rfl (by kernel_rfl) (by kernel_rfl) (by kernel_rfl) (fun _ _ _ h => h) (by kernel_rfl) ?h9_30 (by assumption) ?_
      case h9_30 =>
        intro w hSw
        (try dsimp only at hSw)
        (try go_split_ands)
        go_simp
        try with_reducible rfl
      (try simp only [Act.put, List.setIfInBounds_toArray, List.set_cons_zero, List.set_cons_succ])
      refine take_yes 10 (some 37) (v := ?v10_31) rfl rfl (by kernel_rfl) (by kernel_rfl) (by kernel_rfl) (fun _ _ _ h => h) (by kernel_rfl) ?h10_31 (by assumption) ?_
      case h10_31 =>
        intro w hSw
        (try dsimp only at hSw)
        (try go_split_ands)
        go_simp
        try with_reducible rfl
      (try simp only [Act.put, List.setIfInBounds_toArray, List.set_cons_zero, List.set_cons_succ])
      refine take_yes 11 (some 38) (v := ?v11_32) rfl rfl (by kernel_rfl) (by kernel_rfl) (by kernel_rfl) (fun _ _ _ h => h) (by kernel_rfl) ?h11_32 (by assumption) ?_
      case h11_32 =>
        intro w hSw
        (try dsimp only at hSw)
        (try go_split_ands)
        go_simp
        try with_reducible rfl
      (try simp only [Act.put, List.setIfInBounds_toArray, List.set_cons_zero, List.set_cons_succ])
      refine take_yes 12 (some 39) (v := ?v12_33) rfl rfl (by kernel_rfl) (by kernel_rfl) (by kernel_rfl) (fun _ _ _ h => h) (by kernel_rfl) ?h12_33 (by assumption) ?_
      case h12_33 =>
        intro w hSw
        (try dsimp only at hSw)
        (try go_split_ands)
        go_simp
        try with_reducible rfl
      (try simp only [Act.put, List.setIfInBounds_toArray, List.set_cons_zero, List.set_cons_succ])
      refine take_yes 13 (some 40) (v := ?v13_34) rfl rfl (by kernel_rfl) (by kernel_rfl) (by kernel_rfl) (fun _ _ _ h => h) (by kernel_rfl) ?h13_34 (by assumption) ?_
      case h13_34 =>
        intro w hSw
        (try dsimp only at hSw)
        (try go_split_ands)
        go_simp
        try with_reducible rfl
      (try simp only [Act.put, List.setIfInBounds_toArray, List.set_cons_zero, List.set_cons_succ])
      refine wpAnyH_ready (rs := [7, 14]) (by kernel_rfl) (by simp) ?_
      refine AllReadyH.cons rfl (fun K hK => ?_) (AllReadyH.cons rfl (fun K hK => ?_) AllReadyH.nil)
      · go_simp
        refine hK.out _ _ (HK.out _ hb0.drew) (fun hHeld1 => ?_)
        clear hK K hHeld
        (try simp only [Act.put, List.setIfInBounds_toArray, List.set_cons_zero, List.set_cons_succ])
        refine wpAnyH_ready (rs := [14]) (by kernel_rfl) (by simp) ?_
        refine AllReadyH.cons rfl (fun K hK => ?_) AllReadyH.nil
        go_simp
        go_at_call 37
        (with_reducible refine (HA.out _).mono ?_)
        rintro e wv ⟨rfl, hwv⟩
        have hbv : Below wq.heap.size wq.drew wv := hwv
        have r1v := (hbv.cell (p := ⟨g, k', none⟩) hgl).trans r1
        have f1v := (hbv.frozen (p := ⟨g, k', none⟩) hgl).trans f1
        go_wp2_with fail
        refine hK.out _ _ (HK.out _ (hb0.drew.trans hbv)) (fun hHeld2 => ?_)
        clear hK K hHeld1 hwv
        (try simp only [Act.put, List.setIfInBounds_toArray, List.set_cons_zero, List.set_cons_succ])
        refine take_yes 15 (some 42) (v := ?v15_35) rfl rfl (by kernel_rfl) (by kernel_rfl) (by kernel_rfl) (fun _ _ _ h => h) (by kernel_rfl) ?h15_35 (by assumption) ?_
        case h15_35 =>
          intro w hSw
          (try dsimp only at hSw)
          (try go_split_ands)
          go_simp
          try with_reducible rfl
        (try simp only [Act.put, List.setIfInBounds_toArray, List.set_cons_zero, List.set_cons_succ])
        refine take_yes 16 (some 43) (v := ?v16_36) rfl rfl (by kernel_rfl) (by kernel_rfl) (by kernel_rfl) (fun _ _ _ h => h) (by kernel_rfl) ?h16_36 (by assumption) ?_
        case h16_36 =>
          intro w hSw
          (try dsimp only at hSw)
          (try go_split_ands)
          go_simp
          try with_reducible rfl
        (try simp only [Act.put, List.setIfInBounds_toArray, List.set_cons_zero, List.set_cons_succ])
        refine take_yes 17 (some 44) (v := ?v17_37) rfl rfl (by kernel_rfl) (by kernel_rfl) (by kernel_rfl) (fun _ _ _ h => h) (by kernel_rfl) ?h17_37 (by assumption) ?_
        case h17_37 =>
          intro w hSw
          (try dsimp only at hSw)
          (try go_split_ands)
          go_simp
          try with_reducible rfl
        (try simp only [Act.put, List.setIfInBounds_toArray, List.set_cons_zero, List.set_cons_succ])
        refine take_yes 18 (some 45) (v := ?v18_38) rfl rfl (by kernel_rfl) (by kernel_rfl) (by kernel_rfl) (fun _ _ _ h => h) (by kernel_rfl) ?h18_38 (by assumption) ?_
        case h18_38 =>
          intro w hSw
          (try dsimp only at hSw)
          (try go_split_ands)
          go_simp
          try with_reducible rfl
        (try simp only [Act.put, List.setIfInBounds_toArray, List.set_cons_zero, List.set_cons_succ])
        refine wpAnyH_ready (rs := [19]) (by kernel_rfl) (by simp) ?_
        refine AllReadyH.cons rfl (fun K hK => ?_) AllReadyH.nil
        go_simp
        refine hK.out _ _ (HK2.out _ _ (HK.out _ (hb0.drew.trans hbv))) (fun hHeld3 => ?_)
        clear hK K hHeld2
        (try simp only [Act.put, List.setIfInBounds_toArray, List.set_cons_zero, List.set_cons_succ])
        refine wpAnyH_done (by kernel_rfl) ?_ _
        refine NoPanic.normal ?_
        have HSv := Lib.hid ((HR2.out.keep (hb0.drew.trans hbv)).put k' (if V + 20000 * C < B then V + 20000 * C else B))
        go_wp2
        all_goals go_roundw
        case rel =>
          have hk' := HKK.out
          refine ⟨k', by omega, by go_num, HSv.out.congr fun j hj => ?_⟩
          by_cases e : j = k'
          · subst e
            rw [if_pos rfl, if_pos (Nat.le_refl _), E.out]
            split <;> omega
          · rw [if_neg e]
            by_cases e2 : j ≤ k
            · rw [if_pos e2, if_pos (by omega)]
            · rw [if_neg e2, if_neg (by omega)]
        case measure => simp [intOf]; omega
      · go_simp
        go_at_call 37
        (with_reducible refine (HA.out _).mono ?_)
        rintro e wv ⟨rfl, hwv⟩
        have hbv : Below wq.heap.size wq.drew wv := hwv
        have r1v := (hbv.cell (p := ⟨g, k', none⟩) hgl).trans r1
        have f1v := (hbv.frozen (p := ⟨g, k', none⟩) hgl).trans f1
        go_wp2_with fail
        refine hK.out _ _ (HK.out _ (hb0.drew.trans hbv)) (fun hHeld4 => ?_)
        clear hK K hHeld hwv
        (try simp only [Act.put, List.setIfInBounds_toArray, List.set_cons_zero, List.set_cons_succ])
        refine take_yes 15 (some 42) (v := ?v15_39) rfl rfl (by kernel_rfl) (by kernel_rfl) (by kernel_rfl) (fun _ _ _ h => h) (by kernel_rfl) ?h15_39 (by assumption) ?_
        case h15_39 =>
          intro w hSw
          (try dsimp only at hSw)
          (try go_split_ands)
          go_simp
          try with_reducible rfl
        (try simp only [Act.put, List.setIfInBounds_toArray, List.set_cons_zero, List.set_cons_succ])
        refine take_yes 16 (some 43) (v := ?v16_40) rfl rfl (by kernel_rfl) (by kernel_rfl) (by kernel_rfl) (fun _ _ _ h => h) (by kernel_rfl) ?h16_40 (by assumption) ?_
        case h16_40 =>
          intro w hSw
          (try dsimp only at hSw)
          (try go_split_ands)
          go_simp
          try with_reducible rfl
        (try simp only [Act.put, List.setIfInBounds_toArray, List.set_cons_zero, List.set_cons_succ])
        refine wpAnyH_ready (rs := [7]) (by kernel_rfl) (by simp) ?_
        refine AllReadyH.cons rfl (fun K hK => ?_) AllReadyH.nil
        go_simp
        refine hK.out _ _ (HK.out _ (hb0.drew.trans hbv)) (fun hHeld5 => ?_)
        clear hK K hHeld4
        (try simp only [Act.put, List.setIfInBounds_toArray, List.set_cons_zero, List.set_cons_succ])
        refine take_yes 17 (some 44) (v := ?v17_41) rfl rfl (by kernel_rfl) (by kernel_rfl) (by kernel_rfl) (fun _ _ _ h => h) (by kernel_rfl) ?h17_41 (by assumption) ?_
        case h17_41 =>
          intro w hSw
          (try dsimp only at hSw)
          (try go_split_ands)
          go_simp
          try with_reducible rfl
        (try simp only [Act.put, List.setIfInBounds_toArray, List.set_cons_zero, List.set_cons_succ])
        refine take_yes 18 (some 45) (v := ?v18_42) rfl rfl (by kernel_rfl) (by kernel_rfl) (by kernel_rfl) (fun _ _ _ h => h) (by kernel_rfl) ?h18_42 (by assumption) ?_
        case h18_42 =>
          intro w hSw
          (try dsimp only at hSw)
          (try go_split_ands)
          go_simp
          try with_reducible rfl
        (try simp only [Act.put, List.setIfInBounds_toArray, List.set_cons_zero, List.set_cons_succ])
        refine wpAnyH_ready (rs := [19]) (by kernel_rfl) (by simp) ?_
        refine AllReadyH.cons rfl (fun K hK => ?_) AllReadyH.nil
        go_simp
        refine hK.out _ _ (HK2.out _ _ (HK.out _ (hb0.drew.trans hbv))) (fun hHeld6 => ?_)
        clear hK K hHeld5
        (try simp only [Act.put, List.setIfInBounds_toArray, List.set_cons_zero, List.set_cons_succ])
        refine wpAnyH_done (by kernel_rfl) ?_ _
        refine NoPanic.normal ?_
        have HSv := Lib.hid ((HR2.out.keep (hb0.drew.trans hbv)).put k' (if V + 20000 * C < B then V + 20000 * C else B))
        go_wp2
        all_goals go_roundw
        case rel =>
          have hk' := HKK.out
          refine ⟨k', by omega, by go_num, HSv.out.congr fun j hj => ?_⟩
          by_cases e : j = k'
          · subst e
            rw [if_pos rfl, if_pos (Nat.le_refl _), E.out]
            split <;> omega
          · rw [if_neg e]
            by_cases e2 : j ≤ k
            · rw [if_pos e2, if_pos (by omega)]
            · rw [if_neg e2, if_neg (by omega)]
        case measure => simp [intOf]; omega
    · obtain rfl : k = m := by omega
      have hS := hR.out.congr (f' := forw L ⟨len, spd, ac, bk⟩ st k) (fun j hj => by rw [if_pos (by omega)])
      have HS := Lib.hid hS
      have HBC := Lib.hid (fun a n c w' => (callsIn_wide.1 (back_in Fence.wide 7 trivial rfl a n c w')))
      clear hR hS
      go_upto_region 8 with fail
      go_wp2_with (go_at_call 38; refine (HBC.out _ _ _ _).mono ?_; rintro e w3 ⟨rfl, rfl⟩)
      have hw1 := HS.out.size
      have hql := HS.out.qlt
      have hgl := HS.out.glt
      obtain ⟨bs, hbs⟩ : ∃ bs, wr.heap.size = bs := ⟨_, rfl⟩
      have hz3 : (wr.alloc (.cells #[.slice (some a0) k (c - st)] 28)).heap.size = bs + 1 := by simp [hbs]
      have hbc : (wr.alloc (.cells #[.slice (some a0) k (c - st)] 28)).cell? ⟨bs, 0, none⟩ = some (.slice (some a0) k (c - st)) := by
        rw [← hbs]
        have h := heap_alloc_new wr (.cells #[.slice (some a0) k (c - st)] 28)
        generalize wr.alloc (.cells #[.slice (some a0) k (c - st)] 28) = W at *
        unfold World.cell?
        simp only
        rw [h]
        rfl
      have HS3 := Lib.hid (HS.out.alloc (.cells #[.slice (some a0) k (c - st)] 28))
      rw [hbs] at hw1 hql hgl ⊢
      generalize wr.alloc (.cells #[.slice (some a0) k (c - st)] 28) = W3 at *
      clear HS hbs
      have hco : ∀ j, j < k → okCel (cel L (st + j)) = true := fun j hj => cel_ok H.out.hc (by omega)
      have hk0 : 0 < k := by omega
      have hit : ∀ r, r < k → W3.cell? (a0.add ((k - 1 - r) * 2)) = some (.int .i64 (item L st k hco hk0 r).1.2.lim) ∧ W3.cell? ⟨(a0.add ((k - 1 - r) * 2)).block, (a0.add ((k - 1 - r) * 2)).off + 1, none⟩ = some (.int .i64 (item L st k hco hk0 r).1.2.gr) := fun r hr => by
        obtain ⟨z, hz, _, c0, c1⟩ := HQ.out (k - 1 - r) (by omega)
        have ez : (item L st k hco hk0 r).1.2 = z := cel_eq hz
        rw [ez]
        have hb := HS3.out.below
        exact ⟨(hb.cell (by rw [Mem.block_add]; exact hab0)).trans c0, (hb.cell (p := ⟨(a0.add ((k - 1 - r) * 2)).block, (a0.add ((k - 1 - r) * 2)).off + 1, none⟩) (by rw [Mem.block_add]; exact hab0)).trans c1⟩
      have HST := Lib.hid (back_stops Fence.wide 7 trivial rfl (by omega) bs (c - st) k a0 (item L st k hco hk0) (by omega) (fun r hr => rfl) W3 (by omega) (by omega) hbc hit)
      refine (wpIn_wide (n := 8)).1 ?_
      refine wpIn_rangeFunc_ownH rfl (by omega) (gf := 51) (lb := #[.pointer (some ⟨bs, 0, none⟩)]) rfl trivial (enters_of Try.func51 (by kernel_rfl) rfl)
        HST.out (fun h k => h.trans k)
        (fun W l o o' hl _ _ _ => ⟨World.putObj_heap_other (fun e => by omega), World.putObj_heap_other (fun e => by omega)⟩) (Below.refl _ _) (fun _ => rfl)
        (fun pre W => St w W q g N x ⟨len, spd, ac, bk⟩ (steps ⟨len, spd, ac, bk⟩ (forw L ⟨len, spd, ac, bk⟩ st k) pre) ∧ bs < W.heap.size)
        (fun _ _ _ => False)
        (fun s A B row hs hg hr => ⟨hs.1.grows hg (fun r e => (hr r e).1) (by omega) (by omega), Nat.lt_of_lt_of_le hs.2 hg.size⟩)
        (fun _ _ _ _ _ hs _ _ => hs)
        ⟨HS3.out, by omega⟩
        (fun x' a' W => ∃ p, g < p ∧ q < p ∧ W.heap[p]? = some (.cells #[.int .i64 x'.1.2.lim, .int .i64 x'.1.2.gr] 42 (0, 0)) ∧ a' = { tmps := #[.slice (some ad) n c, .int .i64 st, .agg #[.string x, .int .i64 len, .int .i64 spd, .int .i64 ac, .int .i64 bk], undef, undef, .pointer (some ⟨w.heap.size, 0, none⟩), .slice none 0 0, .pointer (some ⟨q, 0, none⟩), .slice (some a0) k (c - st), u9, u10, .int .i64 (x'.1.1 : Int), .pointer (some ⟨p, 0, none⟩), .slice (some ad) n c, .int .i64 st, .agg #[.string x, .int .i64 len, .int .i64 spd, .int .i64 ac, .int .i64 bk], .slice (some ⟨g, 0, none⟩) N N, .slice (some ad) n c, .int .i64 st, .slice (some a0) k (c - st), .slice (some a0) k (c - st), .int .i64 k, .int .i64 k, .bool false, u24, u25, u26, u27, u28, u29, u30, u31, u32, u33, u34, u35, u36, u37, u38, u39, u40, u41, u42, u43, u44, u45, u46, .slice (some a0) k (c - st), .func (.func 51) #[] #[.pointer (some ⟨bs, 0, none⟩)], .int .i64 (x'.1.1 : Int), .agg #[.int .i64 x'.1.2.lim, .int .i64 x'.1.2.gr], undef, undef, undef, undef, undef, undef, undef, undef, undef, undef, undef, undef, undef, undef, undef, undef, undef, undef, undef], defers := [] })
        (fun x' a' s A B row hs hg hr => by
          obtain ⟨p, hp0, hp1, hp2, hp3⟩ := hs
          refine ⟨p, hp0, hp1, (hg.block p (Array.getElem?_eq_some_iff.1 hp2).1 (fun e => ?_)).trans hp2, hp3⟩
          obtain ⟨_, o, ho, hoc⟩ := hr p e.symm
          rw [hp2] at ho
          cases ho
          cases hoc)
        ?assign ?body ?done ?stop
      case assign =>
        rintro l pre x' W K ⟨hi, hbw⟩ hK
        simp only [encI]
        gi_wp2
        refine hK _ _ ((KeepsOthers.alloc _ _).from _) ⟨Below.heap_alloc W _ bs hbw, Below.heap_alloc W _ a0.block (by have := hi.size; omega)⟩ ⟨hi.alloc _, by simp; omega⟩ ⟨W.heap.size, hi.glt, hi.qlt, heap_alloc_new _ _, ?_⟩
        rfl
      case body =>
        rintro l pre x' a' wq hl ⟨r, hr⟩ ⟨hi, hbw⟩ ⟨p, hp0, hp1, hp2, rfl⟩ hlt
        refine wpIn_block ?_
        have hs0 := H.out.hs
        have hfb := steps_in hs0 pre (forw L ⟨len, spd, ac, bk⟩ st k) (fun j hj => by have := forw_bounds hs0 H.out.hc (show st + k ≤ L.length by omega) j; exact ⟨this.1, this.2.1⟩)
        obtain ⟨⟨i, z⟩, hik, hok⟩ := x'
        have HST2 := Lib.hid (fun wv (hb : Below wq.heap.size wq wv) v => (hi.keep hb).put i v)
        obtain ⟨f, hf⟩ : ∃ f, steps ⟨len, spd, ac, bk⟩ (forw L ⟨len, spd, ac, bk⟩ st k) pre = f := ⟨_, rfl⟩
        rw [hf] at hi hfb HST2
        have HF := Lib.hid hf
        clear hf
        dsimp only at hik hok hp2 ⊢
        obtain ⟨i', hi'⟩ : ∃ i', i + 1 = i' := ⟨_, rfl⟩
        have hbb := hfb i (by omega)
        have hvv := hfb i' (by omega)
        have haa := brk_bounds (c := z) hs0
        have hbk2 : bk ≤ 2000 := (okStk_iff.1 hs0).2.2.2.2.2.2.2
        have r0 := hi.rowCell (i := i') (by omega)
        have r1 := hi.rowCell (i := i) (by omega)
        have f1 := hi.free i
        have v0 := hi.cell
        have hgl := hi.glt
        have hql := hi.qlt
        have hwl := hi.size
        have HBL := Lib.hid hi.below
        obtain ⟨b0, b1, b2, b3, b4⟩ := hi.box.cells
        have pz : p < wq.heap.size := (Array.getElem?_eq_some_iff.1 hp2).1
        have p0 : wq.cell? ⟨p, 0, none⟩ = some (.int .i64 z.lim) := by simp [World.cell?, hp2]
        have p1 : wq.cell? ⟨p, 1, none⟩ = some (.int .i64 z.gr) := by simp [World.cell?, hp2]
        have HA := Lib.hid (fun w' => p_brk z x ⟨len, spd, ac, bk⟩ w' hok hs0)
        simp only [stk] at HA
        obtain ⟨B, hB⟩ : ∃ B, f i = B := ⟨_, rfl⟩
        obtain ⟨V, hV⟩ : ∃ V, f i' = V := ⟨_, rfl⟩
        obtain ⟨C, hC⟩ : ∃ C, brk z ⟨len, spd, ac, bk⟩ = C := ⟨_, rfl⟩
        rw [hB] at hbb r1
        rw [hV] at hvv r0
        rw [hC] at haa HA
        have HBVC : Hid (f i = B ∧ f (i + 1) = V ∧ brk z ⟨len, spd, ac, bk⟩ = C) := ⟨hB, by rw [hi']; exact hV, hC⟩
        have HII := Lib.hid hi'
        have HP2 := Lib.hid hp2
        clear hB hV hC hfb hi hp2
        simp only at haa
        have e1' : (i : Int) + 1 = (i' : Int) := by omega
        have hiN : i < N := by omega
        have hiN' : i' < N := by omega
        have s0 : IntKind.i64.wrap ((i : Int) + 1) = (i' : Int) := by rw [e1']; exact IntWalk.i64_in _ (by omega)
        have s1 : IntKind.i64.wrap (i' : Int) = (i' : Int) := IntWalk.i64_in _ (by omega)
        have s2 : IntKind.i64.wrap (20000 * C) = 20000 * C := IntWalk.i64_in _ (by omega)
        have s3 : IntKind.i64.wrap (V + 20000 * C) = V + 20000 * C := IntWalk.i64_in _ (by omega)
        have j0 : (0 : Int) ≤ (i' : Int) := by omega
        have j1 : (i' : Int) < (N : Int) := by omega
        clear hi'
        have hpg : p ≠ g := by omega
        have HK : Hid (∀ w' : World, Below wq.heap.size wq w' → (w'.cell? ⟨q, 0, none⟩ = some (.slice (some ⟨g, 0, none⟩) N N) ∧ w'.cell? ⟨g, i', none⟩ = some (.int .i64 V) ∧ w'.cell? ⟨p, 0, none⟩ = some (.int .i64 z.lim) ∧ w'.cell? ⟨p, 1, none⟩ = some (.int .i64 z.gr) ∧ w'.cell? ⟨w.heap.size, 0, none⟩ = some (.string x) ∧ w'.cell? ⟨w.heap.size, 1, none⟩ = some (.int .i64 len) ∧ w'.cell? ⟨w.heap.size, 2, none⟩ = some (.int .i64 spd) ∧ w'.cell? ⟨w.heap.size, 3, none⟩ = some (.int .i64 ac) ∧ w'.cell? ⟨w.heap.size, 4, none⟩ = some (.int .i64 bk))) := fun w' hb =>
          ⟨(hb.cell (p := ⟨q, 0, none⟩) hql).trans v0, (hb.cell (p := ⟨g, i', none⟩) hgl).trans r0, (hb.cell (p := ⟨p, 0, none⟩) pz).trans p0, (hb.cell (p := ⟨p, 1, none⟩) pz).trans p1,
            (hb.cell (p := ⟨w.heap.size, 0, none⟩) hwl).trans b0, (hb.cell (p := ⟨w.heap.size, 1, none⟩) hwl).trans b1, (hb.cell (p := ⟨w.heap.size, 2, none⟩) hwl).trans b2, (hb.cell (p := ⟨w.heap.size, 3, none⟩) hwl).trans b3, (hb.cell (p := ⟨w.heap.size, 4, none⟩) hwl).trans b4⟩
        have HK2 : Hid (∀ (w' : World) (v : Value), (w'.cell? ⟨q, 0, none⟩ = some (.slice (some ⟨g, 0, none⟩) N N) ∧ w'.cell? ⟨g, i', none⟩ = some (.int .i64 V) ∧ w'.cell? ⟨p, 0, none⟩ = some (.int .i64 z.lim) ∧ w'.cell? ⟨p, 1, none⟩ = some (.int .i64 z.gr) ∧ w'.cell? ⟨w.heap.size, 0, none⟩ = some (.string x) ∧ w'.cell? ⟨w.heap.size, 1, none⟩ = some (.int .i64 len) ∧ w'.cell? ⟨w.heap.size, 2, none⟩ = some (.int .i64 spd) ∧ w'.cell? ⟨w.heap.size, 3, none⟩ = some (.int .i64 ac) ∧ w'.cell? ⟨w.heap.size, 4, none⟩ = some (.int .i64 bk)) → ((w'.setCell ⟨g, i, none⟩ v).cell? ⟨q, 0, none⟩ = some (.slice (some ⟨g, 0, none⟩) N N) ∧ (w'.setCell ⟨g, i, none⟩ v).cell? ⟨g, i', none⟩ = some (.int .i64 V) ∧ (w'.setCell ⟨g, i, none⟩ v).cell? ⟨p, 0, none⟩ = some (.int .i64 z.lim) ∧ (w'.setCell ⟨g, i, none⟩ v).cell? ⟨p, 1, none⟩ = some (.int .i64 z.gr) ∧ (w'.setCell ⟨g, i, none⟩ v).cell? ⟨w.heap.size, 0, none⟩ = some (.string x) ∧ (w'.setCell ⟨g, i, none⟩ v).cell? ⟨w.heap.size, 1, none⟩ = some (.int .i64 len) ∧ (w'.setCell ⟨g, i, none⟩ v).cell? ⟨w.heap.size, 2, none⟩ = some (.int .i64 spd) ∧ (w'.setCell ⟨g, i, none⟩ v).cell? ⟨w.heap.size, 3, none⟩ = some (.int .i64 ac) ∧ (w'.setCell ⟨g, i, none⟩ v).cell? ⟨w.heap.size, 4, none⟩ = some (.int .i64 bk))) := fun w' v ⟨c0, c1, c2, c3, c4, c5, c6, c7, c8⟩ => by
          have hk' := HII.out
          have far : ∀ a : Addr, a ≠ ⟨g, i, none⟩ → (w'.setCell ⟨g, i, none⟩ v).cell? a = w'.cell? a := fun a ha => World.cell?_setCell_other _ _ _ _ (fun e => ha e.symm)
          refine ⟨(far _ ?_).trans c0, (far _ ?_).trans c1, (far _ ?_).trans c2, (far _ ?_).trans c3, (far _ ?_).trans c4, (far _ ?_).trans c5, (far _ ?_).trans c6, (far _ ?_).trans c7, (far _ ?_).trans c8⟩
          all_goals (intro e; injection e with e1 e2 e3; omega)
        have hb0 := Below.refl wq.heap.size wq
        refine region_round (S := fun w' => (w'.cell? ⟨q, 0, none⟩ = some (.slice (some ⟨g, 0, none⟩) N N) ∧ w'.cell? ⟨g, i', none⟩ = some (.int .i64 V) ∧ w'.cell? ⟨p, 0, none⟩ = some (.int .i64 z.lim) ∧ w'.cell? ⟨p, 1, none⟩ = some (.int .i64 z.gr) ∧ w'.cell? ⟨w.heap.size, 0, none⟩ = some (.string x) ∧ w'.cell? ⟨w.heap.size, 1, none⟩ = some (.int .i64 len) ∧ w'.cell? ⟨w.heap.size, 2, none⟩ = some (.int .i64 spd) ∧ w'.cell? ⟨w.heap.size, 3, none⟩ = some (.int .i64 ac) ∧ w'.cell? ⟨w.heap.size, 4, none⟩ = some (.int .i64 bk))) (by kernel_rfl) (no_defer (by kernel_rfl)) (by rintro ⟨a, w, h⟩; exact h) (HK.out _ hb0.drew) (fun hHeld => ?_)
        have r1d : wq.drew.cell? ⟨g, i, none⟩ = some (.int .i64 B) := r1
        refine take_yes 0 (some 51) (v := ?v0_1) rfl rfl (by kernel_rfl) (by kernel_rfl) (by kernel_rfl) (fun _ _ _ h => h) (by kernel_rfl) ?h0_1 (by assumption) ?_
        case h0_1 =>
          intro w hSw
          (try dsimp only at hSw)
          (try go_split_ands)
          go_simp
          try with_reducible rfl
        (try simp only [Act.put, List.setIfInBounds_toArray, List.set_cons_zero, List.set_cons_succ])
        refine take_yes 1 (some 52) (v := ?v1_2) rfl rfl (by kernel_rfl) (by kernel_rfl) (by kernel_rfl) (fun _ _ _ h => h) (by kernel_rfl) ?h1_2 (by assumption) ?_
        case h1_2 =>
          intro w hSw
          (try dsimp only at hSw)
          (try go_split_ands)
          go_simp
          try with_reducible rfl
        (try simp only [Act.put, List.setIfInBounds_toArray, List.set_cons_zero, List.set_cons_succ])
        refine take_yes 2 (some 53) (v := ?v2_3) rfl rfl (by kernel_rfl) (by kernel_rfl) (by kernel_rfl) (fun _ _ _ h => h) (by kernel_rfl) ?h2_3 (by assumption) ?_
        case h2_3 =>
          intro w hSw
          (try dsimp only at hSw)
          (try go_split_ands)
          go_simp
          try with_reducible rfl
        (try simp only [Act.put, List.setIfInBounds_toArray, List.set_cons_zero, List.set_cons_succ])
        refine take_yes 3 (some 54) (v := ?v3_4) rfl rfl (by kernel_rfl) (by kernel_rfl) (by kernel_rfl) (fun _ _ _ h => h) (by kernel_rfl) ?h3_4 (by assumption) ?_
        case h3_4 =>
          intro w hSw
          (try dsimp only at hSw)
          (try go_split_ands)
          go_simp
          try with_reducible rfl
        (try simp only [Act.put, List.setIfInBounds_toArray, List.set_cons_zero, List.set_cons_succ])
        refine take_yes 4 (some 55) (v := ?v4_5) rfl rfl (by kernel_rfl) (by kernel_rfl) (by kernel_rfl) (fun _ _ _ h => h) (by kernel_rfl) ?h4_5 (by assumption) ?_
        case h4_5 =>
          intro w hSw
          (try dsimp only at hSw)
          (try go_split_ands)
          go_simp
          try with_reducible rfl
        (try simp only [Act.put, List.setIfInBounds_toArray, List.set_cons_zero, List.set_cons_succ])
        refine take_yes 6 (some 57) (v := ?v6_6) rfl rfl (by kernel_rfl) (by kernel_rfl) (by kernel_rfl) (fun _ _ _ h => h) (by kernel_rfl) ?h6_6 (by assumption) ?_
        case h6_6 =>
          intro w hSw
          (try dsimp only at hSw)
          (try go_split_ands)
          go_simp
          try with_reducible rfl
        (try simp only [Act.put, List.setIfInBounds_toArray, List.set_cons_zero, List.set_cons_succ])
        refine take_yes 7 (some 58) (v := ?v7_7) rfl rfl (by kernel_rfl) (by kernel_rfl) (by kernel_rfl) (fun _ _ _ h => h) (by kernel_rfl) ?h7_7 (by assumption) ?_
        case h7_7 =>
          intro w hSw
          (try dsimp only at hSw)
          (try go_split_ands)
          go_simp
          try with_reducible rfl
        (try simp only [Act.put, List.setIfInBounds_toArray, List.set_cons_zero, List.set_cons_succ])
        refine take_yes 8 (some 59) (v := ?v8_8) rfl rfl (by kernel_rfl) (by kernel_rfl) (by kernel_rfl) (fun _ _ _ h => h) (by kernel_rfl) ?h8_8 (by assumption) ?_
        case h8_8 =>
          intro w hSw
          (try dsimp only at hSw)
          (try go_split_ands)
          go_simp
          try with_reducible rfl
        (try simp only [Act.put, List.setIfInBounds_toArray, List.set_cons_zero, List.set_cons_succ])
        refine take_yes 9 (some 60) (v := ?v9_9) rfl rfl (by kernel_rfl) (by kernel_rfl) (by kernel_rfl) (fun _ _ _ h => h) (by kernel_rfl) ?h9_9 (by assumption) ?_
        case h9_9 =>
          intro w hSw
          (try dsimp only at hSw)
          (try go_split_ands)
          go_simp
          try with_reducible rfl
        (try simp only [Act.put, List.setIfInBounds_toArray, List.set_cons_zero, List.set_cons_succ])
        refine take_yes 10 (some 61) (v := ?v10_10) rfl rfl (by kernel_rfl) (by kernel_rfl) (by kernel_rfl) (fun _ _ _ h => h) (by kernel_rfl) ?h10_10 (by assumption) ?_
        case h10_10 =>
          intro w hSw
          (try dsimp only at hSw)
          (try go_split_ands)
          go_simp
          try with_reducible rfl
        (try simp only [Act.put, List.setIfInBounds_toArray, List.set_cons_zero, List.set_cons_succ])
        refine take_yes 11 (some 62) (v := ?v11_11) rfl rfl (by kernel_rfl) (by kernel_rfl) (by kernel_rfl) (fun _ _ _ h => h) (by kernel_rfl) ?h11_11 (by assumption) ?_
        case h11_11 =>
          intro w hSw
          (try dsimp only at hSw)
          (try go_split_ands)
          go_simp
          try with_reducible rfl
        (try simp only [Act.put, List.setIfInBounds_toArray, List.set_cons_zero, List.set_cons_succ])
        refine take_yes 12 (some 63) (v := ?v12_12) rfl rfl (by kernel_rfl) (by kernel_rfl) (by kernel_rfl) (fun _ _ _ h => h) (by kernel_rfl) ?h12_12 (by assumption) ?_
        case h12_12 =>
          intro w hSw
          (try dsimp only at hSw)
          (try go_split_ands)
          go_simp
          try with_reducible rfl
        (try simp only [Act.put, List.setIfInBounds_toArray, List.set_cons_zero, List.set_cons_succ])
        refine wpAnyH_ready (rs := [5, 13]) (by kernel_rfl) (by simp) ?_
        refine AllReadyH.cons rfl (fun K hK => ?_) (AllReadyH.cons rfl (fun K hK => ?_) AllReadyH.nil)
        · go_simp
          refine hK.out _ _ (HK.out _ hb0.drew) (fun hHeld1 => ?_)
          clear hK K hHeld
          (try simp only [Act.put, List.setIfInBounds_toArray, List.set_cons_zero, List.set_cons_succ])
          refine wpAnyH_ready (rs := [13]) (by kernel_rfl) (by simp) ?_
          refine AllReadyH.cons rfl (fun K hK => ?_) AllReadyH.nil
          go_simp
          go_at_call 39
          (with_reducible refine (HA.out _).mono ?_)
          rintro e wv ⟨rfl, hwv⟩
          have hbv : Below wq.heap.size wq.drew wv := hwv
          have r1v := (hbv.cell (p := ⟨g, i, none⟩) hgl).trans r1
          have f1v := (hbv.frozen (p := ⟨g, i, none⟩) hgl).trans f1
          go_wp2_with fail
          refine hK.out _ _ (HK.out _ (hb0.drew.trans hbv)) (fun hHeld2 => ?_)
          clear hK K hHeld1 hwv
          (try simp only [Act.put, List.setIfInBounds_toArray, List.set_cons_zero, List.set_cons_succ])
          refine take_yes 14 (some 65) (v := ?v14_13) rfl rfl (by kernel_rfl) (by kernel_rfl) (by kernel_rfl) (fun _ _ _ h => h) (by kernel_rfl) ?h14_13 (by assumption) ?_
          case h14_13 =>
            intro w hSw
            (try dsimp only at hSw)
            (try go_split_ands)
            go_simp
            try with_reducible rfl
          (try simp only [Act.put, List.setIfInBounds_toArray, List.set_cons_zero, List.set_cons_succ])
          refine take_yes 15 (some 66) (v := ?v15_14) rfl rfl (by kernel_rfl) (by kernel_rfl) (by kernel_rfl) (fun _ _ _ h => h) (by kernel_rfl) ?h15_14 (by assumption) ?_
          case h15_14 =>
            intro w hSw
            (try dsimp only at hSw)
            (try go_split_ands)
            go_simp
            try with_reducible rfl
          (try simp only [Act.put, List.setIfInBounds_toArray, List.set_cons_zero, List.set_cons_succ])
          refine take_yes 16 (some 67) (v := ?v16_15) rfl rfl (by kernel_rfl) (by kernel_rfl) (by kernel_rfl) (fun _ _ _ h => h) (by kernel_rfl) ?h16_15 (by assumption) ?_
          case h16_15 =>
            intro w hSw
            (try dsimp only at hSw)
            (try go_split_ands)
            go_simp
            try with_reducible rfl
          (try simp only [Act.put, List.setIfInBounds_toArray, List.set_cons_zero, List.set_cons_succ])
          refine take_yes 17 (some 68) (v := ?v17_16) rfl rfl (by kernel_rfl) (by kernel_rfl) (by kernel_rfl) (fun _ _ _ h => h) (by kernel_rfl) ?h17_16 (by assumption) ?_
          case h17_16 =>
            intro w hSw
            (try dsimp only at hSw)
            (try go_split_ands)
            go_simp
            try with_reducible rfl
          (try simp only [Act.put, List.setIfInBounds_toArray, List.set_cons_zero, List.set_cons_succ])
          refine wpAnyH_ready (rs := [18]) (by kernel_rfl) (by simp) ?_
          refine AllReadyH.cons rfl (fun K hK => ?_) AllReadyH.nil
          go_simp
          refine hK.out _ _ (HK2.out _ _ (HK.out _ (hb0.drew.trans hbv))) (fun hHeld3 => ?_)
          clear hK K hHeld2
          (try simp only [Act.put, List.setIfInBounds_toArray, List.set_cons_zero, List.set_cons_succ])
          refine wpAnyH_done (by kernel_rfl) ?_ _
          have hbq := hb0.drew.trans hbv
          refine ⟨keepsFrom_put hbq (by omega), ⟨(Below.heap_setCell wv ⟨g, i, none⟩ _ bs (by simp only; omega)).trans (hbq.block bs hbw), (Below.heap_setCell wv ⟨g, i, none⟩ _ a0.block (by simp only; omega)).trans (hbq.block a0.block (by omega))⟩, ⟨?_, ?_⟩⟩
          · refine (HST2.out wv hbq _).congr fun j hj => ?_
            rw [steps_snoc, HF.out]
            unfold stp
            simp only
            by_cases e : j = i
            · rw [if_pos e, if_pos e, HBVC.out.1, HBVC.out.2.1, HBVC.out.2.2]
              split <;> omega
            · rw [if_neg e, if_neg e]
          · simp [World.setCell]
            have := hbq.size
            omega
        · go_simp
          go_at_call 39
          (with_reducible refine (HA.out _).mono ?_)
          rintro e wv ⟨rfl, hwv⟩
          have hbv : Below wq.heap.size wq.drew wv := hwv
          have r1v := (hbv.cell (p := ⟨g, i, none⟩) hgl).trans r1
          have f1v := (hbv.frozen (p := ⟨g, i, none⟩) hgl).trans f1
          go_wp2_with fail
          refine hK.out _ _ (HK.out _ (hb0.drew.trans hbv)) (fun hHeld4 => ?_)
          clear hK K hHeld hwv
          (try simp only [Act.put, List.setIfInBounds_toArray, List.set_cons_zero, List.set_cons_succ])
          refine take_yes 14 (some 65) (v := ?v14_17) rfl rfl (by kernel_rfl) (by kernel_rfl) (by kernel_rfl) (fun _ _ _ h => h) (by kernel_rfl) ?h14_17 (by assumption) ?_
          case h14_17 =>
            intro w hSw
            (try dsimp only at hSw)
            (try go_split_ands)
            go_simp
            try with_reducible rfl
          (try simp only [Act.put, List.setIfInBounds_toArray, List.set_cons_zero, List.set_cons_succ])
          refine take_yes 15 (some 66) (v := ?v15_18) rfl rfl (by kernel_rfl) (by kernel_rfl) (by kernel_rfl) (fun _ _ _ h => h) (by kernel_rfl) ?h15_18 (by assumption) ?_
          case h15_18 =>
            intro w hSw
            (try dsimp only at hSw)
            (try go_split_ands)
            go_simp
            try with_reducible rfl
          (try simp only [Act.put, List.setIfInBounds_toArray, List.set_cons_zero, List.set_cons_succ])
          refine wpAnyH_ready (rs := [5]) (by kernel_rfl) (by simp) ?_
          refine AllReadyH.cons rfl (fun K hK => ?_) AllReadyH.nil
          go_simp
          refine hK.out _ _ (HK.out _ (hb0.drew.trans hbv)) (fun hHeld5 => ?_)
          clear hK K hHeld4
          (try simp only [Act.put, List.setIfInBounds_toArray, List.set_cons_zero, List.set_cons_succ])
          refine take_yes 16 (some 67) (v := ?v16_19) rfl rfl (by kernel_rfl) (by kernel_rfl) (by kernel_rfl) (fun _ _ _ h => h) (by kernel_rfl) ?h16_19 (by assumption) ?_
          case h16_19 =>
            intro w hSw
            (try dsimp only at hSw)
            (try go_split_ands)
            go_simp
            try with_reducible rfl
          (try simp only [Act.put, List.setIfInBounds_toArray, List.set_cons_zero, List.set_cons_succ])
          refine take_yes 17 (some 68) (v := ?v17_20) rfl rfl (by kernel_rfl) (by kernel_rfl) (by kernel_rfl) (fun _ _ _ h => h) (by kernel_rfl) ?h17_20 (by assumption) ?_
          case h17_20 =>
            intro w hSw
            (try dsimp only at hSw)
            (try go_split_ands)
            go_simp
            try with_reducible rfl
          (try simp only [Act.put, List.setIfInBounds_toArray, List.set_cons_zero, List.set_cons_succ])
          refine wpAnyH_ready (rs := [18]) (by kernel_rfl) (by simp) ?_
          refine AllReadyH.cons rfl (fun K hK => ?_) AllReadyH.nil
          go_simp
          refine hK.out _ _ (HK2.out _ _ (HK.out _ (hb0.drew.trans hbv))) (fun hHeld6 => ?_)
          clear hK K hHeld5
          (try simp only [Act.put, List.setIfInBounds_toArray, List.set_cons_zero, List.set_cons_succ])
          refine wpAnyH_done (by kernel_rfl) ?_ _
          have hbq := hb0.drew.trans hbv
          refine ⟨keepsFrom_put hbq (by omega), ⟨(Below.heap_setCell wv ⟨g, i, none⟩ _ bs (by simp only; omega)).trans (hbq.block bs hbw), (Below.heap_setCell wv ⟨g, i, none⟩ _ a0.block (by simp only; omega)).trans (hbq.block a0.block (by omega))⟩, ⟨?_, ?_⟩⟩
          · refine (HST2.out wv hbq _).congr fun j hj => ?_
            rw [steps_snoc, HF.out]
            unfold stp
            simp only
            by_cases e : j = i
            · rw [if_pos e, if_pos e, HBVC.out.1, HBVC.out.2.1, HBVC.out.2.2]
              split <;> omega
            · rw [if_neg e, if_neg e]
          · simp [World.setCell]
            have := hbq.size
            omega
      case done =>
        rintro D ys W hD rfl ⟨hi, hbw⟩ hK
        gi_wp2
        have hv := hi.cell
        have HI := Lib.hid hi
        have hgD : g ≠ D := by omega
        go_wp2
        refine ⟨by simp, .inl ⟨_, _, rfl, run_takeDeferred hK, ?_⟩⟩
        refine ⟨_, results_tmp rfl _ _ _, g, rfl, Nat.le_of_lt hg0, ?_, HI.out.below.grown (grownBy_putObj' W D _) (Nat.le_of_lt HI.out.size) (fun r e => by cases e; omega)⟩
        refine Row.congr (World.rowIs.of_block HI.out.row (World.putObj_heap_other (fun e => hgD e))) fun j hj => ?_
        exact steps_all (by omega)
      case stop =>
        rintro D c pre W _ _ h _
        exact h.elim

end Go.Proofs.Ytglcimahdgnnnaa.PSq
