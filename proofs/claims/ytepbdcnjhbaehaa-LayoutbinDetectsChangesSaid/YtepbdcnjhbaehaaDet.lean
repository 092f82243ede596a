/-
  The walk of the statement that a change of one byte of an encoding is seen.
-/
import Derived.Test.YtepbdcnjhbaehaaTrip
import Derived.Test.YtepbdcnjhbaehaaChg
import Derived.Test.YtepbdcnjhbaehaaMan
namespace Go.Proofs.Ytepbdcnjhbaehaa.Det
open Go.ChangeShapes Go.WideShapes Go.ChangeAt Go.RowKit Wd Small Mem Lay LayT Recs PNames PSecs PEnds Src Dec Eqs Awake PDec Enc REnc Maker LawF Man Trip Chg
set_option linter.unusedVariables false

theorem conv_one {y : World} {g : Nat} (b : UInt8) (h : y.heap[g]? = some (.cells #[.int .u8 (b.toNat : Int)] 5 (0, 0))) :
    (convert 36 9 (.slice (some ⟨g, 0, none⟩) 1 1)).run Try.prog y = .ok (.string ⟨#[b]⟩) y :=
  run_convert_bytes_back (P := Try.prog) _ 36 9 5 ⟨g, 0, none⟩ 1 [b] Try.underlying36 Try.underlying5 Try.underlying9 (fun j hj => by
    obtain rfl : j = 0 := by simpa using hj
    simp [Addr.add, World.cell?, h])
theorem four_below {w y : World} {g : Nat} {v0 v1 v2 v3 : Value} {t : TypeId} {c : Array Value} (hb : Below w.heap.size w y) (h : y.heap[g]? = some (.cells c t (0, 0))) (hg : w.heap.size ≤ g) :
    Below w.heap.size w ((((y.setCell ⟨g, 0, none⟩ v0).setCell ⟨g, 1, none⟩ v1).setCell ⟨g, 2, none⟩ v2).setCell ⟨g, 3, none⟩ v3) :=
  (((hb.setCell (p := ⟨g, 0, none⟩) hg _).setCell (p := ⟨g, 1, none⟩) hg _).setCell (p := ⟨g, 2, none⟩) hg _).setCell (p := ⟨g, 3, none⟩) hg _

set_option maxRecDepth 100000 in
set_option maxHeartbeats 4000000 in
theorem detects (A0 : Option Addr) (n0 c0 : Nat) (hn0 : n0 ≤ c0) (hc0 : c0 ≤ 9223372036854775807) (a1 : Int) (w1 : (Lit.int .i64 a1).wf = true) (a2 : Int) (w2 : (Lit.int .u8 a2).wf = true) (w : World) (hI : Ints w w.heap.size A0 n0) :
    Calls Try.prog 10 #[.slice A0 n0 c0, .int .i64 a1, .int .u8 a2] w (Yes w) := by
  obtain ⟨b11, b12⟩ := bounds_i64 w1
  obtain ⟨b21, b22⟩ : 0 ≤ a2 ∧ a2 ≤ 255 := by simpa [Lit.wf, IntKind.min, IntKind.max, IntKind.signed, IntKind.bits] using w2
  clear w1 w2
  obtain ⟨b, hb⟩ : ∃ b : UInt8, a2 = (b.toNat : Int) := ⟨UInt8.ofNat a2.toNat, by rw [UInt8.toNat_ofNat']; omega⟩
  subst hb
  go_enter Try.func10, Try.ntmps10
  go_wp2_with fail
  refine (layout_any A0 n0 c0 w hI (by omega)).mono ?_
  rintro e wl ⟨v, L, rfl, hR, hv, hbl⟩
  have HBL := Lib.hid hbl
  have HE := Lib.hid (enco hv (r_encode v L wl hR))
  unfold Enco at HE
  have hsm := enc_small hv
  have hlen : 12 ≤ (Bin.enc L).length := by rw [Bin.enc_len]; have := Bin.body_len L; omega
  obtain ⟨E, hE⟩ : ∃ E, Bin.enc L = E := ⟨_, rfl⟩
  have HP := Lib.hid (fun (p q : Bs) (c d : UInt8) (he : E = p ++ c :: q) (hcd : c ≠ d) => Bin.decode_change (l := L) p q c d (hE.trans he) hcd)
  rw [hE] at HE hsm hlen
  clear hR hbl hI hv hE
  obtain ⟨A1, n1, c1, A2, n2, c2, A3, n3, c3, A4, n4, c4⟩ := v
  simp only [LV.val] at *
  go_wp2_with fail
  refine HE.out.mono ?_
  rintro e we ⟨rfl, hbe⟩
  have HW := Lib.hid (HBL.out.trans (hbe.mono HBL.out.size))
  clear hbe HE HBL
  have hts : (str E).size = E.length := size_str E
  obtain ⟨s, ht⟩ : ∃ t, str E = t := ⟨_, rfl⟩
  have hbt : bs s = E := by rw [← ht, bs_str]
  rw [ht] at hts ⊢
  have hlt : 12 ≤ s.size := by omega
  have hst : s.size ≤ 100000 := by omega
  clear ht hts hlen hsm
  subst hbt
  go_wp2_with fail
  refine (pick_any a1 (s.size : Nat) we b11 b12 (by omega) (by omega)).mono ?_
  rintro e wx ⟨rfl, rfl⟩
  obtain ⟨p0, p1⟩ := pick_range a1 (s.size : Nat) (by omega)
  obtain ⟨q, hq⟩ : ∃ q : Nat, pick a1 (s.size : Nat) = q := ⟨(pick a1 (s.size : Nat)).toNat, by omega⟩
  rw [hq] at p0 p1 ⊢
  clear hq
  have hqs : q < s.size := by omega
  by_cases hsb : s[q] = b
  · have hsb' : ((s[q].toNat : Int) == (b.toNat : Int)) = true := by simp [hsb]
    go_wp2_with (first | (go_at_call 15; refine (Awk.awake_any _).mono ?_; rintro e w' ⟨rfl, rfl⟩) | fail)
    go_ret
    exact ⟨by simp, HW.out⟩
  · have hsb' : ((s[q].toNat : Int) == (b.toNat : Int)) = false := by
      have : s[q].toNat ≠ b.toNat := fun h => hsb (UInt8.toNat_inj.1 h)
      simp; omega
    have hcv : ∀ wx : World, (convert 36 9 (.slice (some ⟨wx.heap.size, 0, none⟩) 1 1)).run Try.prog (wx.alloc (.cells #[.int .u8 (b.toNat : Int)] 5)) = .ok (.string ⟨#[b]⟩) (wx.alloc (.cells #[.int .u8 (b.toNat : Int)] 5)) := fun wx =>
      run_convert_bytes_back (P := Try.prog) _ 36 9 5 ⟨wx.heap.size, 0, none⟩ 1 [b] Try.underlying36 Try.underlying5 Try.underlying9 (fun j hj => by
        obtain rfl : j = 0 := by simpa using hj
        simp [Addr.add])
    obtain ⟨u1, hu1, s1⟩ : ∃ u : ByteArray, s.extract 0 q = u ∧ u.size ≤ q := ⟨_, rfl, by rw [ByteArray.size_extract]; omega⟩
    obtain ⟨u2, hu2, s2⟩ : ∃ u : ByteArray, s.extract (q + 1) s.size = u ∧ u.size ≤ s.size - (q + 1) := ⟨_, rfl, by rw [ByteArray.size_extract]; omega⟩
    have l1 : u1.size + (⟨#[b]⟩ : ByteArray).size ≤ 9223372036854775807 := by have : (⟨#[b]⟩ : ByteArray).size = 1 := rfl; omega
    obtain ⟨u3, hu3, s3⟩ : ∃ c : ByteArray, u1 ++ ⟨#[b]⟩ = c ∧ c.size ≤ q + 1 := ⟨_, rfl, by rw [ByteArray.size_append]; have : (⟨#[b]⟩ : ByteArray).size = 1 := rfl; omega⟩
    have l2 : u3.size + u2.size ≤ 9223372036854775807 := by omega
    obtain ⟨u4, hu4, s4⟩ : ∃ c : ByteArray, u3 ++ u2 = c ∧ c.size ≤ 9223372036854775807 := ⟨_, rfl, by rw [ByteArray.size_append]; omega⟩
    have hu4b : bs u4 = (bs s).take q ++ b :: (bs s).drop (q + 1) := by rw [← hu4, ← hu3, ← hu2, ← hu1]; exact around s q hqs b
    have hne := HP.out ((bs s).take q) ((bs s).drop (q + 1)) s[q] b (back s q hqs) hsb
    rw [← hu4b] at hne
    have HD := Lib.hid (fun wx => p_decode u4 wx s4)
    generalize Bin.decode (bs u4) = R at *
    obtain ⟨DL, di, de⟩ := R
    simp only at hne
    have hne' : (de != 0) = true := by simpa using hne
    have hne2 : (de == 0) = false := by simpa using hne
    have c0' : (0 : Int) ≤ q := by omega
    have c1' : (q : Int) ≤ (s.size : Int) := by omega
    have c2' : (0 : Int) ≤ (q : Int) + 1 := by omega
    have c3' : (q : Int) + 1 ≤ (s.size : Int) := by omega
    have hwq : IntKind.i64.wrap ((q : Int) + 1) = (q : Int) + 1 := IntWalk.i64_in _ (by omega)
    have htq : ((q : Int) + 1).toNat = q + 1 := by omega
    have n1' : ¬ 9223372036854775807 < u1.size + 1 := by have h : (⟨#[b]⟩ : ByteArray).size = 1 := rfl; omega
    have n2' : ¬ 9223372036854775807 < u3.size + u2.size := by omega
    clear hu4b hne HP hsb
    go_upto_region 5 with fail
    refine wp_region_held_drew (S := fun _ => True) (by kernel_rfl) trivial (fun hHeld => ?_)
    have HB0 := Lib.hid HW.out.drew
    clear HW
    generalize we.drew = y0 at *
    refine take_yes 0 (some 30) (v := ?v0_1) rfl rfl (by kernel_rfl) (by kernel_rfl) (by kernel_rfl) (fun _ _ _ h => h) (by kernel_rfl) ?h0_1 (by assumption) ?_
    case h0_1 =>
      intro w hSw
      (try dsimp only at hSw)
      (try go_split_ands)
      go_simp
      try with_reducible rfl
    (try simp only [Act.put, List.setIfInBounds_toArray, List.set_cons_zero, List.set_cons_succ])
    refine take_yes 1 (some 31) (v := ?v1_2) rfl rfl (by kernel_rfl) (by kernel_rfl) (by kernel_rfl) (fun _ _ _ h => h) (by kernel_rfl) ?h1_2 (by assumption) ?_
    case h1_2 =>
      intro w hSw
      (try dsimp only at hSw)
      (try go_split_ands)
      go_simp
      try with_reducible rfl
    (try simp only [Act.put, List.setIfInBounds_toArray, List.set_cons_zero, List.set_cons_succ])
    refine take_yes 2 (some 32) (v := ?v2_3) rfl rfl (by kernel_rfl) (by kernel_rfl) (by kernel_rfl) (fun _ _ _ h => h) (by kernel_rfl) ?h2_3 (by assumption) ?_
    case h2_3 =>
      intro w hSw
      (try dsimp only at hSw)
      (try go_split_ands)
      go_simp
      try with_reducible rfl
    (try simp only [Act.put, List.setIfInBounds_toArray, List.set_cons_zero, List.set_cons_succ])
    refine take_yes 3 (some 33) (v := ?v3_4) rfl rfl (by kernel_rfl) (by kernel_rfl) (by kernel_rfl) (fun _ _ _ h => h) (by kernel_rfl) ?h3_4 (by assumption) ?_
    case h3_4 =>
      intro w hSw
      (try dsimp only at hSw)
      (try go_split_ands)
      go_simp
      try with_reducible rfl
    (try simp only [Act.put, List.setIfInBounds_toArray, List.set_cons_zero, List.set_cons_succ])
    refine take_yes 7 (some 37) (v := ?v7_5) rfl rfl (by kernel_rfl) (by kernel_rfl) (by kernel_rfl) (fun _ _ _ h => h) (by kernel_rfl) ?h7_5 (by assumption) ?_
    case h7_5 =>
      intro w hSw
      (try dsimp only at hSw)
      (try go_split_ands)
      go_simp
      try with_reducible rfl
    (try simp only [Act.put, List.setIfInBounds_toArray, List.set_cons_zero, List.set_cons_succ])
    refine take_yes 8 (some 38) (v := ?v8_6) rfl rfl (by kernel_rfl) (by kernel_rfl) (by kernel_rfl) (fun _ _ _ h => h) (by kernel_rfl) ?h8_6 (by assumption) ?_
    case h8_6 =>
      intro w hSw
      (try dsimp only at hSw)
      (try go_split_ands)
      go_simp
      try with_reducible rfl
    (try simp only [Act.put, List.setIfInBounds_toArray, List.set_cons_zero, List.set_cons_succ])
    refine take_yes 9 (some 39) (v := ?v9_7) rfl rfl (by kernel_rfl) (by kernel_rfl) (by kernel_rfl) (fun _ _ _ h => h) (by kernel_rfl) ?h9_7 (by assumption) ?_
    case h9_7 =>
      intro w hSw
      (try dsimp only at hSw)
      (try go_split_ands)
      go_simp
      try with_reducible rfl
    (try simp only [Act.put, List.setIfInBounds_toArray, List.set_cons_zero, List.set_cons_succ])
    refine take_yes 10 (some 40) (v := ?v10_8) rfl rfl (by kernel_rfl) (by kernel_rfl) (by kernel_rfl) (fun _ _ _ h => h) (by kernel_rfl) ?h10_8 (by assumption) ?_
    case h10_8 =>
      intro w hSw
      (try dsimp only at hSw)
      (try go_split_ands)
      go_simp
      try with_reducible rfl
    (try simp only [Act.put, List.setIfInBounds_toArray, List.set_cons_zero, List.set_cons_succ])
    refine wpAnyH_ready (rs := [4, 17]) (by kernel_rfl) (by simp) ?_
    refine AllReadyH.cons rfl (fun K hK => ?_) (AllReadyH.cons rfl (fun K hK => ?_) AllReadyH.nil)
    · go_simp
      refine hK.out _ _ trivial (fun hHeld1 => ?_)
      clear hK K hHeld
      (try simp only [Act.put, List.setIfInBounds_toArray, List.set_cons_zero, List.set_cons_succ])
      obtain ⟨y1, hy1⟩ : ∃ yy, y0.alloc (.cells #[.int .u8 (b.toNat : Int)] 5) = yy := ⟨_, rfl⟩
      have hx1 : y1.heap[y0.heap.size]? = some (.cells #[.int .u8 (b.toNat : Int)] 5 (0, 0)) := by rw [← hy1]; exact heap_alloc_new _ _
      have hb1 : Below y0.heap.size y0 y1 := by rw [← hy1]; exact (Below.refl _ _).alloc (Nat.le_refl _) _
      have HB1 := Lib.hid (HB0.out.trans (hb1.mono HB0.out.size))
      rw [hy1]
      clear hy1 hb1
      refine wpAnyH_ready (rs := [5, 17]) (by kernel_rfl) (by simp) ?_
      refine AllReadyH.cons rfl (fun K hK => ?_) (AllReadyH.cons rfl (fun K hK => ?_) AllReadyH.nil)
      · have hcv2 := conv_one b hx1
        go_simp
        refine hK.out _ _ trivial (fun hHeld2 => ?_)
        clear hK K hHeld1 hcv2
        (try simp only [Act.put, List.setIfInBounds_toArray, List.set_cons_zero, List.set_cons_succ])
        refine take_yes 6 (some 36) (v := ?v6_9) rfl rfl (by kernel_rfl) (by kernel_rfl) (by kernel_rfl) (fun _ _ _ h => h) (by kernel_rfl) ?h6_9 (by assumption) ?_
        case h6_9 =>
          intro w hSw
          (try dsimp only at hSw)
          (try go_split_ands)
          go_simp
          try with_reducible rfl
        (try simp only [Act.put, List.setIfInBounds_toArray, List.set_cons_zero, List.set_cons_succ])
        refine take_yes 11 (some 41) (v := ?v11_10) rfl rfl (by kernel_rfl) (by kernel_rfl) (by kernel_rfl) (fun _ _ _ h => h) (by kernel_rfl) ?h11_10 (by assumption) ?_
        case h11_10 =>
          intro w hSw
          (try dsimp only at hSw)
          (try go_split_ands)
          go_simp
          try with_reducible rfl
        (try simp only [Act.put, List.setIfInBounds_toArray, List.set_cons_zero, List.set_cons_succ])
        refine wpAnyH_ready (rs := [12, 17]) (by kernel_rfl) (by simp) ?_
        refine AllReadyH.cons rfl (fun K hK => ?_) (AllReadyH.cons rfl (fun K hK => ?_) AllReadyH.nil)
        · go_simp
          go_at_call 22
          (with_reducible refine (HD.out _).mono ?_)
          rintro e y3 ⟨v2, rfl, hR2, hb3⟩
          obtain ⟨B1, k1, d1, B2, k2, d2, B3, k3, d3, B4, k4, d4⟩ := v2
          simp only [LV.val]
          go_wp2_with fail
          refine hK.out _ _ trivial (fun hHeld3 => ?_)
          clear hK K hHeld2 hR2
          (try simp only [Act.put, List.setIfInBounds_toArray, List.set_cons_zero, List.set_cons_succ])
          have HB3 := Lib.hid (HB1.out.trans (hb3.mono HB1.out.size))
          have hx1_3 := (hb3.block _ (Array.getElem?_eq_some_iff.1 hx1).1).trans hx1
          clear hb3
          refine take_yes 13 (some 29) (v := ?v13_11) rfl rfl (by kernel_rfl) (by kernel_rfl) (by kernel_rfl) (fun _ _ _ h => h) (by kernel_rfl) ?h13_11 (by assumption) ?_
          case h13_11 =>
            intro w hSw
            (try dsimp only at hSw)
            (try go_split_ands)
            go_simp
            try with_reducible rfl
          (try simp only [Act.put, List.setIfInBounds_toArray, List.set_cons_zero, List.set_cons_succ])
          refine take_yes 14 (some 43) (v := ?v14_12) rfl rfl (by kernel_rfl) (by kernel_rfl) (by kernel_rfl) (fun _ _ _ h => h) (by kernel_rfl) ?h14_12 (by assumption) ?_
          case h14_12 =>
            intro w hSw
            (try dsimp only at hSw)
            (try go_split_ands)
            go_simp
            try with_reducible rfl
          (try simp only [Act.put, List.setIfInBounds_toArray, List.set_cons_zero, List.set_cons_succ])
          refine take_yes 15 (some 44) (v := ?v15_13) rfl rfl (by kernel_rfl) (by kernel_rfl) (by kernel_rfl) (fun _ _ _ h => h) (by kernel_rfl) ?h15_13 (by assumption) ?_
          case h15_13 =>
            intro w hSw
            (try dsimp only at hSw)
            (try go_split_ands)
            go_simp
            try with_reducible rfl
          (try simp only [Act.put, List.setIfInBounds_toArray, List.set_cons_zero, List.set_cons_succ])
          refine take_yes 16 (some 45) (v := ?v16_14) rfl rfl (by kernel_rfl) (by kernel_rfl) (by kernel_rfl) (fun _ _ _ h => h) (by kernel_rfl) ?h16_14 (by assumption) ?_
          case h16_14 =>
            intro w hSw
            (try dsimp only at hSw)
            (try go_split_ands)
            go_simp
            try with_reducible rfl
          (try simp only [Act.put, List.setIfInBounds_toArray, List.set_cons_zero, List.set_cons_succ])
          refine wpAnyH_ready (rs := [17]) (by kernel_rfl) (by simp) ?_
          refine AllReadyH.cons rfl (fun K hK => ?_) AllReadyH.nil
          go_simp
          refine hK.out _ _ trivial (fun hHeld4 => ?_)
          clear hK K hHeld3
          (try simp only [Act.put, List.setIfInBounds_toArray, List.set_cons_zero, List.set_cons_succ])
          obtain ⟨y4, hy4⟩ : ∃ yy, y3.alloc (.cells #[.slice none 0 0, .slice none 0 0, .slice none 0 0, .slice none 0 0] 29) = yy := ⟨_, rfl⟩
          have hx4 : y4.heap[y3.heap.size]? = some (.cells #[.slice none 0 0, .slice none 0 0, .slice none 0 0, .slice none 0 0] 29 (0, 0)) := by rw [← hy4]; exact heap_alloc_new _ _
          have hb4 : Below y3.heap.size y3 y4 := by rw [← hy4]; exact (Below.refl _ _).alloc (Nat.le_refl _) _
          have HB4 := Lib.hid (HB3.out.trans (hb4.mono HB3.out.size))
          rw [hy4]
          have hx1_3_4 := (hb4.block _ (Array.getElem?_eq_some_iff.1 hx1_3).1).trans hx1_3
          clear hy4 hb4
          refine wpAnyH_ready (rs := [18]) (by kernel_rfl) (by simp) ?_
          refine AllReadyH.cons rfl (fun K hK => ?_) AllReadyH.nil
          obtain ⟨⟨z0, z1, z2, z3⟩, f0, f1, f2, f3⟩ := res_cells hx4
          have HB5 := Lib.hid (four_below HB4.out hx4 (v0 := .slice B1 k1 d1) (v1 := .slice B2 k2 d2) (v2 := .slice B3 k3 d3) (v3 := .slice B4 k4 d4) HB3.out.size)
          go_simp
          refine hK.out _ _ trivial (fun hHeld5 => ?_)
          clear hK K hHeld4 z0 z1 z2 z3 f0 f1 f2 f3
          (try simp only [Act.put, List.setIfInBounds_toArray, List.set_cons_zero, List.set_cons_succ])
          refine take_yes 19 (some 11) (v := ?v19_15) rfl rfl (by kernel_rfl) (by kernel_rfl) (by kernel_rfl) (fun _ _ _ h => h) (by kernel_rfl) ?h19_15 (by assumption) ?_
          case h19_15 =>
            intro w hSw
            (try dsimp only at hSw)
            (try go_split_ands)
            go_simp
            try with_reducible rfl
          (try simp only [Act.put, List.setIfInBounds_toArray, List.set_cons_zero, List.set_cons_succ])
          refine take_yes 20 (some 12) (v := ?v20_16) rfl rfl (by kernel_rfl) (by kernel_rfl) (by kernel_rfl) (fun _ _ _ h => h) (by kernel_rfl) ?h20_16 (by assumption) ?_
          case h20_16 =>
            intro w hSw
            (try dsimp only at hSw)
            (try go_split_ands)
            go_simp
            try with_reducible rfl
          (try simp only [Act.put, List.setIfInBounds_toArray, List.set_cons_zero, List.set_cons_succ])
          refine wpAnyH_done (by kernel_rfl) ?_ _
          go_wp2_with (first | (go_at_call 15; refine (Awk.awake_any _).mono ?_; rintro e w' ⟨rfl, rfl⟩) | fail)
          go_ret
          exact ⟨by simp, HB5.out⟩
        · go_simp
          refine hK.out _ _ trivial (fun hHeld6 => ?_)
          clear hK K hHeld2
          (try simp only [Act.put, List.setIfInBounds_toArray, List.set_cons_zero, List.set_cons_succ])
          obtain ⟨y6, hy6⟩ : ∃ yy, y1.alloc (.cells #[.slice none 0 0, .slice none 0 0, .slice none 0 0, .slice none 0 0] 29) = yy := ⟨_, rfl⟩
          have hx6 : y6.heap[y1.heap.size]? = some (.cells #[.slice none 0 0, .slice none 0 0, .slice none 0 0, .slice none 0 0] 29 (0, 0)) := by rw [← hy6]; exact heap_alloc_new _ _
          have hb6 : Below y1.heap.size y1 y6 := by rw [← hy6]; exact (Below.refl _ _).alloc (Nat.le_refl _) _
          have HB6 := Lib.hid (HB1.out.trans (hb6.mono HB1.out.size))
          rw [hy6]
          have hx1_6 := (hb6.block _ (Array.getElem?_eq_some_iff.1 hx1).1).trans hx1
          clear hy6 hb6
          refine wpAnyH_ready (rs := [12]) (by kernel_rfl) (by simp) ?_
          refine AllReadyH.cons rfl (fun K hK => ?_) AllReadyH.nil
          go_simp
          go_at_call 22
          (with_reducible refine (HD.out _).mono ?_)
          rintro e y7 ⟨v2, rfl, hR2, hb7⟩
          obtain ⟨B1, k1, d1, B2, k2, d2, B3, k3, d3, B4, k4, d4⟩ := v2
          simp only [LV.val]
          go_wp2_with fail
          refine hK.out _ _ trivial (fun hHeld7 => ?_)
          clear hK K hHeld6 hR2
          (try simp only [Act.put, List.setIfInBounds_toArray, List.set_cons_zero, List.set_cons_succ])
          have HB7 := Lib.hid (HB6.out.trans (hb7.mono HB6.out.size))
          have hx1_6_7 := (hb7.block _ (Array.getElem?_eq_some_iff.1 hx1_6).1).trans hx1_6
          have hx6_7 := (hb7.block _ (Array.getElem?_eq_some_iff.1 hx6).1).trans hx6
          clear hb7
          refine take_yes 13 (some 29) (v := ?v13_17) rfl rfl (by kernel_rfl) (by kernel_rfl) (by kernel_rfl) (fun _ _ _ h => h) (by kernel_rfl) ?h13_17 (by assumption) ?_
          case h13_17 =>
            intro w hSw
            (try dsimp only at hSw)
            (try go_split_ands)
            go_simp
            try with_reducible rfl
          (try simp only [Act.put, List.setIfInBounds_toArray, List.set_cons_zero, List.set_cons_succ])
          refine take_yes 14 (some 43) (v := ?v14_18) rfl rfl (by kernel_rfl) (by kernel_rfl) (by kernel_rfl) (fun _ _ _ h => h) (by kernel_rfl) ?h14_18 (by assumption) ?_
          case h14_18 =>
            intro w hSw
            (try dsimp only at hSw)
            (try go_split_ands)
            go_simp
            try with_reducible rfl
          (try simp only [Act.put, List.setIfInBounds_toArray, List.set_cons_zero, List.set_cons_succ])
          refine take_yes 15 (some 44) (v := ?v15_19) rfl rfl (by kernel_rfl) (by kernel_rfl) (by kernel_rfl) (fun _ _ _ h => h) (by kernel_rfl) ?h15_19 (by assumption) ?_
          case h15_19 =>
            intro w hSw
            (try dsimp only at hSw)
            (try go_split_ands)
            go_simp
            try with_reducible rfl
          (try simp only [Act.put, List.setIfInBounds_toArray, List.set_cons_zero, List.set_cons_succ])
          refine take_yes 16 (some 45) (v := ?v16_20) rfl rfl (by kernel_rfl) (by kernel_rfl) (by kernel_rfl) (fun _ _ _ h => h) (by kernel_rfl) ?h16_20 (by assumption) ?_
          case h16_20 =>
            intro w hSw
            (try dsimp only at hSw)
            (try go_split_ands)
            go_simp
            try with_reducible rfl
          (try simp only [Act.put, List.setIfInBounds_toArray, List.set_cons_zero, List.set_cons_succ])
          refine wpAnyH_ready (rs := [18]) (by kernel_rfl) (by simp) ?_
          refine AllReadyH.cons rfl (fun K hK => ?_) AllReadyH.nil
          obtain ⟨⟨z0, z1, z2, z3⟩, f0, f1, f2, f3⟩ := res_cells hx6_7
          have HB8 := Lib.hid (four_below HB7.out hx6_7 (v0 := .slice B1 k1 d1) (v1 := .slice B2 k2 d2) (v2 := .slice B3 k3 d3) (v3 := .slice B4 k4 d4) HB1.out.size)
          go_simp
          refine hK.out _ _ trivial (fun hHeld8 => ?_)
          clear hK K hHeld7 z0 z1 z2 z3 f0 f1 f2 f3
          (try simp only [Act.put, List.setIfInBounds_toArray, List.set_cons_zero, List.set_cons_succ])
          refine take_yes 19 (some 11) (v := ?v19_21) rfl rfl (by kernel_rfl) (by kernel_rfl) (by kernel_rfl) (fun _ _ _ h => h) (by kernel_rfl) ?h19_21 (by assumption) ?_
          case h19_21 =>
            intro w hSw
            (try dsimp only at hSw)
            (try go_split_ands)
            go_simp
            try with_reducible rfl
          (try simp only [Act.put, List.setIfInBounds_toArray, List.set_cons_zero, List.set_cons_succ])
          refine take_yes 20 (some 12) (v := ?v20_22) rfl rfl (by kernel_rfl) (by kernel_rfl) (by kernel_rfl) (fun _ _ _ h => h) (by kernel_rfl) ?h20_22 (by assumption) ?_
          case h20_22 =>
            intro w hSw
            (try dsimp only at hSw)
            (try go_split_ands)
            go_simp
            try with_reducible rfl
          (try simp only [Act.put, List.setIfInBounds_toArray, List.set_cons_zero, List.set_cons_succ])
          refine wpAnyH_done (by kernel_rfl) ?_ _
          go_wp2_with (first | (go_at_call 15; refine (Awk.awake_any _).mono ?_; rintro e w' ⟨rfl, rfl⟩) | fail)
          go_ret
          exact ⟨by simp, HB8.out⟩
      · go_simp
        refine hK.out _ _ trivial (fun hHeld9 => ?_)
        clear hK K hHeld1
        (try simp only [Act.put, List.setIfInBounds_toArray, List.set_cons_zero, List.set_cons_succ])
        obtain ⟨y9, hy9⟩ : ∃ yy, y1.alloc (.cells #[.slice none 0 0, .slice none 0 0, .slice none 0 0, .slice none 0 0] 29) = yy := ⟨_, rfl⟩
        have hx9 : y9.heap[y1.heap.size]? = some (.cells #[.slice none 0 0, .slice none 0 0, .slice none 0 0, .slice none 0 0] 29 (0, 0)) := by rw [← hy9]; exact heap_alloc_new _ _
        have hb9 : Below y1.heap.size y1 y9 := by rw [← hy9]; exact (Below.refl _ _).alloc (Nat.le_refl _) _
        have HB9 := Lib.hid (HB1.out.trans (hb9.mono HB1.out.size))
        rw [hy9]
        have hx1_9 := (hb9.block _ (Array.getElem?_eq_some_iff.1 hx1).1).trans hx1
        clear hy9 hb9
        refine wpAnyH_ready (rs := [5]) (by kernel_rfl) (by simp) ?_
        refine AllReadyH.cons rfl (fun K hK => ?_) AllReadyH.nil
        have hcv10 := conv_one b hx1_9
        go_simp
        refine hK.out _ _ trivial (fun hHeld10 => ?_)
        clear hK K hHeld9 hcv10
        (try simp only [Act.put, List.setIfInBounds_toArray, List.set_cons_zero, List.set_cons_succ])
        refine take_yes 6 (some 36) (v := ?v6_23) rfl rfl (by kernel_rfl) (by kernel_rfl) (by kernel_rfl) (fun _ _ _ h => h) (by kernel_rfl) ?h6_23 (by assumption) ?_
        case h6_23 =>
          intro w hSw
          (try dsimp only at hSw)
          (try go_split_ands)
          go_simp
          try with_reducible rfl
        (try simp only [Act.put, List.setIfInBounds_toArray, List.set_cons_zero, List.set_cons_succ])
        refine take_yes 11 (some 41) (v := ?v11_24) rfl rfl (by kernel_rfl) (by kernel_rfl) (by kernel_rfl) (fun _ _ _ h => h) (by kernel_rfl) ?h11_24 (by assumption) ?_
        case h11_24 =>
          intro w hSw
          (try dsimp only at hSw)
          (try go_split_ands)
          go_simp
          try with_reducible rfl
        (try simp only [Act.put, List.setIfInBounds_toArray, List.set_cons_zero, List.set_cons_succ])
        refine wpAnyH_ready (rs := [12]) (by kernel_rfl) (by simp) ?_
        refine AllReadyH.cons rfl (fun K hK => ?_) AllReadyH.nil
        go_simp
        go_at_call 22
        (with_reducible refine (HD.out _).mono ?_)
        rintro e y11 ⟨v2, rfl, hR2, hb11⟩
        obtain ⟨B1, k1, d1, B2, k2, d2, B3, k3, d3, B4, k4, d4⟩ := v2
        simp only [LV.val]
        go_wp2_with fail
        refine hK.out _ _ trivial (fun hHeld11 => ?_)
        clear hK K hHeld10 hR2
        (try simp only [Act.put, List.setIfInBounds_toArray, List.set_cons_zero, List.set_cons_succ])
        have HB11 := Lib.hid (HB9.out.trans (hb11.mono HB9.out.size))
        have hx1_9_11 := (hb11.block _ (Array.getElem?_eq_some_iff.1 hx1_9).1).trans hx1_9
        have hx9_11 := (hb11.block _ (Array.getElem?_eq_some_iff.1 hx9).1).trans hx9
        clear hb11
        refine take_yes 13 (some 29) (v := ?v13_25) rfl rfl (by kernel_rfl) (by kernel_rfl) (by kernel_rfl) (fun _ _ _ h => h) (by kernel_rfl) ?h13_25 (by assumption) ?_
        case h13_25 =>
          intro w hSw
          (try dsimp only at hSw)
          (try go_split_ands)
          go_simp
          try with_reducible rfl
        (try simp only [Act.put, List.setIfInBounds_toArray, List.set_cons_zero, List.set_cons_succ])
        refine take_yes 14 (some 43) (v := ?v14_26) rfl rfl (by kernel_rfl) (by kernel_rfl) (by kernel_rfl) (fun _ _ _ h => h) (by kernel_rfl) ?h14_26 (by assumption) ?_
        case h14_26 =>
          intro w hSw
          (try dsimp only at hSw)
          (try go_split_ands)
          go_simp
          try with_reducible rfl
        (try simp only [Act.put, List.setIfInBounds_toArray, List.set_cons_zero, List.set_cons_succ])
        refine take_yes 15 (some 44) (v := ?v15_27) rfl rfl (by kernel_rfl) (by kernel_rfl) (by kernel_rfl) (fun _ _ _ h => h) (by kernel_rfl) ?h15_27 (by assumption) ?_
        case h15_27 =>
          intro w hSw
          (try dsimp only at hSw)
          (try go_split_ands)
          go_simp
          try with_reducible rfl
        (try simp only [Act.put, List.setIfInBounds_toArray, List.set_cons_zero, List.set_cons_succ])
        refine take_yes 16 (some 45) (v := ?v16_28) rfl rfl (by kernel_rfl) (by kernel_rfl) (by kernel_rfl) (fun _ _ _ h => h) (by kernel_rfl) ?h16_28 (by assumption) ?_
        case h16_28 =>
          intro w hSw
          (try dsimp only at hSw)
          (try go_split_ands)
          go_simp
          try with_reducible rfl
        (try simp only [Act.put, List.setIfInBounds_toArray, List.set_cons_zero, List.set_cons_succ])
        refine wpAnyH_ready (rs := [18]) (by kernel_rfl) (by simp) ?_
        refine AllReadyH.cons rfl (fun K hK => ?_) AllReadyH.nil
        obtain ⟨⟨z0, z1, z2, z3⟩, f0, f1, f2, f3⟩ := res_cells hx9_11
        have HB12 := Lib.hid (four_below HB11.out hx9_11 (v0 := .slice B1 k1 d1) (v1 := .slice B2 k2 d2) (v2 := .slice B3 k3 d3) (v3 := .slice B4 k4 d4) HB1.out.size)
        go_simp
        refine hK.out _ _ trivial (fun hHeld12 => ?_)
        clear hK K hHeld11 z0 z1 z2 z3 f0 f1 f2 f3
        (try simp only [Act.put, List.setIfInBounds_toArray, List.set_cons_zero, List.set_cons_succ])
        refine take_yes 19 (some 11) (v := ?v19_29) rfl rfl (by kernel_rfl) (by kernel_rfl) (by kernel_rfl) (fun _ _ _ h => h) (by kernel_rfl) ?h19_29 (by assumption) ?_
        case h19_29 =>
          intro w hSw
          (try dsimp only at hSw)
          (try go_split_ands)
          go_simp
          try with_reducible rfl
        (try simp only [Act.put, List.setIfInBounds_toArray, List.set_cons_zero, List.set_cons_succ])
        refine take_yes 20 (some 12) (v := ?v20_30) rfl rfl (by kernel_rfl) (by kernel_rfl) (by kernel_rfl) (fun _ _ _ h => h) (by kernel_rfl) ?h20_30 (by assumption) ?_
        case h20_30 =>
          intro w hSw
          (try dsimp only at hSw)
          (try go_split_ands)
          go_simp
          try with_reducible rfl
        (try simp only [Act.put, List.setIfInBounds_toArray, List.set_cons_zero, List.set_cons_succ])
        refine wpAnyH_done (by kernel_rfl) ?_ _
        go_wp2_with (first | (go_at_call 15; refine (Awk.awake_any _).mono ?_; rintro e w' ⟨rfl, rfl⟩) | fail)
        go_ret
        exact ⟨by simp, HB12.out⟩
    · go_simp
      refine hK.out _ _ trivial (fun hHeld13 => ?_)
      clear hK K hHeld
      (try simp only [Act.put, List.setIfInBounds_toArray, List.set_cons_zero, List.set_cons_succ])
      obtain ⟨y13, hy13⟩ : ∃ yy, y0.alloc (.cells #[.slice none 0 0, .slice none 0 0, .slice none 0 0, .slice none 0 0] 29) = yy := ⟨_, rfl⟩
      have hx13 : y13.heap[y0.heap.size]? = some (.cells #[.slice none 0 0, .slice none 0 0, .slice none 0 0, .slice none 0 0] 29 (0, 0)) := by rw [← hy13]; exact heap_alloc_new _ _
      have hb13 : Below y0.heap.size y0 y13 := by rw [← hy13]; exact (Below.refl _ _).alloc (Nat.le_refl _) _
      have HB13 := Lib.hid (HB0.out.trans (hb13.mono HB0.out.size))
      rw [hy13]
      clear hy13 hb13
      refine wpAnyH_ready (rs := [4]) (by kernel_rfl) (by simp) ?_
      refine AllReadyH.cons rfl (fun K hK => ?_) AllReadyH.nil
      go_simp
      refine hK.out _ _ trivial (fun hHeld14 => ?_)
      clear hK K hHeld13
      (try simp only [Act.put, List.setIfInBounds_toArray, List.set_cons_zero, List.set_cons_succ])
      obtain ⟨y14, hy14⟩ : ∃ yy, y13.alloc (.cells #[.int .u8 (b.toNat : Int)] 5) = yy := ⟨_, rfl⟩
      have hx14 : y14.heap[y13.heap.size]? = some (.cells #[.int .u8 (b.toNat : Int)] 5 (0, 0)) := by rw [← hy14]; exact heap_alloc_new _ _
      have hb14 : Below y13.heap.size y13 y14 := by rw [← hy14]; exact (Below.refl _ _).alloc (Nat.le_refl _) _
      have HB14 := Lib.hid (HB13.out.trans (hb14.mono HB13.out.size))
      rw [hy14]
      have hx13_14 := (hb14.block _ (Array.getElem?_eq_some_iff.1 hx13).1).trans hx13
      clear hy14 hb14
      refine wpAnyH_ready (rs := [5]) (by kernel_rfl) (by simp) ?_
      refine AllReadyH.cons rfl (fun K hK => ?_) AllReadyH.nil
      have hcv15 := conv_one b hx14
      go_simp
      refine hK.out _ _ trivial (fun hHeld15 => ?_)
      clear hK K hHeld14 hcv15
      (try simp only [Act.put, List.setIfInBounds_toArray, List.set_cons_zero, List.set_cons_succ])
      refine take_yes 6 (some 36) (v := ?v6_31) rfl rfl (by kernel_rfl) (by kernel_rfl) (by kernel_rfl) (fun _ _ _ h => h) (by kernel_rfl) ?h6_31 (by assumption) ?_
      case h6_31 =>
        intro w hSw
        (try dsimp only at hSw)
        (try go_split_ands)
        go_simp
        try with_reducible rfl
      (try simp only [Act.put, List.setIfInBounds_toArray, List.set_cons_zero, List.set_cons_succ])
      refine take_yes 11 (some 41) (v := ?v11_32) rfl rfl (by kernel_rfl) (by kernel_rfl) (by kernel_rfl) (fun _ _ _ h => h) (by kernel_rfl) ?h11_32 (by assumption) ?_
      case h11_32 =>
        intro w hSw
        (try dsimp only at hSw)
        (try go_split_ands)
        go_simp
        try with_reducible rfl
      (try simp only [Act.put, List.setIfInBounds_toArray, List.set_cons_zero, List.set_cons_succ])
      refine wpAnyH_ready (rs := [12]) (by kernel_rfl) (by simp) ?_
      refine AllReadyH.cons rfl (fun K hK => ?_) AllReadyH.nil
      go_simp
      go_at_call 22
      (with_reducible refine (HD.out _).mono ?_)
      rintro e y16 ⟨v2, rfl, hR2, hb16⟩
      obtain ⟨B1, k1, d1, B2, k2, d2, B3, k3, d3, B4, k4, d4⟩ := v2
      simp only [LV.val]
      go_wp2_with fail
      refine hK.out _ _ trivial (fun hHeld16 => ?_)
      clear hK K hHeld15 hR2
      (try simp only [Act.put, List.setIfInBounds_toArray, List.set_cons_zero, List.set_cons_succ])
      have HB16 := Lib.hid (HB14.out.trans (hb16.mono HB14.out.size))
      have hx14_16 := (hb16.block _ (Array.getElem?_eq_some_iff.1 hx14).1).trans hx14
      have hx13_14_16 := (hb16.block _ (Array.getElem?_eq_some_iff.1 hx13_14).1).trans hx13_14
      clear hb16
      refine take_yes 13 (some 29) (v := ?v13_33) rfl rfl (by kernel_rfl) (by kernel_rfl) (by kernel_rfl) (fun _ _ _ h => h) (by kernel_rfl) ?h13_33 (by assumption) ?_
      case h13_33 =>
        intro w hSw
        (try dsimp only at hSw)
        (try go_split_ands)
        go_simp
        try with_reducible rfl
      (try simp only [Act.put, List.setIfInBounds_toArray, List.set_cons_zero, List.set_cons_succ])
      refine take_yes 14 (some 43) (v := ?v14_34) rfl rfl (by kernel_rfl) (by kernel_rfl) (by kernel_rfl) (fun _ _ _ h => h) (by kernel_rfl) ?h14_34 (by assumption) ?_
      case h14_34 =>
        intro w hSw
        (try dsimp only at hSw)
        (try go_split_ands)
        go_simp
        try with_reducible rfl
      (try simp only [Act.put, List.setIfInBounds_toArray, List.set_cons_zero, List.set_cons_succ])
      refine take_yes 15 (some 44) (v := ?v15_35) rfl rfl (by kernel_rfl) (by kernel_rfl) (by kernel_rfl) (fun _ _ _ h => h) (by kernel_rfl) ?h15_35 (by assumption) ?_
      case h15_35 =>
        intro w hSw
        (try dsimp only at hSw)
        (try go_split_ands)
        go_simp
        try with_reducible rfl
      (try simp only [Act.put, List.setIfInBounds_toArray, List.set_cons_zero, List.set_cons_succ])
      refine take_yes 16 (some 45) (v := ?v16_36) rfl rfl (by kernel_rfl) (by kernel_rfl) (by kernel_rfl) (fun _ _ _ h => h) (by kernel_rfl) ?h16_36 (by assumption) ?_
      case h16_36 =>
        intro w hSw
        (try dsimp only at hSw)
        (try go_split_ands)
        go_simp
        try with_reducible rfl
      (try simp only [Act.put, List.setIfInBounds_toArray, List.set_cons_zero, List.set_cons_succ])
      refine wpAnyH_ready (rs := [18]) (by kernel_rfl) (by simp) ?_
      refine AllReadyH.cons rfl (fun K hK => ?_) AllReadyH.nil
      obtain ⟨⟨z0, z1, z2, z3⟩, f0, f1, f2, f3⟩ := res_cells hx13_14_16
      have HB17 := Lib.hid (four_below HB16.out hx13_14_16 (v0 := .slice B1 k1 d1) (v1 := .slice B2 k2 d2) (v2 := .slice B3 k3 d3) (v3 := .slice B4 k4 d4) HB0.out.size)
      go_simp
      refine hK.out _ _ trivial (fun hHeld17 => ?_)
      clear hK K hHeld16 z0 z1 z2 z3 f0 f1 f2 f3
      (try simp only [Act.put, List.setIfInBounds_toArray, List.set_cons_zero, List.set_cons_succ])
      refine take_yes 19 (some 11) (v := ?v19_37) rfl rfl (by kernel_rfl) (by kernel_rfl) (by kernel_rfl) (fun _ _ _ h => h) (by kernel_rfl) ?h19_37 (by assumption) ?_
      case h19_37 =>
        intro w hSw
        (try dsimp only at hSw)
        (try go_split_ands)
        go_simp
        try with_reducible rfl
      (try simp only [Act.put, List.setIfInBounds_toArray, List.set_cons_zero, List.set_cons_succ])
      refine take_yes 20 (some 12) (v := ?v20_38) rfl rfl (by kernel_rfl) (by kernel_rfl) (by kernel_rfl) (fun _ _ _ h => h) (by kernel_rfl) ?h20_38 (by assumption) ?_
      case h20_38 =>
        intro w hSw
        (try dsimp only at hSw)
        (try go_split_ands)
        go_simp
        try with_reducible rfl
      (try simp only [Act.put, List.setIfInBounds_toArray, List.set_cons_zero, List.set_cons_succ])
      refine wpAnyH_done (by kernel_rfl) ?_ _
      go_wp2_with (first | (go_at_call 15; refine (Awk.awake_any _).mono ?_; rintro e w' ⟨rfl, rfl⟩) | fail)
      go_ret
      exact ⟨by simp, HB17.out⟩
end Go.Proofs.Ytepbdcnjhbaehaa.Det
