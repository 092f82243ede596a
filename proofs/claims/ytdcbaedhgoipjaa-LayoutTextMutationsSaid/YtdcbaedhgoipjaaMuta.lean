/-
  The walk of the statement on the text of a generated layout in which a byte has been replaced, or which is cut off.
-/
import Derived.Test.YtdcbaedhgoipjaaPars
import Derived.Test.YtdcbaedhgoipjaaRFmt
import Derived.Test.YtdcbaedhgoipjaaMaker
import Derived.Laws.IdiomStrings
import Derived.Test.YtdcbaedhgoipjaaMan
namespace Go.Proofs.Ytdcbaedhgoipjaa.Muta
open Go.ChangeShapes Go.WideShapes Go.ChangeAt Go.RowKit Wd Small Mem Lay LayT Recs Keep Names PNames PSecs PEnds RNames Dec Src Eqs Awake Maker PPar RPar RFmt Pars LawF Man
set_option linter.unusedVariables false

theorem extract_le (t : ByteArray) (i j : Nat) : (t.extract i j).size ≤ t.size := by
  rw [ByteArray.size_extract]; omega

set_option maxRecDepth 100000 in
set_option maxHeartbeats 8000000 in
theorem muta (A0 : Option Addr) (n0 c0 : Nat) (hn0 : n0 ≤ c0) (hc0 : c0 ≤ 9223372036854775807) (a1 : Int) (w1 : (Lit.int .i64 a1).wf = true) (a2 : Int) (w2 : (Lit.int .u8 a2).wf = true) (b3 : Bool) (w : World) (hI : Ints w w.heap.size A0 n0) (m : Int) (hm : w.cell? ⟨0, 0, none⟩ = some (.int .i64 m)) :
    Calls Try.prog 8 #[.slice A0 n0 c0, .int .i64 a1, .int .u8 a2, .bool b3] w (Yes w) := by
  obtain ⟨b11, b12⟩ := bounds_i64 w1
  obtain ⟨b21, b22⟩ := LawF.bounds_u8 w2
  have HM := Lib.hid hm
  clear hm w1 w2
  go_enter Try.func8, Try.ntmps8
  go_wp2_with fail
  refine (layout_any A0 n0 c0 w hI (by omega)).mono ?_
  rintro e wl ⟨v, L, rfl, hR, hv, hbl⟩
  have HBL := Lib.hid hbl
  have HF := Lib.hid (r_format v L wl hR hv)
  obtain ⟨A1, n1, c1, A2, n2, c2, A3, n3, c3, A4, n4, c4⟩ := v
  simp only [LV.val] at *
  clear hR hv hbl hI
  go_wp2_with fail
  refine HF.out.mono ?_
  rintro e wf ⟨t, rfl, t1, t2, hbf⟩
  have HBF := Lib.hid (HBL.out.trans (hbf.mono HBL.out.size))
  have HMF := Lib.hid (keep_cell HBF.out HM.out)
  clear hbf HF
  go_wp2_with fail
  refine (pick_any a1 (t.size : Nat) wf b11 b12 (by omega) (by omega)).mono ?_
  rintro e wx ⟨rfl, rfl⟩
  obtain ⟨p0, p1⟩ := pick_range a1 (t.size : Nat) (by omega)
  obtain ⟨q, hq⟩ : ∃ q : Nat, pick a1 (t.size : Nat) = q := ⟨(pick a1 (t.size : Nat)).toNat, by omega⟩
  rw [hq] at p0 p1 ⊢
  have hqs : q < t.size := by omega
  have HAW := Lib.hid (fun wx => awake_any wx)
  clear hq
  cases b3 with
  | true =>
    have hc1 : (q : Int) ≤ (t.size : Int) := by omega
    obtain ⟨u, hu, hus⟩ : ∃ u : ByteArray, t.extract 0 q = u ∧ u.size ≤ 9223372036854775807 := ⟨_, rfl, by have := extract_le t 0 q; omega⟩
    go_wp2_with fail
    refine (HAW.out _).mono ?_
    rintro e wa ⟨rfl, hba⟩
    have HB1 := Lib.hid (HBF.out.trans (hba.mono HBF.out.size))
    have hm1 := Lib.hid (keep_cell hba HMF.out)
    clear hba
    go_wp2_with fail
    refine (parses_any u m wa hus hm1.out).mono ?_
    rintro e wb ⟨rfl, hbb⟩
    have HB2 := Lib.hid (HB1.out.trans (hbb.mono HB1.out.size))
    clear hbb
    go_wp2_with fail
    go_ret
    exact ⟨rfl, HB2.out⟩
  | false =>
    obtain ⟨b, hb⟩ : ∃ b : UInt8, a2 = (b.toNat : Int) := ⟨UInt8.ofNat a2.toNat, by rw [UInt8.toNat_ofNat']; omega⟩
    subst hb
    have hcv : ∀ wx : World, (convert 51 9 (.slice (some ⟨wx.heap.size, 0, none⟩) 1 1)).run Try.prog (wx.alloc (.cells #[.int .u8 (b.toNat : Int)] 5)) = .ok (.string ⟨#[b]⟩) (wx.alloc (.cells #[.int .u8 (b.toNat : Int)] 5)) := fun wx =>
      run_convert_bytes_back (P := Try.prog) _ 51 9 5 ⟨wx.heap.size, 0, none⟩ 1 [b] Try.underlying51 Try.underlying5 Try.underlying9 (fun j hj => by
        obtain rfl : j = 0 := by simpa using hj
        simp [Addr.add])
    obtain ⟨u1, hu1, s1⟩ : ∃ u : ByteArray, t.extract 0 q = u ∧ u.size ≤ t.size := ⟨_, rfl, extract_le t 0 q⟩
    obtain ⟨u2, hu2, s2⟩ : ∃ u : ByteArray, t.extract (q + 1) t.size = u ∧ u.size ≤ t.size := ⟨_, rfl, extract_le t _ _⟩
    have k1 : (⟨#[b]⟩ : ByteArray).size ≤ 1 := Nat.le_refl 1
    have l1 : u1.size + (⟨#[b]⟩ : ByteArray).size ≤ 9223372036854775807 := by omega
    obtain ⟨u3, hu3, s3⟩ : ∃ c : ByteArray, u1 ++ ⟨#[b]⟩ = c ∧ c.size ≤ t.size + 1 := ⟨_, rfl, by rw [ByteArray.size_append]; omega⟩
    have l2 : u3.size + u2.size ≤ 9223372036854775807 := by omega
    obtain ⟨u4, hu4, s4⟩ : ∃ c : ByteArray, u3 ++ u2 = c ∧ c.size ≤ 9223372036854775807 := ⟨_, rfl, by rw [ByteArray.size_append]; omega⟩
    have c0' : (0 : Int) ≤ q := by omega
    have c1' : (q : Int) ≤ (t.size : Int) := by omega
    have c2' : (0 : Int) ≤ (q : Int) + 1 := by omega
    have c3' : (q : Int) + 1 ≤ (t.size : Int) := by omega
    have hwq : IntKind.i64.wrap ((q : Int) + 1) = (q : Int) + 1 := IntWalk.i64_in _ (by omega)
    have htq : ((q : Int) + 1).toNat = q + 1 := by omega
    have n1' : ¬ 9223372036854775807 < u1.size + 1 := by have h : (⟨#[b]⟩ : ByteArray).size = 1 := rfl; omega
    have n2' : ¬ 9223372036854775807 < u3.size + u2.size := by omega
    clear k1
    go_upto_region 5 with fail
    refine wp_region_held_drew (S := fun _ => True) (by kernel_rfl) trivial (fun hHeld => ?_)
    refine wpAnyH_ready (rs := [0]) (by kernel_rfl) (by simp) ?_
    refine AllReadyH.cons rfl (fun K hK => ?_) AllReadyH.nil
    go_simp
    go_at_call 16
    (with_reducible refine (HAW.out _).mono ?_)
    rintro e wa ⟨rfl, hba⟩
    go_wp2_with fail
    refine hK.out _ _ trivial (fun hHeld1 => ?_)
    clear hK K hHeld
    (try simp only [Act.put, List.setIfInBounds_toArray, List.set_cons_zero, List.set_cons_succ])
    refine take_yes 1 (some 27) (v := ?v1) rfl rfl (by kernel_rfl) (by kernel_rfl) (by kernel_rfl) (fun _ _ _ h => h) (by kernel_rfl) ?h1 (by assumption) ?_
    case h1 =>
      intro w hSw
      (try dsimp only at hSw)
      go_simp
      try with_reducible rfl
    (try simp only [Act.put, List.setIfInBounds_toArray, List.set_cons_zero, List.set_cons_succ])
    refine take_yes 2 (some 28) (v := ?v2) rfl rfl (by kernel_rfl) (by kernel_rfl) (by kernel_rfl) (fun _ _ _ h => h) (by kernel_rfl) ?h2 (by assumption) ?_
    case h2 =>
      intro w hSw
      (try dsimp only at hSw)
      go_simp
      try with_reducible rfl
    (try simp only [Act.put, List.setIfInBounds_toArray, List.set_cons_zero, List.set_cons_succ])
    refine take_yes 3 (some 29) (v := ?v3) rfl rfl (by kernel_rfl) (by kernel_rfl) (by kernel_rfl) (fun _ _ _ h => h) (by kernel_rfl) ?h3 (by assumption) ?_
    case h3 =>
      intro w hSw
      (try dsimp only at hSw)
      go_simp
      try with_reducible rfl
    (try simp only [Act.put, List.setIfInBounds_toArray, List.set_cons_zero, List.set_cons_succ])
    refine take_yes 4 (some 30) (v := ?v4) rfl rfl (by kernel_rfl) (by kernel_rfl) (by kernel_rfl) (fun _ _ _ h => h) (by kernel_rfl) ?h4 (by assumption) ?_
    case h4 =>
      intro w hSw
      (try dsimp only at hSw)
      go_simp
      try with_reducible rfl
    (try simp only [Act.put, List.setIfInBounds_toArray, List.set_cons_zero, List.set_cons_succ])
    refine take_yes 5 (some 31) (v := ?v5) rfl rfl (by kernel_rfl) (by kernel_rfl) (by kernel_rfl) (fun _ _ _ h => h) (by kernel_rfl) ?h5 (by assumption) ?_
    case h5 =>
      intro w hSw
      (try dsimp only at hSw)
      go_simp
      try with_reducible rfl
    (try simp only [Act.put, List.setIfInBounds_toArray, List.set_cons_zero, List.set_cons_succ])
    refine take_yes 9 (some 35) (v := ?v9) rfl rfl (by kernel_rfl) (by kernel_rfl) (by kernel_rfl) (fun _ _ _ h => h) (by kernel_rfl) ?h9 (by assumption) ?_
    case h9 =>
      intro w hSw
      (try dsimp only at hSw)
      go_simp
      try with_reducible rfl
    (try simp only [Act.put, List.setIfInBounds_toArray, List.set_cons_zero, List.set_cons_succ])
    refine take_yes 10 (some 36) (v := ?v10) rfl rfl (by kernel_rfl) (by kernel_rfl) (by kernel_rfl) (fun _ _ _ h => h) (by kernel_rfl) ?h10 (by assumption) ?_
    case h10 =>
      intro w hSw
      (try dsimp only at hSw)
      go_simp
      try with_reducible rfl
    (try simp only [Act.put, List.setIfInBounds_toArray, List.set_cons_zero, List.set_cons_succ])
    refine take_yes 11 (some 37) (v := ?v11) rfl rfl (by kernel_rfl) (by kernel_rfl) (by kernel_rfl) (fun _ _ _ h => h) (by kernel_rfl) ?h11 (by assumption) ?_
    case h11 =>
      intro w hSw
      (try dsimp only at hSw)
      go_simp
      try with_reducible rfl
    (try simp only [Act.put, List.setIfInBounds_toArray, List.set_cons_zero, List.set_cons_succ])
    refine take_yes 12 (some 38) (v := ?v12) rfl rfl (by kernel_rfl) (by kernel_rfl) (by kernel_rfl) (fun _ _ _ h => h) (by kernel_rfl) ?h12 (by assumption) ?_
    case h12 =>
      intro w hSw
      (try dsimp only at hSw)
      go_simp
      try with_reducible rfl
    (try simp only [Act.put, List.setIfInBounds_toArray, List.set_cons_zero, List.set_cons_succ])
    refine wpAnyH_ready (rs := [6]) (by kernel_rfl) (by simp) ?_
    refine AllReadyH.cons rfl (fun K hK => ?_) AllReadyH.nil
    go_simp
    refine hK.out _ _ trivial (fun hHeld2 => ?_)
    clear hK K hHeld1
    (try simp only [Act.put, List.setIfInBounds_toArray, List.set_cons_zero, List.set_cons_succ])
    refine wpAnyH_ready (rs := [7]) (by kernel_rfl) (by simp) ?_
    refine AllReadyH.cons rfl (fun K hK => ?_) AllReadyH.nil
    go_simp
    refine hK.out _ _ trivial (fun hHeld3 => ?_)
    clear hK K hHeld2
    (try simp only [Act.put, List.setIfInBounds_toArray, List.set_cons_zero, List.set_cons_succ])
    refine take_yes 8 (some 34) (v := ?v8) rfl rfl (by kernel_rfl) (by kernel_rfl) (by kernel_rfl) (fun _ _ _ h => h) (by kernel_rfl) ?h8 (by assumption) ?_
    case h8 =>
      intro w hSw
      (try dsimp only at hSw)
      go_simp
      try with_reducible rfl
    (try simp only [Act.put, List.setIfInBounds_toArray, List.set_cons_zero, List.set_cons_succ])
    refine take_yes 13 (some 39) (v := ?v13) rfl rfl (by kernel_rfl) (by kernel_rfl) (by kernel_rfl) (fun _ _ _ h => h) (by kernel_rfl) ?h13 (by assumption) ?_
    case h13 =>
      intro w hSw
      (try dsimp only at hSw)
      go_simp
      try with_reducible rfl
    (try simp only [Act.put, List.setIfInBounds_toArray, List.set_cons_zero, List.set_cons_succ])
    refine wpAnyH_ready (rs := [14]) (by kernel_rfl) (by simp) ?_
    refine AllReadyH.cons rfl (fun K hK => ?_) AllReadyH.nil
    go_simp
    go_at_call 21
    refine (parses_any u4 m _ s4 (keep_cell ((Below.refl _ _).alloc (Nat.le_refl _) _) (keep_cell hba HMF.out))).mono ?_
    rintro e wd ⟨rfl, hbd⟩
    go_wp2_with fail
    refine hK.out _ _ trivial (fun hHeld4 => ?_)
    clear hK K hHeld3
    (try simp only [Act.put, List.setIfInBounds_toArray, List.set_cons_zero, List.set_cons_succ])
    refine take_yes 15 (some 41) (v := ?v15) rfl rfl (by kernel_rfl) (by kernel_rfl) (by kernel_rfl) (fun _ _ _ h => h) (by kernel_rfl) ?h15 (by assumption) ?_
    case h15 =>
      intro w hSw
      (try dsimp only at hSw)
      go_simp
      try with_reducible rfl
    (try simp only [Act.put, List.setIfInBounds_toArray, List.set_cons_zero, List.set_cons_succ])
    refine take_yes 16 (some 8) (v := ?v16) rfl rfl (by kernel_rfl) (by kernel_rfl) (by kernel_rfl) (fun _ _ _ h => h) (by kernel_rfl) ?h16 (by assumption) ?_
    case h16 =>
      intro w hSw
      (try dsimp only at hSw)
      go_simp
      try with_reducible rfl
    (try simp only [Act.put, List.setIfInBounds_toArray, List.set_cons_zero, List.set_cons_succ])
    refine wpAnyH_done (by kernel_rfl) ?_ _
    have HB1 : Hid (Below w.heap.size w wa) := HBF.out.trans ((Below.refl wf.heap.size wf).drew.trans hba |>.mono HBF.out.size)
    have HB2 : Hid (Below w.heap.size w wd) := HB1.out.trans (((Below.refl wa.heap.size wa).alloc (Nat.le_refl _) _).trans (hbd.mono (by simp)) |>.mono HB1.out.size)
    clear hba hbd
    go_wp2_with fail
    go_ret
    exact ⟨rfl, HB2.out⟩
end Go.Proofs.Ytdcbaedhgoipjaa.Muta
