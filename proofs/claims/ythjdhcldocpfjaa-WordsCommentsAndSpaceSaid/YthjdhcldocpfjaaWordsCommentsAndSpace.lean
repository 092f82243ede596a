/-
  It is proved that railplanlaw3.WordsCommentsAndSpace returns true and changes nothing. Conditions: none.
-/
import Derived.Test.YthjdhcldocpfjaaFrame
import Derived.Test.YthjdhcldocpfjaaCmt
import Derived.ProofKit
import Derived.OpenShut
import Derived.Lib.OthersKept
import Derived.Laws.Concat
namespace Go.Proofs.Ythjdhcldocpfjaa.wordsCommentsAndSpace
open Go.ChangeShapes Go.WideShapes Go.ChangeAt Go.ChangeMaps Go.RowKit Wd Mem Aids
set_option linter.unusedVariables false

theorem own : ownKnob Try.prog.godebug = none := by kernel_rfl

theorem width_pos (s : ByteArray) (pos : Nat) (h : pos < s.size) : 1 ≤ (Utf8.decode s pos).2 := by
  by_cases ha : (s[pos]'h).toNat < 128
  · rw [decode_ascii s pos h ha]
    exact Nat.le_refl _
  · exact (decode_high s pos h (by omega)).2
set_option maxRecDepth 100000 in
set_option maxHeartbeats 1600000 in
theorem walk (A0 : Option Addr) (n0 c0 : Nat) (hn0 : n0 ≤ c0) (hc0 : c0 ≤ 9223372036854775807) (s1 : ByteArray) (z1 : s1.size ≤ 9223372036854775807) (w : World) (hB0 : Aids.Byts w A0 n0) (m : Int) (hm : w.cell? ⟨0, 0, none⟩ = some (.int .i64 m)) :
    Calls Try.prog 10 #[.slice A0 n0 c0, .string s1] w (Yes w) := by
  go_enter Try.func10, Try.ntmps10
  go_wp2_with fail
  go_loopw [5] (fun x wr => ∃ (pos : Nat) (t : ByteArray), wr.heap[w.heap.size]? = some (.stringIter s1 pos) ∧ Below w.heap.size w wr ∧ x = .string t ∧ t.size ≤ pos ∧ t.size ≤ 50 ∧ Hid (∀ b ∈ bs t, b ≠ 10)) (fun _ wr => s1.size - wr.iterPos w.heap.size)
  case atStart =>
    refine ⟨0, _, ?_, ?_, rfl, by decide, by decide, ?_⟩
    · have := World.iter_heap w s1 0
      simpa using this
    · exact (Below.refl _ _).alloc (Nat.le_refl _) _
    · intro b hb; cases hb
  case round =>
    obtain ⟨pos, t, hit, hbw, rfl, ht, ht50, HN⟩ := hrel
    have hsz : w.heap.size < wr.heap.size := (Array.getElem?_eq_some_iff.1 hit).1
    by_cases hp : pos < s1.size
    · have hnx : ∀ ty, (Instr.next (.pointer (some ⟨w.heap.size, 0, none⟩)) true ty).run Try.prog wr = _ := fun ty => Lib.run_next_any_at wr w.heap.size s1 pos ty hit hp
      have hwd := width_pos s1 pos hp
      have hd1 := decode_le s1 pos
      have hit2 := Lib.iterAt_heap wr w.heap.size s1 pos (pos + (Utf8.decode s1 pos).2) hit
      have hbw2 := Lib.below_iterAt hbw (k := w.heap.size) (Nat.le_refl _) s1 (pos + (Utf8.decode s1 pos).2)
      generalize (Utf8.decode s1 pos).2 = wid at *
      generalize (Utf8.decode s1 pos).1 = rn at *
      by_cases h50 : pos < 50
      · cases h10 : ((s1[pos].toNat : Int) == 10) with
        | true =>
          go_wp2_with fail
          go_roundw
          case rel => exact ⟨pos + wid, t, hit2, hbw2, rfl, by omega, ht50, HN⟩
          case measure =>
            simp only [World.iterPos, hit2, hit]
            omega
        | false =>
          have c0 : (0 : Int) ≤ pos := by omega
          have c1 : (pos : Int) ≤ (pos : Int) + 1 := by omega
          have c2 : (pos : Int) + 1 ≤ (s1.size : Int) := by omega
          have e1 := ROne.one_str s1 pos hp
          obtain ⟨X, hX, hXs⟩ : ∃ X : ByteArray, s1.extract pos (pos + 1) = X ∧ bs X = [s1[pos]] := ⟨_, rfl, by rw [e1]; rfl⟩
          have hXz : X.size = 1 := by rw [← bs_length, hXs]; rfl
          have hsum : t.size + X.size ≤ 9223372036854775807 := by omega
          have hz2 : (t ++ X).size = t.size + X.size := ByteArray.size_append
          have HN2 : Hid (∀ b ∈ bs (t ++ X), b ≠ 10) := by
            intro b hb
            rw [bs_append, hXs, List.mem_append] at hb
            rcases hb with hb | hb
            · exact HN.out b hb
            · simp at hb; subst hb
              rw [beq_eq_false_iff_ne] at h10
              intro e; apply h10; rw [e]; rfl
          clear e1 hXs
          go_wp2_with fail
          go_roundw
          case rel => exact ⟨pos + wid, t ++ X, hit2, hbw2, rfl, by omega, by omega, HN2⟩
          case measure =>
            simp only [World.iterPos, hit2, hit]
            omega
      · go_wp2_with fail
        go_roundw
        case rel => exact ⟨pos + wid, t, hit2, hbw2, rfl, by omega, ht50, HN⟩
        case measure =>
          simp only [World.iterPos, hit2, hit]
          omega
    · have hnx : ∀ ty, (Instr.next (.pointer (some ⟨w.heap.size, 0, none⟩)) true ty).run Try.prog wr = _ := fun ty => Lib.run_next_end_at wr w.heap.size s1 pos ty hit hp
      go_wp2_with fail
      clear hnx hit
      have hc50 : (bs t).length ≤ 50 := by rw [bs_length]; exact ht50
      obtain ⟨cm, hcm⟩ : ∃ cm, bs t = cm := ⟨_, rfl⟩
      rw [hcm] at HN hc50
      have l0 : (ByteArray.mk #[10]).size = 1 := rfl
      have l1 : (ByteArray.mk #[32, 9]).size = 2 := rfl
      have l2 : (ByteArray.mk #[32, 32, 35]).size = 3 := rfl
      have l3 : (ByteArray.mk #[10, 10]).size = 2 := rfl
      go_loopw [7, 8, 9] (fun x y i wx => ∃ (k : Nat) (ws : List Bs), k ≤ n0 ∧ k ≤ 30 ∧ ws.length = k ∧ i = .int .i64 k ∧ x = .string (str (Cmt.tx ws)) ∧ y = .string (str (Cmt.ux cm ws)) ∧ Hid (∀ v ∈ ws, Cmt.Fine v ∧ v.length ≤ 2) ∧ Below w.heap.size w wx) (fun _ _ i _ => n0 - (intOf i).toNat)
      case atStart => exact ⟨0, [], by omega, by omega, rfl, rfl, rfl, rfl, nofun, hbw⟩
      case round =>
        obtain ⟨k, ws, hk, hk30, hws, rfl, rfl, rfl, HF, hbx⟩ := hrel
        have zt : (str (Cmt.tx ws)).size ≤ 90 := by rw [size_str]; have := Cmt.tx_len ws (fun v hv => (HF.out v hv).2); omega
        have zu : (str (Cmt.ux cm ws)).size ≤ 1770 := by rw [size_str]; have := Cmt.ux_len cm hc50 ws (fun v hv => (HF.out v hv).2); omega
        have hzx := hbx.size
        by_cases hlt : k < n0
        · by_cases h30 : k < 30
          · obtain ⟨ad, b, rfl, hb1, hb2⟩ := (hB0.below hbx) k hlt
            have hb256 := b.toNat_lt
            have hmod : ((b.toNat : Int)).tmod 4 = ((b.toNat % 4 : Nat) : Int) := by rw [Int.tmod_eq_emod_of_nonneg (by omega)]; rfl
            have hq4 : b.toNat % 4 < 4 := by omega
            generalize b.toNat % 4 = q at *
            obtain ⟨V, hV, hVb, hlit⟩ : ∃ V : ByteArray, V.size ≤ 2 ∧ bs V = Cmt.wd q ∧ (#[Value.string ⟨#[97]⟩, .string ⟨#[49, 50]⟩, .string ⟨#[117, 112]⟩, .string ⟨#[45]⟩] : Array Value)[q]? = some (.string V) := by
              match q, hq4 with
              | 0, _ => exact ⟨_, by decide, rfl, rfl⟩
              | 1, _ => exact ⟨_, by decide, rfl, rfl⟩
              | 2, _ => exact ⟨_, by decide, rfl, rfl⟩
              | 3, _ => exact ⟨_, by decide, rfl, rfl⟩
              | i + 4, h => exact absurd h (by omega)
            have hcell : (wr.alloc (.cells #[.string ⟨#[97]⟩, .string ⟨#[49, 50]⟩, .string ⟨#[117, 112]⟩, .string ⟨#[45]⟩] 9)).cell? ⟨wr.heap.size, q, none⟩ = some (.string V) :=
              (cell_of_row _ wr.heap.size q _ 9 (0, 0) (heap_alloc_new wr _)).trans hlit
            have hb3 : (wr.alloc (.cells #[.string ⟨#[97]⟩, .string ⟨#[49, 50]⟩, .string ⟨#[117, 112]⟩, .string ⟨#[45]⟩] 9)).cell? (ad.add k) = some (.int .u8 b.toNat) :=
              (((Below.refl wr.heap.size wr).alloc (Nat.le_refl _) _).cell (by rw [Mem.block_add]; exact hb1)).trans hb2
            have HF2 : Hid (∀ v ∈ ws ++ [bs V], Cmt.Fine v ∧ v.length ≤ 2) := by
              intro v hv
              rw [List.mem_append] at hv
              rcases hv with hv | hv
              · exact HF.out v hv
              · simp at hv; subst hv; rw [hVb]; exact ⟨Cmt.wd_fine q, Cmt.wd_len q⟩
            have hx2 : bs (str (Cmt.tx ws) ++ (V ++ ⟨#[10]⟩)) = Cmt.tx (ws ++ [bs V]) := by
              rw [Cmt.tx_snoc, bs_append, bs_append, bs_str]; rfl
            have hu2 : bs (str (Cmt.ux cm ws) ++ ((((⟨#[32, 9]⟩ ++ V) ++ ⟨#[32, 32, 35]⟩) ++ t) ++ ⟨#[10, 10]⟩)) = Cmt.ux cm (ws ++ [bs V]) := by
              rw [Cmt.ux_snoc]
              simp only [bs_append, bs_str, hcm]
              congr 1
              simp only [List.append_assoc]
              show [32, 9] ++ (bs V ++ ([32, 32, 35] ++ (cm ++ [10, 10]))) = _
              simp
            obtain ⟨P1, hP1, zP1⟩ : ∃ P, V ++ ⟨#[10]⟩ = P ∧ P.size ≤ 3 := ⟨_, rfl, by rw [ByteArray.size_append]; omega⟩
            obtain ⟨Q1, hQ1, zQ1⟩ : ∃ P, (⟨#[32, 9]⟩ : ByteArray) ++ V = P ∧ P.size ≤ 4 := ⟨_, rfl, by rw [ByteArray.size_append]; omega⟩
            obtain ⟨Q2, hQ2, zQ2⟩ : ∃ P, Q1 ++ ⟨#[32, 32, 35]⟩ = P ∧ P.size ≤ 7 := ⟨_, rfl, by rw [ByteArray.size_append]; omega⟩
            obtain ⟨Q3, hQ3, zQ3⟩ : ∃ P, Q2 ++ t = P ∧ P.size ≤ 57 := ⟨_, rfl, by rw [ByteArray.size_append]; omega⟩
            obtain ⟨Q4, hQ4, zQ4⟩ : ∃ P, Q3 ++ ⟨#[10, 10]⟩ = P ∧ P.size ≤ 59 := ⟨_, rfl, by rw [ByteArray.size_append]; omega⟩
            rw [hP1] at hx2
            rw [hQ1, hQ2, hQ3, hQ4] at hu2
            have HX : Hid (str (Cmt.tx ws) ++ P1 = str (Cmt.tx (ws ++ [bs V]))) := bs_ext hx2
            have HU : Hid (str (Cmt.ux cm ws) ++ Q4 = str (Cmt.ux cm (ws ++ [bs V]))) := bs_ext hu2
            have q0 : V.size + (ByteArray.mk #[10]).size ≤ 9223372036854775807 := by omega
            have q1 : (str (Cmt.tx ws)).size + P1.size ≤ 9223372036854775807 := by omega
            have q2 : (ByteArray.mk #[32, 9]).size + V.size ≤ 9223372036854775807 := by omega
            have q3 : Q1.size + (ByteArray.mk #[32, 32, 35]).size ≤ 9223372036854775807 := by omega
            have q4 : Q2.size + t.size ≤ 9223372036854775807 := by omega
            have q5 : Q3.size + (ByteArray.mk #[10, 10]).size ≤ 9223372036854775807 := by omega
            have q6 : (str (Cmt.ux cm ws)).size + Q4.size ≤ 9223372036854775807 := by omega
            clear hx2 hu2 hVb
            go_wp2_with fail
            go_roundw
            case rel => exact ⟨k + 1, ws ++ [bs V], by omega, by omega, by simp [hws], by go_num, by rw [← HX.out], by rw [← HU.out], HF2, hbx.alloc hzx _⟩
            case measure => simp [intOf]; omega
          · -- the two texts are made
            have hL1 : Lin.linesOf (bs (str (Cmt.tx ws))) = (Cmt.ta 1 ws, 0, 0) := by
              have h1 : ¬ 65536 < (Cmt.tx ws).length := by rw [size_str] at zt; omega
              have h2 := Cmt.go_tx ws [] 1 (fun v hv => (HF.out v hv).1)
              rw [List.nil_append] at h2
              rw [bs_str, Lin.linesOf, if_neg h1, h2]
            have hL2 : Lin.linesOf (bs (str (Cmt.ux cm ws))) = (Cmt.tb 1 ws, 0, 0) := by
              have h1 : ¬ 65536 < (Cmt.ux cm ws).length := by rw [size_str] at zu; omega
              have h2 := Cmt.go_ux cm HN.out ws [] 1 (fun v hv => (HF.out v hv).1)
              rw [List.nil_append] at h2
              rw [bs_str, Lin.linesOf, if_neg h1, h2]
            have hmx := keep_cell hbx hm
            go_wp2_with fail
            refine (PLines.p_lines _ m _ (by omega) hmx).mono ?_
            rintro e w1 ⟨A, n', c, rfl, hO, hb1⟩
            rw [hL1] at hO ⊢
            have hmy := keep_cell hb1 hmx
            have hn' : n' = ws.length := by obtain ⟨us, h, _⟩ := hO; rw [← h]; exact Cmt.ta_len ws 1
            subst hn'
            go_wp2_with fail
            refine (PLines.p_lines _ m _ (by omega) hmy).mono ?_
            rintro e w2 ⟨A2, n2, c2, rfl, hO2, hb2⟩
            rw [hL2] at hO2 ⊢
            have hmz := keep_cell hb2 hmy
            have hn2 : n2 = ws.length := by obtain ⟨us, h, _⟩ := hO2; rw [← h]; exact Cmt.tb_len ws 1
            subst hn2
            go_wp2_with fail
            refine (awake_any m _ hmz).mono ?_
            rintro e w3 ⟨rfl, hb3⟩
            have hOa := (hO.below hb2 (Nat.le_refl _)).below hb3 (Nat.le_refl _)
            have hOb := hO2.below hb3 (Nat.le_refl _)
            have hbz : Below w.heap.size w w3 := ((hbx.trans (hb1.mono hzx)).trans (hb2.mono (Nat.le_trans hzx hb1.size))).trans (hb3.mono (Nat.le_trans hzx (Nat.le_trans hb1.size hb2.size)))
            have HG : Hid (∀ i, i < ws.length → ∃ v, (Cmt.ta 1 ws)[i]? = some [(v, 1 + (i : Int), 1)] ∧ (Cmt.tb 1 ws)[i]? = some [(v, 1 + 2 * (i : Int), 3)]) := fun i hi => ⟨ws[i], by rw [Cmt.ta_get, List.getElem?_eq_getElem hi]; rfl, by rw [Cmt.tb_get, List.getElem?_eq_getElem hi]; rfl⟩
            clear hO hO2 hL1 hL2 zt zu hm hmx hmy hmz hb1 hb2 hb3
            rw [hws] at hOa hOb HG
            go_wp2_with fail
            go_loopw [99] (fun i wq => ∃ j : Nat, j ≤ k ∧ i = .int .i64 j ∧ ∃ nd, wq = w3.drewN nd) (fun i _ => k - (intOf i).toNat)
            case atStart => exact ⟨0, by omega, rfl, 0, rfl⟩
            case round =>
              obtain ⟨j, hj, rfl, nd, rfl⟩ := hrel
              by_cases hjk : j < k
              · obtain ⟨v, g1, g2⟩ := HG.out j hjk
                obtain ⟨ad1, L1, B1, b1, rfl, hab1, hL1, x0, r1, _, _⟩ := hOa.load hjk
                obtain ⟨ad2, L2, B2, b2, rfl, hab2, hL2, y0, r2, _, _⟩ := hOb.load hjk
                have hL1' := hL1.symm.trans g1
                have hL2' := hL2.symm.trans g2
                obtain rfl := Option.some.inj hL1'
                obtain rfl := Option.some.inj hL2'
                obtain ⟨e1, p1, rfl, _, hp1, t0, t1, t2⟩ := r1.load (k := 0) (by simp)
                obtain ⟨e2, p2, rfl, _, hp2, u0, u1, u2⟩ := r2.load (k := 0) (by simp)
                simp at hp1 hp2
                subst hp1 hp2
                simp only [List.length_singleton] at x0 y0
                have t0' : w3.cell? e1 = some (.string (str v)) := by simpa [Addr.add] using t0
                have u0' : w3.cell? e2 = some (.string (str v)) := by simpa [Addr.add] using u0
                have u1' : w3.cell? ⟨e2.block, e2.off + 1, none⟩ = some (.int .i64 (2 * (j : Int) + 1)) := by rw [Int.add_comm]; simpa [Addr.add] using u1
                have u2' : w3.cell? ⟨e2.block, e2.off + 2, none⟩ = some (.int .i64 3) := by simpa [Addr.add] using u2
                clear hOa hOb HG g1 g2 hL1 hL2 hL1' hL2' r1 r2 t0 t1 t2 u0 u1 u2
                go_wp2_with fail
                go_quiet (fail)
                go_wp2_with fail
                go_roundw
                case rel => exact ⟨j + 1, by omega, by go_num, _, rfl⟩
                case measure => simp [intOf]; omega
              · clear hOa hOb HG
                go_wp2_with fail
                go_ret
                exact ⟨rfl, Mem.below_draws hbz nd⟩
        · -- the two texts are made
          have hL1 : Lin.linesOf (bs (str (Cmt.tx ws))) = (Cmt.ta 1 ws, 0, 0) := by
            have h1 : ¬ 65536 < (Cmt.tx ws).length := by rw [size_str] at zt; omega
            have h2 := Cmt.go_tx ws [] 1 (fun v hv => (HF.out v hv).1)
            rw [List.nil_append] at h2
            rw [bs_str, Lin.linesOf, if_neg h1, h2]
          have hL2 : Lin.linesOf (bs (str (Cmt.ux cm ws))) = (Cmt.tb 1 ws, 0, 0) := by
            have h1 : ¬ 65536 < (Cmt.ux cm ws).length := by rw [size_str] at zu; omega
            have h2 := Cmt.go_ux cm HN.out ws [] 1 (fun v hv => (HF.out v hv).1)
            rw [List.nil_append] at h2
            rw [bs_str, Lin.linesOf, if_neg h1, h2]
          have hmx := keep_cell hbx hm
          go_wp2_with fail
          refine (PLines.p_lines _ m _ (by omega) hmx).mono ?_
          rintro e w1 ⟨A, n', c, rfl, hO, hb1⟩
          rw [hL1] at hO ⊢
          have hmy := keep_cell hb1 hmx
          have hn' : n' = ws.length := by obtain ⟨us, h, _⟩ := hO; rw [← h]; exact Cmt.ta_len ws 1
          subst hn'
          go_wp2_with fail
          refine (PLines.p_lines _ m _ (by omega) hmy).mono ?_
          rintro e w2 ⟨A2, n2, c2, rfl, hO2, hb2⟩
          rw [hL2] at hO2 ⊢
          have hmz := keep_cell hb2 hmy
          have hn2 : n2 = ws.length := by obtain ⟨us, h, _⟩ := hO2; rw [← h]; exact Cmt.tb_len ws 1
          subst hn2
          go_wp2_with fail
          refine (awake_any m _ hmz).mono ?_
          rintro e w3 ⟨rfl, hb3⟩
          have hOa := (hO.below hb2 (Nat.le_refl _)).below hb3 (Nat.le_refl _)
          have hOb := hO2.below hb3 (Nat.le_refl _)
          have hbz : Below w.heap.size w w3 := ((hbx.trans (hb1.mono hzx)).trans (hb2.mono (Nat.le_trans hzx hb1.size))).trans (hb3.mono (Nat.le_trans hzx (Nat.le_trans hb1.size hb2.size)))
          have HG : Hid (∀ i, i < ws.length → ∃ v, (Cmt.ta 1 ws)[i]? = some [(v, 1 + (i : Int), 1)] ∧ (Cmt.tb 1 ws)[i]? = some [(v, 1 + 2 * (i : Int), 3)]) := fun i hi => ⟨ws[i], by rw [Cmt.ta_get, List.getElem?_eq_getElem hi]; rfl, by rw [Cmt.tb_get, List.getElem?_eq_getElem hi]; rfl⟩
          clear hO hO2 hL1 hL2 zt zu hm hmx hmy hmz hb1 hb2 hb3
          rw [hws] at hOa hOb HG
          go_wp2_with fail
          go_loopw [99] (fun i wq => ∃ j : Nat, j ≤ k ∧ i = .int .i64 j ∧ ∃ nd, wq = w3.drewN nd) (fun i _ => k - (intOf i).toNat)
          case atStart => exact ⟨0, by omega, rfl, 0, rfl⟩
          case round =>
            obtain ⟨j, hj, rfl, nd, rfl⟩ := hrel
            by_cases hjk : j < k
            · obtain ⟨v, g1, g2⟩ := HG.out j hjk
              obtain ⟨ad1, L1, B1, b1, rfl, hab1, hL1, x0, r1, _, _⟩ := hOa.load hjk
              obtain ⟨ad2, L2, B2, b2, rfl, hab2, hL2, y0, r2, _, _⟩ := hOb.load hjk
              have hL1' := hL1.symm.trans g1
              have hL2' := hL2.symm.trans g2
              obtain rfl := Option.some.inj hL1'
              obtain rfl := Option.some.inj hL2'
              obtain ⟨e1, p1, rfl, _, hp1, t0, t1, t2⟩ := r1.load (k := 0) (by simp)
              obtain ⟨e2, p2, rfl, _, hp2, u0, u1, u2⟩ := r2.load (k := 0) (by simp)
              simp at hp1 hp2
              subst hp1 hp2
              simp only [List.length_singleton] at x0 y0
              have t0' : w3.cell? e1 = some (.string (str v)) := by simpa [Addr.add] using t0
              have u0' : w3.cell? e2 = some (.string (str v)) := by simpa [Addr.add] using u0
              have u1' : w3.cell? ⟨e2.block, e2.off + 1, none⟩ = some (.int .i64 (2 * (j : Int) + 1)) := by rw [Int.add_comm]; simpa [Addr.add] using u1
              have u2' : w3.cell? ⟨e2.block, e2.off + 2, none⟩ = some (.int .i64 3) := by simpa [Addr.add] using u2
              clear hOa hOb HG g1 g2 hL1 hL2 hL1' hL2' r1 r2 t0 t1 t2 u0 u1 u2
              go_wp2_with fail
              go_quiet (fail)
              go_wp2_with fail
              go_roundw
              case rel => exact ⟨j + 1, by omega, by go_num, _, rfl⟩
              case measure => simp [intOf]; omega
            · clear hOa hOb HG
              go_wp2_with fail
              go_ret
              exact ⟨rfl, Mem.below_draws hbz nd⟩

theorem readable : ∀ t ∈ Try.f10.params.toList, Try.prog.readableRec t = true ∧ t < Try.prog.types.size := by
  rw [Try.params10]
  exact Frame.rrs _ rfl

set_option maxRecDepth 100000 in
theorem lifted (os : Os) (started : os.Started) (H : Type) (enc : TypeId × Value → H) :
    ReturnsInHanded {} Try.checked os 10 .any (Rows.wordsCommentsAndSpaceSpec.pre6 enc Try.prog Try.f10 Rows.wordsCommentsAndSpaceRow.domain false) (Rows.wordsCommentsAndSpaceSpec.post enc Try.prog Try.f10 false true false false) := by
  refine returnsInHanded_of_change_shaped (C := Try.checked) own started (by kernel_rfl) Try.func10
    (ChangeSpec.witness6 (enc := enc) (C := Try.checked) false ⟨#[], #[.slice none 0 0, .string ByteArray.empty], []⟩ 8 (by kernel_rfl) (by kernel_rfl) (by kernel_rfl) (by kernel_rfl)) ?_
  intro W base args ds gs before hval0 hW hcnd _ hsh _
  obtain ⟨m, hm⟩ := Frame.cell W hsh
  have hval : ∀ (j : Nat) t v, Try.f10.params[j]? = some t → args[j]? = some v → Value.okWide Try.prog W .any base t v := hval0
  have hW' := hW
  obtain ⟨p, q, hA0, hV, rfl, hfz, hnd⟩ := hW
  have hA : DataW.TrodAll enc Try.prog W 0 (fun _ => true) true Try.f10.params.toList args.toList ds p := hA0
  rw [Try.params10] at hA hval
  obtain ⟨v0, vs0, d0, ds0, p0, q0, hargs, rfl, rfl, h0, r0⟩ := trodAll_cons hA
  obtain ⟨v1, vs1, d1, ds1, p1, q1, rfl, rfl, rfl, h1, r1⟩ := trodAll_cons r0
  obtain ⟨rfl, rfl, rfl⟩ := trodAll_nil r1
  obtain rfl : args = #[v0, v1] := by cases args; simp_all
  obtain ⟨rfl, rfl⟩ := trodVars_none hV
  obtain ⟨A0, n0, c0, rfl, hB0, hn0, hc0⟩ := Frame.arg_bytes (hval 0 35 v0 rfl rfl) h0
  obtain ⟨s1, rfl, _, _, z1⟩ := open_string Try.underlying9 (hval 1 9 v1 rfl rfl) h1
  clear hA0 hval0
  refine (walk A0 n0 c0 hn0 hc0 s1 (by unfold maxLen at z1; omega) W hB0 m hm).mono fun e W' ⟨he, hg⟩ => ?_
  subst he
  exact ⟨_, rfl, Frame.post_law (t4 := 4) Frame.laid readable Try.underlying4 rfl rfl rfl rfl rfl rfl hW' hg⟩

theorem over : Rows.wordsCommentsAndSpaceRow.holds Try.pinned (OpenSpec.ofChange Rows.wordsCommentsAndSpaceSpec) :=
  OpenClaim.holds_of_wide 10 Try.f10 rfl rfl rfl rfl rfl rfl rfl ⟨rfl, rfl, rfl, rfl, rfl⟩ rfl rfl rfl rfl rfl (by kernel_rfl) Try.func10 (by kernel_rfl)
    (of_decide_eq_true (by kernel_rfl)) (by unfold Func.isWrapper; first | (rw [if_pos (by decide +kernel)]; kernel_rfl) | (rw [if_neg (by decide +kernel)]; exact ⟨rfl, rfl⟩))
    (fun os started H enc _ => lifted os started H enc)

theorem proved : Rows.WordsCommentsAndSpaceSaid :=
  over
#print axioms proved
end Go.Proofs.Ythjdhcldocpfjaa.wordsCommentsAndSpace
