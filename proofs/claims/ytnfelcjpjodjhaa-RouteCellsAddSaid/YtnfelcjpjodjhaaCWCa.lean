/-
  The walk of the statement that the cells of a route add up.
-/
import Derived.Test.YtnfelcjpjodjhaaMN
import Derived.Test.YtnfelcjpjodjhaaML
import Derived.Deep.RegionHeld3
namespace Go.Proofs.Ytnfelcjpjodjhaa.WCa
open Go.ChangeShapes Go.WideShapes Go.ChangeAt Go.RowKit Wd Small Mem Lay LayT Recs Keep Names PNames PSecs PEnds PCheck PStep PHops RNames Src Dec Rt RtR RtW PTra PCls Maker Awake Awk7 RteK
set_option linter.unusedVariables false

theorem ints_more {w : World} {B B' n : Nat} {A : Option Addr} (h : Ints w B A n) (hB : B ≤ B') : Ints w B' A n := fun j hj => by
  obtain ⟨ad, z, e, h1, h2⟩ := h j hj
  exact ⟨ad, z, e, by omega, h2⟩
theorem cellsFor_app (l : Lay) (S T : List Lay.Step) : cellsFor l (S ++ T) = cellsFor l S ++ cellsFor l T := by simp [cellsFor]
/-- the cell at a place of a travelled section -/
theorem cell_at {l : Lay} {S : List Lay.Step} {i k : Nat} {x y : Int} {s : Sec} (h : S[i]? = some (x, y)) (hs : l.sections[x.toNat]? = some s) (hk : k < s.len.toNat) : (cellsFor l S)[(cellsFor l (S.take i)).length + k]? = some (cellOf s y) := by
  have e : S = S.take (i + 1) ++ S.drop (i + 1) := (List.take_append_drop _ _).symm
  rw [e, cellsFor_app, cellsFor_snoc l S i x y s h hs, List.take_append_drop] 
  rw [List.append_assoc, List.getElem?_append_right (by omega), Nat.add_sub_cancel_left, List.getElem?_append_left (by simpa using hk)]
  simp [hk]

set_option maxRecDepth 100000 in
set_option maxHeartbeats 8000000 in
theorem cells_add (A1 : Option Addr) (n1 c1 : Nat) (A2 : Option Addr) (n2 c2 : Nat) (w : World) (h1 : Ints w w.heap.size A1 n1) (h2 : Ints w w.heap.size A2 n2) (hn1 : n1 ≤ 9223372036854775807) (hn2 : n2 ≤ 9223372036854775807) : Calls Try.prog 5 #[.slice A1 n1 c1, .slice A2 n2 c2] w (Yes w) := by
  go_enter Try.func5, Try.ntmps5
  go_wp2_with fail
  refine (layout_any A1 n1 c1 w h1 hn1).mono ?_
  rintro e w1 ⟨v, l, rfl, hL, hck, hb1⟩
  obtain ⟨W2, hW2, HZ2, hb2, hbx2⟩ := boxed v w1
  have HL2 := Lib.hid (hL.grow hb2 hb2.size)
  have HI2 := Lib.hid ((h2.below hb1).below (hb2.mono hb1.size))
  have HK : Hid (∀ wr, Below W2.heap.size W2 wr → _) := fun wr hb => box_kept hb (show w1.heap.size < W2.heap.size by rw [HZ2.out]; omega) hbx2
  have HB2 := Lib.hid (hb1.trans (hb2.mono hb1.size))
  have HCK := Lib.hid hck
  have HR := Lib.hid (route_any v l A2 n2 c2 W2 HL2.out hck (ints_more (h2.below (hb1.trans (hb2.mono hb1.size))) (by have := hb1.size; have := hb2.size; omega)) hn2)
  have HN3 := Lib.hid hL.sec.1
  obtain ⟨B1, m1, d1, B2, m2, d2, B3, m3, d3, B4, m4, d4⟩ := v
  simp only [LV.val] at *
  clear hL hck hb1 hb2 h1 h2
  obtain ⟨b0, b1, b2, b3⟩ := hbx2
  go_upto_region 2 with fail
  try rw [hW2]
  clear hW2
  go_wp2_with fail
  refine HR.out.mono ?_
  rintro e w3 ⟨A, n, c, S, ov, rfl, hO, hWK, hn7, hov0, hov2, hov3, hb3⟩
  obtain ⟨W4, hW4⟩ : ∃ W4, w3.alloc (.cells #[.slice A n c, .int .i64 ov] 26) = W4 := ⟨_, rfl⟩
  have hb4 : Below w3.heap.size w3 W4 := by rw [← hW4]; exact (Below.refl _ _).alloc (Nat.le_refl _) _
  have hz4 : w3.heap.size < W4.heap.size := by rw [← hW4]; simp
  have hr4 : RBox W4 w3.heap.size A n c ov := by rw [← hW4]; exact heap_alloc_new _ _
  have hb34 := hb3.trans (hb4.mono hb3.size)
  have HRB : Hid (∀ wr, Below W4.heap.size W4 wr → RBox wr w3.heap.size A n c ov) := fun wr hb => (hb.block _ hz4).trans hr4
  have HKB : Hid (∀ wr, Below W4.heap.size W4 wr → Below W2.heap.size W2 wr) := fun wr hb => hb34.trans (hb.mono hb34.size)
  have HS4 := Lib.hid ((hO.below hb4 (Nat.le_refl _)).rd)
  have HL4 := Lib.hid (HL2.out.grow hb34 hb34.size)
  have HB4 := Lib.hid (HB2.out.trans (hb34.mono HB2.out.size))
  have HWK := Lib.hid hWK
  have hSn := hO.1
  obtain ⟨hnc, hc63⟩ : n ≤ c ∧ c ≤ maxLen := by obtain ⟨_, _, e, h1, h2⟩ := hO.form; injection e; subst_vars; exact ⟨h1, h2⟩
  have hn1 : 1 ≤ n := by have := List.length_pos_iff.2 hWK.ne; omega
  clear b0 b1 b2 b3 hO hb3 hb4 hr4 hb34 hWK HR HI2
  obtain ⟨r0, r1, -, -, -⟩ := (HRB.out W4 (Below.refl _ _)).cells
  obtain ⟨b0, b1, b2, b3⟩ := HK.out W4 (HKB.out W4 (Below.refl _ _))
  go_upto_region 3 with fail
  try rw [hW4]
  clear hW4
  by_cases hfew : n < 2
  · have hfew' : (n : Int) < 2 := by omega
    go_wp2_with fail
    refine (awake7 _).mono ?_
    rintro e w5 ⟨rfl, hb5⟩
    go_wp2_with fail
    go_ret
    exact ⟨rfl, HB4.out.trans (hb5.mono HB4.out.size)⟩
  · have hfew' : ¬ (n : Int) < 2 := by omega
    have hok : rerr l ⟨S, ov⟩ = 0 := HWK.out.ok HCK.out hov0 hov2 (by omega) (by omega)
    have hlen : (cellsFor l (trav ⟨S, ov⟩)).length ≤ 4000 := by
      have h1 := cellsFor_len l HCK.out (trav ⟨S, ov⟩)
      have h2 : (trav ⟨S, ov⟩).length ≤ 7 := by unfold trav; rw [List.length_take]; simp only; omega
      omega
    have hrc : rcells l ⟨S, ov⟩ = (cellsFor l (trav ⟨S, ov⟩), lenAt l (headSec S), 0) := by
      unfold rcells
      rw [if_neg (by rw [hok]; decide), if_neg (by omega)]
    have HC := p_cells ⟨B1, m1, d1, B2, m2, d2, B3, m3, d3, B4, m4, d4⟩ l A n c S ov W4 HL4.out HS4.out hnc (by unfold maxLen at hc63; omega) (by omega) (by omega)
    unfold ClsPost at HC
    rw [hrc] at HC
    have HC' := Lib.hid HC
    simp only [LV.val, rteV] at HC'
    clear HC hrc hok
    go_wp2_with fail
    refine HC'.out.mono ?_
    rintro e w5 ⟨Ac, nc, cc, rfl, hOc, hb5⟩
    have HB5 := Lib.hid hb5
    have HCR := Lib.hid hOc.rd
    have hncl := hOc.1
    obtain ⟨T, hT, hTn, hT2⟩ : ∃ T : Nat, (n : Int) - ov = (T : Int) ∧ T ≤ n ∧ 2 ≤ T := ⟨((n : Int) - ov).toNat, by omega, by omega, by omega⟩
    have htr : trav ⟨S, ov⟩ = S.take T := by unfold trav; simp only; congr 1; omega
    rw [htr] at HCR hncl hlen
    have HCL := Lib.hid hncl
    clear hOc hb5 hncl r0 r1 b0 b1 b2 b3 HC' htr
    obtain ⟨r0, r1, -, -, -⟩ := (HRB.out w5 HB5.out).cells
    go_wp2_with fail
    go_loopw [10, 11, 13, 14] (fun a i _ _ wr => ∃ (i' at' : Nat), i' ≤ T ∧ i = .int .i64 i' ∧ a = .int .i64 at' ∧ Hid (at' = (cellsFor l ((S.take T).take i')).length) ∧ Hid (Below w5.heap.size w5 wr)) (fun _ i _ _ _ => T - (intOf i).toNat)
    case atStart => exact ⟨0, 0, Nat.zero_le _, rfl, rfl, rfl, Below.refl _ _⟩
    case round =>
      obtain ⟨i, a0, hi, rfl, rfl, HA, HBr⟩ := hrel
      obtain ⟨wo, rfl⟩ : ∃ wo : World, wo = wr := ⟨_, rfl⟩
      have hB4r := Lib.hid (HB5.out.trans (HBr.out.mono HB5.out.size))
      clear r0 r1
      obtain ⟨r0, r1, -, -, -⟩ := (HRB.out wo hB4r.out).cells
      by_cases hlt : i < T
      · have hlt' : (i : Int) < (T : Int) := by omega
        have hltn : (i : Int) < (n : Int) := by omega
        have hi0 : (0 : Int) ≤ (i : Int) := by omega
        obtain ⟨ad, x, y, rfl, hab, hs, q0, q1⟩ := loadStp (HS4.out.below hB4r.out) (show i < n by omega)
        obtain ⟨hx0, hx1, hy⟩ := step_at (HWK.out.inn _ (List.mem_of_getElem? hs))
        obtain ⟨xn, rfl⟩ : ∃ xn : Nat, x = (xn : Int) := ⟨x.toNat, by omega⟩
        have hxn : xn < m3 := by have := HN3.out; omega
        have hxn' : (xn : Int) < (m3 : Int) := by omega
        have hxn0 : (0 : Int) ≤ (xn : Int) := by omega
        obtain ⟨ae, ⟨nm, len, lim, gr, st⟩, rfl, hae, hsec, e0, e1, e2, e3, e4⟩ := loadSec ((HL4.out.below hB4r.out).sec) hxn
        obtain ⟨l1, l2, l3, l4⟩ := sec_ok HCK.out (List.mem_of_getElem? hsec)
        simp only at e0 e1 e2 e3 e4 l1 l2 l3 l4
        obtain ⟨m, rfl⟩ : ∃ m : Nat, len = (m : Int) := ⟨len.toNat, by omega⟩
        obtain ⟨-, -, b2, -⟩ := HK.out wo (HKB.out wo hB4r.out)
        have HCA : Hid (∀ k, k < m → (cellsFor l (S.take T))[a0 + k]? = some (cellOf ⟨nm, (m : Int), lim, gr, st⟩ y)) := fun k hk => by
          rw [HA.out]
          exact cell_at (by rw [List.getElem?_take, if_pos hlt]; exact hs) (by rw [Int.toNat_natCast]; exact hsec) (by simpa using hk)
        have HSN : Hid (a0 + m = (cellsFor l ((S.take T).take (i + 1))).length) := by
          rw [Hid, cellsFor_snoc l (S.take T) i (xn : Int) y ⟨nm, (m : Int), lim, gr, st⟩ (by rw [List.getElem?_take, if_pos hlt]; exact hs) (by rw [Int.toNat_natCast]; exact hsec), List.length_append, ← HA.out]
          simp
        have hzo := hB4r.out.size
        have hab' : (ad.add (i * 2)).block < wo.heap.size := by rw [Mem.block_add]; omega
        have hae' : (ae.add (xn * 5)).block < wo.heap.size := by rw [Mem.block_add]; omega
        have hbl1 : w1.heap.size < wo.heap.size := World.block_lt_of_cell? _ _ b2
        have hbl3 : w3.heap.size < wo.heap.size := World.block_lt_of_cell? _ _ r0
        have KA : Hid (∀ w', Below wo.heap.size wo w' → w'.cell? ⟨w1.heap.size, 2, none⟩ = some (.slice (some ae) m3 d3) ∧ w'.cell? ⟨w3.heap.size, 0, none⟩ = some (.slice (some ad) n c) ∧ w'.cell? (ad.add (i * 2)) = some (.int .i64 xn) ∧ w'.cell? (ae.add (xn * 5)) = some (.string (str nm)) ∧ w'.cell? ⟨(ae.add (xn * 5)).block, (ae.add (xn * 5)).off + 1, none⟩ = some (.int .i64 m) ∧ w'.cell? ⟨(ae.add (xn * 5)).block, (ae.add (xn * 5)).off + 2, none⟩ = some (.int .i64 lim) ∧ w'.cell? ⟨(ae.add (xn * 5)).block, (ae.add (xn * 5)).off + 3, none⟩ = some (.int .i64 gr) ∧ w'.cell? ⟨(ae.add (xn * 5)).block, (ae.add (xn * 5)).off + 4, none⟩ = some (.int .i64 st) ∧ Below wo.heap.size wo w') := fun w' hb =>
          ⟨(hb.cell (p := ⟨w1.heap.size, 2, none⟩) hbl1).trans b2, (hb.cell (p := ⟨w3.heap.size, 0, none⟩) hbl3).trans r0, (hb.cell (p := ad.add (i * 2)) hab').trans q0, (hb.cell (p := ae.add (xn * 5)) hae').trans e0, (hb.cell (p := ⟨(ae.add (xn * 5)).block, (ae.add (xn * 5)).off + 1, none⟩) hae').trans e1, (hb.cell (p := ⟨(ae.add (xn * 5)).block, (ae.add (xn * 5)).off + 2, none⟩) hae').trans e2, (hb.cell (p := ⟨(ae.add (xn * 5)).block, (ae.add (xn * 5)).off + 3, none⟩) hae').trans e3, (hb.cell (p := ⟨(ae.add (xn * 5)).block, (ae.add (xn * 5)).off + 4, none⟩) hae').trans e4, hb⟩
        have Q1 := Lib.hid q1
        have BR0 := Lib.hid b2
        clear hs hsec hab hae hx0 hx1
        go_upto_region 10 with fail
        clear b2 r0 q0 q1 e0 e1 e2 e3 e4
        go_region_held3 (fun w' => w'.cell? ⟨w1.heap.size, 2, none⟩ = some (.slice (some ae) m3 d3) ∧ w'.cell? ⟨w3.heap.size, 0, none⟩ = some (.slice (some ad) n c) ∧ w'.cell? (ad.add (i * 2)) = some (.int .i64 xn) ∧ w'.cell? (ae.add (xn * 5)) = some (.string (str nm)) ∧ w'.cell? ⟨(ae.add (xn * 5)).block, (ae.add (xn * 5)).off + 1, none⟩ = some (.int .i64 m) ∧ w'.cell? ⟨(ae.add (xn * 5)).block, (ae.add (xn * 5)).off + 2, none⟩ = some (.int .i64 lim) ∧ w'.cell? ⟨(ae.add (xn * 5)).block, (ae.add (xn * 5)).off + 3, none⟩ = some (.int .i64 gr) ∧ w'.cell? ⟨(ae.add (xn * 5)).block, (ae.add (xn * 5)).off + 4, none⟩ = some (.int .i64 st) ∧ Below wo.heap.size wo w')
          (first | exact KA.out _ (by repeat (first | exact Below.refl _ _ | refine Below.drew ?_ | refine Below.alloc ?_ (by simp; try omega) _ | refine Below.setCell ?_ (by simp; try omega) _)))
          ((fail))
        go_upto_region 11 with fail
        obtain ⟨W6, hW6⟩ : ∃ W6, (wo.alloc (.cells #[.string (str nm), .int .i64 m, .int .i64 lim, .int .i64 gr, .int .i64 st] 52)).drew = W6 := ⟨_, rfl⟩
        have hb6 : Below wo.heap.size wo W6 := by rw [← hW6]; exact ((Below.refl _ _).alloc (Nat.le_refl _) _).drew
        have hz6 : wo.heap.size < W6.heap.size := by rw [← hW6]; simp
        have z1 : W6.cell? ⟨wo.heap.size, 1, none⟩ = some (.int .i64 m) := by rw [← hW6]; simp
        have z2 : W6.cell? ⟨wo.heap.size, 2, none⟩ = some (.int .i64 lim) := by rw [← hW6]; simp
        have z3 : W6.cell? ⟨wo.heap.size, 3, none⟩ = some (.int .i64 gr) := by rw [← hW6]; simp
        have HQ : Hid (∀ wq, Below W6.heap.size W6 wq → wq.cell? ⟨wo.heap.size, 1, none⟩ = some (.int .i64 m) ∧ wq.cell? ⟨wo.heap.size, 2, none⟩ = some (.int .i64 lim) ∧ wq.cell? ⟨wo.heap.size, 3, none⟩ = some (.int .i64 gr) ∧ wq.cell? ⟨w3.heap.size, 0, none⟩ = some (.slice (some ad) n c) ∧ wq.cell? ⟨(ad.add (i * 2)).block, (ad.add (i * 2)).off + 1, none⟩ = some (.int .i64 y) ∧ Below w5.heap.size w5 wq) := fun wq hb =>
          have hbo : Below wo.heap.size wo wq := hb6.trans (hb.mono (by omega))
          ⟨(hb.cell (p := ⟨wo.heap.size, 1, none⟩) hz6).trans z1, (hb.cell (p := ⟨wo.heap.size, 2, none⟩) hz6).trans z2, (hb.cell (p := ⟨wo.heap.size, 3, none⟩) hz6).trans z3, (KA.out wq hbo).2.1, (hbo.cell (p := ⟨(ad.add (i * 2)).block, (ad.add (i * 2)).off + 1, none⟩) hab').trans Q1.out, HBr.out.trans (hbo.mono HBr.out.size)⟩
        try rw [hW6]
        clear hW6 hb6 z1 z2 z3 hz6
        go_wp2_with fail
        go_loopw [10, 13, 14] (fun a kk _ wq => ∃ k : Nat, k ≤ m ∧ kk = .int .i64 k ∧ a = .int .i64 ((a0 + k : Nat) : Int) ∧ Hid (Below W6.heap.size W6 wq)) (fun _ kk _ _ => m - (intOf kk).toNat)
        case atStart => exact ⟨0, Nat.zero_le _, rfl, rfl, Below.refl _ _⟩
        case round =>
          obtain ⟨k, hk, rfl, rfl, HBq⟩ := hrel
          obtain ⟨z1, z2, z3, r0, q1, hb5q⟩ := HQ.out wr HBq.out
          by_cases hlk : k < m
          · have hlk' : (k : Int) < (m : Int) := by omega
            have hca := HCA.out k hlk
            have hat : a0 + k < nc := by have := (List.getElem?_eq_some_iff.1 hca).1; have := HCL.out; omega
            obtain ⟨ac, ⟨cl, cg⟩, rfl, hacb, hcc, p0, p1⟩ := loadCel (HCR.out.below hb5q) hat
            rw [hca] at hcc
            obtain ⟨rfl, rfl⟩ : lim = cl ∧ (if y = 1 then -gr else gr) = cg := by
              have := Option.some.inj hcc
              unfold cellOf at this
              injection this with h1 h2
              exact ⟨h1, h2⟩
            simp only at p0 p1
            have hncb : nc ≤ 4000 := by have := HCL.out; omega
            have hat' : ((a0 + k : Nat) : Int) < (nc : Int) := by omega
            have hat2 : decide ((nc : Int) ≤ ((a0 + k : Nat) : Int)) = false := decide_eq_false (by omega)
            have hat0 : (0 : Int) ≤ ((a0 + k : Nat) : Int) := by omega
            have hwa : IntKind.i64.wrap (((a0 + k : Nat) : Int) + 1) = ((a0 + k : Nat) : Int) + 1 := by rw [IntKind.wrap_i64]; omega
            have HB5q := Lib.hid hb5q
            clear hca hcc hacb hb5q
            generalize hA0 : a0 + k = at1 at *
            rcases hy with rfl | rfl
            · rw [if_neg (by decide)] at p1
              go_upto_region 17 with fail
              go_quiet (fail)
              go_wp2_with fail
              go_roundw
              case rel => exact ⟨k + 1, by omega, by go_num, by rw [show a0 + (k + 1) = at1 + 1 by omega]; go_num, Mem.below_draws HBq.out _⟩
              case measure => simp [intOf]; omega
            · rw [if_pos rfl] at p1
              have hwg : IntKind.i64.wrap (-gr) = -gr := by rw [IntKind.wrap_i64]; omega
              go_upto_region 17 with fail
              go_quiet (fail)
              go_wp2_with fail
              go_roundw
              case rel => exact ⟨k + 1, by omega, by go_num, by rw [show a0 + (k + 1) = at1 + 1 by omega]; go_num, Mem.below_draws HBq.out _⟩
              case measure => simp [intOf]; omega
          · obtain rfl : k = m := by omega
            have hlk' : ¬ (k : Int) < (k : Int) := by omega
            have HBo := Lib.hid (hb5q)
            clear q1
            go_wp2_with fail
            go_roundw
            case rel => exact ⟨i + 1, a0 + k, by omega, by go_num, rfl, HSN, HBo⟩
            case measure => simp [intOf]; omega
      · obtain rfl : i = T := by omega
        have hlt' : ¬ (i : Int) < (i : Int) := by omega
        have HAL : Hid (a0 = nc) := by rw [Hid, HA.out, ← HCL.out, List.take_take, Nat.min_self]
        have hal := HAL.out
        subst hal
        obtain ⟨ad, x, y, rfl, hab, hs, q0, q1⟩ := loadStp (HS4.out.below hB4r.out) (show 0 < n by omega)
        obtain ⟨hx0, hx1, hy⟩ := step_at (HWK.out.inn _ (List.mem_of_getElem? hs))
        obtain ⟨xn, rfl⟩ : ∃ xn : Nat, x = (xn : Int) := ⟨x.toNat, by omega⟩
        have hxn : xn < m3 := by have := HN3.out; omega
        have hxn' : (xn : Int) < (m3 : Int) := by omega
        have hxn0 : (0 : Int) ≤ (xn : Int) := by omega
        have hn0' : (0 : Int) < (n : Int) := by omega
        have hn0n : 0 < n := by omega
        obtain ⟨ae, ⟨nm, len, lim, gr, st⟩, rfl, hae, hsec, e0, e1, e2, e3, e4⟩ := loadSec ((HL4.out.below hB4r.out).sec) hxn
        simp only at e1
        have E3 : lenAt l (headSec S) = len := by
          cases S with
          | nil => simp at hs
          | cons a r =>
            simp at hs
            subst hs
            simp [headSec, lenAt, secAt, hsec]
        rw [E3]
        rw [Nat.zero_mul, show ad.add 0 = ad by simp [Addr.add]] at q0
        obtain ⟨-, -, b2, -⟩ := HK.out wo (HKB.out wo hB4r.out)
        have hzo := hB4r.out.size
        have hab' : ad.block < wo.heap.size := by omega
        have hae' : (ae.add (xn * 5)).block < wo.heap.size := by rw [Mem.block_add]; omega
        have hbl1 : w1.heap.size < wo.heap.size := World.block_lt_of_cell? _ _ b2
        have hbl3 : w3.heap.size < wo.heap.size := World.block_lt_of_cell? _ _ r0
        have KA : Hid (∀ w', Below wo.heap.size wo w' → w'.cell? ⟨w1.heap.size, 2, none⟩ = some (.slice (some ae) m3 d3) ∧ w'.cell? ⟨w3.heap.size, 0, none⟩ = some (.slice (some ad) n c) ∧ w'.cell? ad = some (.int .i64 xn) ∧ w'.cell? ⟨(ae.add (xn * 5)).block, (ae.add (xn * 5)).off + 1, none⟩ = some (.int .i64 len) ∧ Below wo.heap.size wo w') := fun w' hb =>
          ⟨(hb.cell (p := ⟨w1.heap.size, 2, none⟩) hbl1).trans b2, (hb.cell (p := ⟨w3.heap.size, 0, none⟩) hbl3).trans r0, (hb.cell (p := ad) hab').trans q0, (hb.cell (p := ⟨(ae.add (xn * 5)).block, (ae.add (xn * 5)).off + 1, none⟩) hae').trans e1, hb⟩
        have HBo := Lib.hid (HB4.out.trans (hB4r.out.mono HB4.out.size))
        clear hs hsec hab hae hx0 hx1 hy b2 q0 q1 e0 e1 e2 e3 e4 E3
        go_upto_region 20 with fail
        clear r0 r1
        have hb0 := Below.refl wo.heap.size wo
        go_region_held3 (fun w' => w'.cell? ⟨w1.heap.size, 2, none⟩ = some (.slice (some ae) m3 d3) ∧ w'.cell? ⟨w3.heap.size, 0, none⟩ = some (.slice (some ad) n c) ∧ w'.cell? ad = some (.int .i64 xn) ∧ w'.cell? ⟨(ae.add (xn * 5)).block, (ae.add (xn * 5)).off + 1, none⟩ = some (.int .i64 len) ∧ Below wo.heap.size wo w')
          (first | exact KA.out _ hb0.drew | exact KA.out _ (hb0.drew.trans (hbe.mono (by simp))))
          ((first | (go_at_call 18; refine (awake7 _).mono ?_; rintro e we ⟨rfl, hbe⟩)))
        go_wp2_with fail
        go_ret
        exact ⟨rfl, HBo.out.trans ((hb0.drew.trans (hbe.mono (by simp))).mono HBo.out.size)⟩
end Go.Proofs.Ytnfelcjpjodjhaa.WCa
