/-
  Contract of the program's function that takes a line into the draft.
-/
import Derived.Test.YtdcbaedhgoipjaaDLnk
import Derived.StillTailTactics
namespace Go.Proofs.Ytdcbaedhgoipjaa.DLine
open Go.ChangeShapes Go.WideShapes Go.ChangeAt Go.RowKit Wd Small Mem Lay LayT Recs Keep Names PNames PSecs PEnds RNames Num Txt App Dft DSec DLnk
set_option linter.unusedVariables false

theorem decl_station_no (l : Lay) (O : List Bs) (h : O.length ≠ 1) : decl l (kwStation :: O) = (l, 2) := by
  match O with
  | [] => rfl
  | [_] => exact absurd rfl h
  | [_, _] => rfl
  | [_, _, _] => rfl
  | [_, _, _, _] => rfl
  | [_, _, _, _, _] => rfl
  | [_, _, _, _, _, _] => rfl
  | _ :: _ :: _ :: _ :: _ :: _ :: _ :: _ => rfl
theorem decl_point_no (l : Lay) (O : List Bs) (h : O.length ≠ 1) : decl l (kwPoint :: O) = (l, 2) := by
  match O with
  | [] => rfl
  | [_] => exact absurd rfl h
  | [_, _] => rfl
  | [_, _, _] => rfl
  | [_, _, _, _] => rfl
  | [_, _, _, _, _] => rfl
  | [_, _, _, _, _, _] => rfl
  | _ :: _ :: _ :: _ :: _ :: _ :: _ :: _ => rfl
theorem decl_station (l : Lay) (s : Bs) : decl l [kwStation, s] = ({ l with stations := l.stations ++ [s] }, 0) := rfl
theorem decl_point (l : Lay) (s : Bs) : decl l [kwPoint, s] = ({ l with points := l.points ++ [s] }, 0) := rfl
theorem decl_section (l : Lay) (O : List Bs) : decl l (kwSection :: O) = declS l O := by
  match O with
  | [] => rfl
  | [_] => rfl
  | [_, _] => rfl
  | [_, _, _] => rfl
  | [_, _, _, _] => rfl
  | [_, _, _, _, _] => rfl
  | [_, _, _, _, _, _] => rfl
  | _ :: _ :: _ :: _ :: _ :: _ :: _ :: _ => rfl
theorem decl_link2 (l : Lay) (O : List Bs) : decl l (kwLink :: O) = declL l O := by
  match O with
  | [] => rfl
  | [_] => rfl
  | [_, _] => rfl
  | [_, _, _] => rfl
  | [_, _, _, _] => rfl
  | [_, _, _, _, _] => rfl
  | [_, _, _, _, _, _] => rfl
  | _ :: _ :: _ :: _ :: _ :: _ :: _ :: _ => rfl
theorem decl_none (l : Lay) (kw : Bs) (O : List Bs) (h1 : kw ≠ kwStation) (h2 : kw ≠ kwPoint) (h3 : kw ≠ kwSection) (h4 : kw ≠ kwLink) : decl l (kw :: O) = (l, 2) := by
  match O with
  | [] => rfl
  | [_] => simp only [decl]; rw [if_neg h1, if_neg h2]
  | [_, _] => rfl
  | [_, _, _] => rfl
  | [_, _, _, _] => simp only [decl]; rw [if_neg h3, if_neg h4]
  | [_, _, _, _, _] => rfl
  | [_, _, _, _, _, _] => simp only [decl]; rw [if_neg h3, if_neg h4]
  | _ :: _ :: _ :: _ :: _ :: _ :: _ :: _ => rfl
theorem add_next (ad : Addr) (j : Nat) : (⟨ad.block, ad.off + 1, none⟩ : Addr).add j = ad.add (j + 1) := by
  unfold Addr.add
  by_cases hj : j = 0
  · subst hj; simp
  · simp [hj, Nat.add_assoc, Nat.add_comm 1 j]
/-- the operands behind the first word -/
theorem opn_tail {w : World} {g n : Nat} {ad : Addr} {x : Bs} {O : List Bs} (h : Opn w g (some ad) (n + 1) (x :: O)) : Opn w g (some ⟨ad.block, ad.off + 1, none⟩) n O := by
  have hl := h.1.1
  simp only [List.length_cons] at hl
  obtain ⟨ad0, e0, hb, hg⟩ := opn_lt h (by omega)
  cases e0
  refine ⟨⟨by omega, fun j u hu => ⟨_, rfl, hb, ?_⟩⟩, fun a e => by cases e; exact hg⟩
  obtain ⟨ad', e, _, hc⟩ := h.1.2 (j + 1) u (by
    rw [show sR.cs (x :: O) = [.string (str x)] ++ sR.cs O from rfl]
    rw [List.getElem?_append_right (by simp)]
    simpa using hu)
  cases e
  rw [add_next]
  exact hc
theorem opn_none {w : World} {g : Nat} {ad : Addr} {x : Bs} (h : Opn w g (some ad) 1 [x]) : Opn w g (some ad) 0 [] := ⟨Recs.Rd.nil _ _ _, h.2⟩
theorem str_is (s t : Bs) : ((str s).toList == t) = decide (s = t) := by
  rw [Bool.eq_iff_iff]
  simp only [beq_iff_eq, decide_eq_true_eq]
  rw [show (str s).toList = s from by rw [Lib.toList_data]; exact str_toList s]
theorem Opn.below {w w' : World} {g n : Nat} {A : Option Addr} {O : List Bs} (h : Opn w g A n O) (hb : Below w.heap.size w w') : Opn w' g A n O := ⟨h.1.grow hb hb.size, h.2⟩

set_option maxRecDepth 100000 in
set_option maxHeartbeats 4000000 in
theorem add_line (g m1 m2 m3 k : Nat) (l : Lay) (v : LV) (ad : Addr) (n c : Nat) (kw : Bs) (O : List Bs) (w : World) (h : Dr w g m1 m2 m3 k l v) (hO : Opn w g (some ad) (n + 1) (kw :: O)) (hk : k ≤ 100000) (hn : n ≤ 99) (hc : n + 1 ≤ c) (hcm : c ≤ maxLen) (hz : ∀ s ∈ kw :: O, s.length ≤ 65537) : Calls Try.prog 25 #[.pointer (some ⟨g, 0, none⟩), .slice (some ad) (n + 1 : Nat) c] w (DrPost g m1 m2 m3 (k + 1) (decl l (kw :: O)) w) := by
  unfold maxLen at hcm
  have o0 := opn_at0 hO rfl
  by_cases hc1 : c = 1
  · subst hc1
    obtain rfl : n = 0 := by omega
    have hl := hO.1.1
    obtain rfl : O = [] := by
      match O, hl with
      | [], _ => rfl
    have HO2 := Lib.hid (opn_none hO)
    clear hl
    cases s1 : ((str kw).toList == [115, 116, 97, 116, 105, 111, 110]) with
    | true =>
      obtain rfl : kw = kwStation := of_decide_eq_true ((str_is kw kwStation).symm.trans s1)
      rw [decl_station_no l [] (by simp)]
      have HS := Lib.hid (fun w' (hb : Below w.heap.size w w') => Dr.stay (z := 2) h hb)
      have HA := Lib.hid (append_no g 0 m1 0 0 (some ad) 0 0 w.drew (by omega) (by omega))
      have k4 := h.blk.c4
      clear h hO hz
      go_enter Try.func25, Try.ntmps25
      go_upto_region 4 with fail
      go_still_tail 9, (by kernel_rfl)
      change wpList _ _ _ _ _ w.drew
      go_wp2_with fail
      (with_reducible refine HA.out.mono ?_)
      rintro e w2 ⟨rfl, hb2⟩
      have HB2 := Lib.hid ((Below.refl w.heap.size w).drew.trans hb2)
      clear hb2 k4
      go_wp2_with fail
      go_ret
      exact HS.out _ HB2.out
    | false =>
      cases s2 : ((str kw).toList == [112, 111, 105, 110, 116]) with
      | true =>
        obtain rfl : kw = kwPoint := of_decide_eq_true ((str_is kw kwPoint).symm.trans s2)
        rw [decl_point_no l [] (by simp)]
        have HS := Lib.hid (fun w' (hb : Below w.heap.size w w') => Dr.stay (z := 2) h hb)
        have HA := Lib.hid (append_no g 1 m2 0 0 (some ad) 0 0 w.drew (by omega) (by omega))
        have k4 := h.blk.c5
        clear h hO hz
        go_enter Try.func25, Try.ntmps25
        go_upto_region 6 with fail
        go_still_tail 9, (by kernel_rfl)
        change wpList _ _ _ _ _ w.drew
        go_wp2_with fail
        (with_reducible refine HA.out.mono ?_)
        rintro e w2 ⟨rfl, hb2⟩
        have HB2 := Lib.hid ((Below.refl w.heap.size w).drew.trans hb2)
        clear hb2 k4
        go_wp2_with fail
        go_ret
        exact HS.out _ HB2.out
      | false =>
        cases s3 : ((str kw).toList == [115, 101, 99, 116, 105, 111, 110]) with
        | true =>
          obtain rfl : kw = kwSection := of_decide_eq_true ((str_is kw kwSection).symm.trans s3)
          rw [decl_section]
          have HA := Lib.hid (add_section g m1 m2 m3 k l v (some ad) 0 0 [] w h HO2.out hk (by omega) (fun s hs => hz s (List.mem_cons_of_mem _ hs)))
          clear h hO hz
          go_enter Try.func25, Try.ntmps25
          go_wp2_with fail
          (with_reducible refine HA.out.mono ?_)
          rintro e w2 ⟨v', rfl, hd, hb, hsz⟩
          have HD2 := Lib.hid hd
          have HB2 := Lib.hid hb
          clear hd hb
          go_wp2_with fail
          go_ret
          exact ⟨v', rfl, HD2.out, HB2.out, hsz⟩
        | false =>
          cases s4 : ((str kw).toList == [108, 105, 110, 107]) with
          | true =>
            obtain rfl : kw = kwLink := of_decide_eq_true ((str_is kw kwLink).symm.trans s4)
            rw [decl_link2]
            have HA := Lib.hid (add_link g m1 m2 m3 k l v (some ad) 0 0 [] w h HO2.out hk (by omega) (fun s hs => hz s (List.mem_cons_of_mem _ hs)))
            clear h hO hz
            go_enter Try.func25, Try.ntmps25
            go_wp2_with fail
            (with_reducible refine HA.out.mono ?_)
            rintro e w2 ⟨v', rfl, hd, hb, hsz⟩
            have HD2 := Lib.hid hd
            have HB2 := Lib.hid hb
            clear hd hb
            go_wp2_with fail
            go_ret
            exact ⟨v', rfl, HD2.out, HB2.out, hsz⟩
          | false =>
            have hno : decl l [kw] = (l, 2) := decl_none l kw [] (of_decide_eq_false ((str_is kw kwStation).symm.trans s1)) (of_decide_eq_false ((str_is kw kwPoint).symm.trans s2)) (of_decide_eq_false ((str_is kw kwSection).symm.trans s3)) (of_decide_eq_false ((str_is kw kwLink).symm.trans s4))
            rw [hno]
            have HS := Lib.hid (Dr.stay (z := 2) h (Below.refl _ _))
            clear h hO hz hno
            go_enter Try.func25, Try.ntmps25
            go_wp2_with fail
            go_ret
            exact HS.out
  · have HO2 := Lib.hid (opn_tail hO)
    cases s1 : ((str kw).toList == [115, 116, 97, 116, 105, 111, 110]) with
    | true =>
      obtain rfl : kw = kwStation := of_decide_eq_true ((str_is kw kwStation).symm.trans s1)
      have hld := HO2.out.1.1
      have hd1 : Dr w.drew g m1 m2 m3 k l v := h.below (Below.refl _ _).drew
      have ho1 : Opn w.drew g (some ⟨ad.block, ad.off + 1, none⟩) n O := Opn.below HO2.out (Below.refl _ _).drew
      have HD1 := Lib.hid hd1
      have HO1 := Lib.hid ho1
      have k4 := h.blk.c4
      have hmg : m1 < g := by have := h.ms; omega
      have hb := h.b1
      have hgw := h.blk.lt
      by_cases hn1 : n = 1
      · subst hn1
        obtain ⟨s, rfl⟩ : ∃ s, O = [s] := by
          match O, hld with
          | [s], _ => exact ⟨s, rfl⟩
        have hsz : s.length ≤ 65537 := hz s (by simp)
        rw [decl_station]
        have HA := Lib.hid (append_one g 0 m1 k (g + 1) v.n1 v.c1 v.A1 l.stations (some ⟨ad.block, ad.off + 1, none⟩) (c - 1) s w.drew (HD1.out.blk.c0) (HD1.out.blk.f 0) HD1.out.st HD1.out.q1 HO1.out (by omega) hmg (by show g + 1 ≤ w.heap.size; omega) hk hb hsz)
        clear h hO hd1 ho1 hld hz
        go_enter Try.func25, Try.ntmps25
        go_upto_region 4 with fail
        go_still_tail 9, (by kernel_rfl)
        change wpList _ _ _ _ _ w.drew
        go_wp2_with fail
        (with_reducible refine HA.out.mono ?_)
        rintro e w2 ⟨A', c', wn, rfl, hNn, hOn, hat, ⟨wm, h1, h2⟩, rfl⟩
        have HDr := Lib.hid (HD1.out.stat h1 h2 hNn hOn hat hsz)
        have HBB : Hid (Below m1 w.drew (wn.setCell ⟨g, 0, none⟩ (.slice A' (v.n1 + 1) c'))) := below3 (by have := HD1.out.ms; omega) (by have := HD1.out.ms; omega) (by have := HD1.out.ms; show m1 ≤ w.heap.size; omega) h1 h2 (Dr.lo HD1.out.st)
        clear hNn hOn hat h1 h2 k4
        go_wp2_with fail
        go_ret
        exact ⟨_, rfl, HDr.out, (Below.refl m1 w).drew.trans HBB.out, HBB.out.size⟩
      · rw [decl_station_no l O (by omega)]
        have HS := Lib.hid (fun w' (hb : Below w.heap.size w w') => Dr.stay (z := 2) h hb)
        have HA := Lib.hid (append_no g 0 m1 n (c - 1) (some ⟨ad.block, ad.off + 1, none⟩) n (c - 1) w.drew hn1 (by omega))
        clear h hO hd1 ho1 hld hz
        go_enter Try.func25, Try.ntmps25
        go_upto_region 4 with fail
        go_still_tail 9, (by kernel_rfl)
        change wpList _ _ _ _ _ w.drew
        go_wp2_with fail
        (with_reducible refine HA.out.mono ?_)
        rintro e w2 ⟨rfl, hb2⟩
        have HB2 := Lib.hid ((Below.refl w.heap.size w).drew.trans hb2)
        clear hb2 k4
        go_wp2_with fail
        go_ret
        exact HS.out _ HB2.out
    | false =>
      cases s2 : ((str kw).toList == [112, 111, 105, 110, 116]) with
      | true =>
        obtain rfl : kw = kwPoint := of_decide_eq_true ((str_is kw kwPoint).symm.trans s2)
        have hld := HO2.out.1.1
        have hd1 : Dr w.drew g m1 m2 m3 k l v := h.below (Below.refl _ _).drew
        have ho1 : Opn w.drew g (some ⟨ad.block, ad.off + 1, none⟩) n O := Opn.below HO2.out (Below.refl _ _).drew
        have HD1 := Lib.hid hd1
        have HO1 := Lib.hid ho1
        have k4 := h.blk.c5
        have hmg : m2 < g := by have := h.ms; omega
        have hb := h.b2
        have hgw := h.blk.lt
        by_cases hn1 : n = 1
        · subst hn1
          obtain ⟨s, rfl⟩ : ∃ s, O = [s] := by
            match O, hld with
            | [s], _ => exact ⟨s, rfl⟩
          have hsz : s.length ≤ 65537 := hz s (by simp)
          rw [decl_point]
          have HA := Lib.hid (append_one g 1 m2 k (g + 1) v.n2 v.c2 v.A2 l.points (some ⟨ad.block, ad.off + 1, none⟩) (c - 1) s w.drew (HD1.out.blk.c1) (HD1.out.blk.f 1) HD1.out.pt HD1.out.q2 HO1.out (by omega) hmg (by show g + 1 ≤ w.heap.size; omega) hk hb hsz)
          clear h hO hd1 ho1 hld hz
          go_enter Try.func25, Try.ntmps25
          go_upto_region 6 with fail
          go_still_tail 9, (by kernel_rfl)
          change wpList _ _ _ _ _ w.drew
          go_wp2_with fail
          (with_reducible refine HA.out.mono ?_)
          rintro e w2 ⟨A', c', wn, rfl, hNn, hOn, hat, ⟨wm, h1, h2⟩, rfl⟩
          have HDr := Lib.hid (HD1.out.poin h1 h2 hNn hOn hat hsz)
          have HBB : Hid (Below m1 w.drew (wn.setCell ⟨g, 1, none⟩ (.slice A' (v.n2 + 1) c'))) := below3 (by have := HD1.out.ms; omega) (by have := HD1.out.ms; omega) (by have := HD1.out.ms; show m1 ≤ w.heap.size; omega) h1 h2 (Dr.lo HD1.out.pt)
          clear hNn hOn hat h1 h2 k4
          go_wp2_with fail
          go_ret
          exact ⟨_, rfl, HDr.out, (Below.refl m1 w).drew.trans HBB.out, HBB.out.size⟩
        · rw [decl_point_no l O (by omega)]
          have HS := Lib.hid (fun w' (hb : Below w.heap.size w w') => Dr.stay (z := 2) h hb)
          have HA := Lib.hid (append_no g 1 m2 n (c - 1) (some ⟨ad.block, ad.off + 1, none⟩) n (c - 1) w.drew hn1 (by omega))
          clear h hO hd1 ho1 hld hz
          go_enter Try.func25, Try.ntmps25
          go_upto_region 6 with fail
          go_still_tail 9, (by kernel_rfl)
          change wpList _ _ _ _ _ w.drew
          go_wp2_with fail
          (with_reducible refine HA.out.mono ?_)
          rintro e w2 ⟨rfl, hb2⟩
          have HB2 := Lib.hid ((Below.refl w.heap.size w).drew.trans hb2)
          clear hb2 k4
          go_wp2_with fail
          go_ret
          exact HS.out _ HB2.out
      | false =>
        cases s3 : ((str kw).toList == [115, 101, 99, 116, 105, 111, 110]) with
        | true =>
          obtain rfl : kw = kwSection := of_decide_eq_true ((str_is kw kwSection).symm.trans s3)
          rw [decl_section]
          have HA := Lib.hid (add_section g m1 m2 m3 k l v (some ⟨ad.block, ad.off + 1, none⟩) n (c - 1) O w h HO2.out hk (by omega) (fun s hs => hz s (List.mem_cons_of_mem _ hs)))
          clear h hO hz
          go_enter Try.func25, Try.ntmps25
          go_wp2_with fail
          (with_reducible refine HA.out.mono ?_)
          rintro e w2 ⟨v', rfl, hd, hb, hsz⟩
          have HD2 := Lib.hid hd
          have HB2 := Lib.hid hb
          clear hd hb
          go_wp2_with fail
          go_ret
          exact ⟨v', rfl, HD2.out, HB2.out, hsz⟩
        | false =>
          cases s4 : ((str kw).toList == [108, 105, 110, 107]) with
          | true =>
            obtain rfl : kw = kwLink := of_decide_eq_true ((str_is kw kwLink).symm.trans s4)
            rw [decl_link2]
            have HA := Lib.hid (add_link g m1 m2 m3 k l v (some ⟨ad.block, ad.off + 1, none⟩) n (c - 1) O w h HO2.out hk (by omega) (fun s hs => hz s (List.mem_cons_of_mem _ hs)))
            clear h hO hz
            go_enter Try.func25, Try.ntmps25
            go_wp2_with fail
            (with_reducible refine HA.out.mono ?_)
            rintro e w2 ⟨v', rfl, hd, hb, hsz⟩
            have HD2 := Lib.hid hd
            have HB2 := Lib.hid hb
            clear hd hb
            go_wp2_with fail
            go_ret
            exact ⟨v', rfl, HD2.out, HB2.out, hsz⟩
          | false =>
            have hno : decl l (kw :: O) = (l, 2) := decl_none l kw O (of_decide_eq_false ((str_is kw kwStation).symm.trans s1)) (of_decide_eq_false ((str_is kw kwPoint).symm.trans s2)) (of_decide_eq_false ((str_is kw kwSection).symm.trans s3)) (of_decide_eq_false ((str_is kw kwLink).symm.trans s4))
            rw [hno]
            have HS := Lib.hid (Dr.stay (z := 2) h (Below.refl _ _))
            clear h hO hz hno
            go_enter Try.func25, Try.ntmps25
            go_wp2_with fail
            go_ret
            exact HS.out
end Go.Proofs.Ytdcbaedhgoipjaa.DLine
