/-
  Contract of joining a section to the tracks of a station.
-/
import Derived.Test.YtkfobijgjdgbgaaDoorSt
namespace Go.Proofs.YtkfobijgjdgbgaaDoor.Fan
open Go.ChangeShapes Go.WideShapes Go.ChangeAt Go.RowKit Wd Small Mem Lay LayT LayG Recs Dec PNames PSecs PEnds RNames Src PHops Bld Bldr St
set_option linter.unusedVariables false

/-- the shape of a layout -/
def skOf (L : Lay) : Skel := ⟨L.stations, L.points, L.sections.map (fun s => (s.name, s.st)), L.links⟩
/-- what a call leaves that has put points and links to the builder -/
def FanPost (K : Skel) (g top ptop : Nat) (L : Lay) (TL : List (Option Addr × Nat × Nat)) (TS : List (List Int)) (M : List (Option Addr × Nat × Nat)) (k : Nat) (w : World) (e : Ending) (w' : World) : Prop :=
  e = .returned (.tuple #[]) ∧ ∃ L' V', Bd w' g top ptop L' TL TS V' M ∧ skOf L' = K ∧ L'.sections = L.sections ∧ L'.points.length ≤ L.points.length + 1 ∧ L'.links.length = L.links.length + k ∧ KeepI w w' g ∧ Below g w w'
theorem fan_step {x : Int} {east : Bool} {p : Int} {j : Nat} {T : List Int} {t : Int} {K : Skel} (h : T[j]? = some t) :
    fanLoop x east p j (T.drop j) K = fanLoop x east p ((j + 1 : Nat) : Int) (T.drop (j + 1)) (if east then addLink K x t p j else addLink K t x p j) := by
  have hj : j < T.length := (List.getElem?_eq_some_iff.1 h).1
  rw [List.drop_eq_getElem_cons hj]
  have e : T[j] = t := (List.getElem?_eq_some_iff.1 h).2
  rw [e]
  rfl
theorem fan_end {x : Int} {east : Bool} {p : Int} {j : Nat} {T : List Int} {K : Skel} (h : T.length ≤ j) : fanLoop x east p j (T.drop j) K = K := by
  rw [List.drop_eq_nil_of_le h]; rfl
theorem sk_link (L : Lay) (x : Lnk) : skOf { L with links := L.links ++ [x] } = { skOf L with links := (skOf L).links ++ [x] } := rfl
theorem sk_point (L : Lay) (x : Bs) : skOf { L with points := L.points ++ [x] } = { skOf L with points := (skOf L).points ++ [x] } := rfl

set_option maxRecDepth 100000 in
set_option maxHeartbeats 1000000 in
theorem fan_any (g top ptop : Nat) (L : Lay) (TL M : List (Option Addr × Nat × Nat)) (TS : List (List Int)) (V : V6) (x : Int) (T : List Int) (A : Option Addr) (n c baseT : Nat) (east : Bool) (w : World)
    (hB : Bd w g top ptop L TL TS V M) (hT : Own iR w baseT (.slice A n c) n T) (hbT : g < baseT) (hn : n ≤ 100) (hp : L.points.length ≤ 1000) (hl : L.links.length ≤ 1000) :
    Calls Tryd.prog 60 #[.pointer (some ⟨g, 0, none⟩), .int .i64 x, .slice A n c, .bool east] w (FanPost (fan x T east (skOf L)) g top ptop L TL TS M n w) := by
  have hTn := hT.1
  have HT := Lib.hid hT
  have HBd := Lib.hid hB
  clear hT hB
  go_enter Tryd.func60, Tryd.ntmps60
  by_cases h1 : 1 < n
  · have hg1 : (1 : Int) < (n : Int) := by omega
    have HF : Hid (fanLoop x east L.points.length (0 : Nat) (T.drop 0) { skOf L with points := (skOf L).points ++ [nm [80] L.points.length] } = fan x T east (skOf L)) := by
      rw [Hid]; unfold fan; rw [if_pos (by omega)]; rfl
    have hpn : L.points.length = V.n1 := HBd.out.pt.1
    go_wp2_with fail
    refine (add_point g ptop V.n1 V.c1 V.A1 _ _ _ _ _ L.points w HBd.out.blk HBd.out.pt HBd.out.gp HBd.out.pz (by omega)).mono ?_
    rintro e w1 ⟨A', c', rfl, hB1, hO1, ht1⟩
    obtain ⟨hbd, hk, hbw⟩ := HBd.out.point hB1 hO1 ht1
    rw [hpn] at HF
    obtain ⟨L1, hL1⟩ : ∃ L1, { L with points := L.points ++ [nm [80] V.n1] } = L1 := ⟨_, rfl⟩
    obtain ⟨V1, hV1⟩ : ∃ V1, { V with A1 := A', n1 := V.n1 + 1, c1 := c' } = V1 := ⟨_, rfl⟩
    have HB1 : Hid (Bd w1 g top ptop L1 TL TS V1 M) := by rw [Hid, ← hL1, ← hV1]; exact hbd
    have HK1 := Lib.hid hk
    have HW1 := Lib.hid hbw
    have HS1 : Hid (L1.sections = L.sections) := by rw [Hid, ← hL1]
    have HPn : Hid (L1.points.length ≤ L.points.length + 1) := by rw [Hid, ← hL1]; simp
    have HLn : Hid (L1.links.length = L.links.length + 0) := by rw [Hid, ← hL1]; rfl
    have hsk : { skOf L with points := (skOf L).points ++ [nm [80] (V.n1 : Int)] } = skOf L1 := by rw [← hL1]; rfl
    rw [hsk] at HF
    clear hB1 hO1 ht1 hbd hk hbw hL1 hV1 hsk hpn
    go_wp2_with fail
    go_loopw [17, 9] (fun i _ wr => ∃ (j : Nat) (L2 : Lay) (V2 : V6), j ≤ n ∧ i = .int .i64 j ∧ Bd wr g top ptop L2 TL TS V2 M ∧ KeepI w wr g ∧ Below g w wr ∧ L2.sections = L.sections ∧ L2.points.length ≤ L.points.length + 1 ∧ L2.links.length = L.links.length + j ∧ Hid (fanLoop x east ((V.n1 : Int)) j (T.drop j) (skOf L2) = fan x T east (skOf L))) (fun i _ _ => n - (intOf i).toNat)
    case atStart => exact ⟨0, L1, V1, Nat.zero_le _, rfl, HB1.out, HK1.out, HW1.out, HS1.out, HPn.out, HLn.out, HF⟩
    case round =>
      obtain ⟨j, L2, V2, hj, rfl, hbd2, hk2, hbw2, hs2, hp2, hl2, HF2⟩ := hrel
      have HB2 := Lib.hid hbd2
      have HK2 := Lib.hid hk2
      have HW2 := Lib.hid hbw2
      have HS2 := Lib.hid hs2
      have hgs := hbd2.gt
      have htz := hbd2.tz
      have hln : L2.links.length = V2.n3 := hbd2.lnk.1
      have hT2 := hk2 _ _ _ _ hbT HT.out
      clear HF HB1 HK1 HW1 HS1 HPn HLn hbd2 hk2 hbw2 hs2
      by_cases hlt : j < n
      · obtain ⟨ad, t, rfl, hab, ht, e0⟩ := loadI hT2.rd hlt
        have HN := Lib.hid (fan_step (x := x) (east := east) (p := (V.n1 : Int)) (K := skOf L2) ht)
        have hjn : (j : Int) < (n : Int) := by omega
        clear hT2 ht
        cases heast : east with
        | true =>
          subst heast
          go_wp2_with fail
          refine (add_link g (g + 1) V2.n3 V2.c3 V2.A3 _ _ _ _ _ L2.links x t ((V.n1 : Int)) j wr HB2.out.blk HB2.out.lnk (by omega) (by omega) (by omega)).mono ?_
          rintro e w3 ⟨A', c', rfl, hB3, hO3, ht3⟩
          obtain ⟨hbd3, hk3, hbw3⟩ := HB2.out.link hB3 hO3 ht3
          have HB3 := Lib.hid hbd3
          have HK3 := Lib.hid (HK2.out.trans hk3)
          have HW3 := Lib.hid (HW2.out.trans hbw3)
          have HF3 := HN.out.symm.trans HF2.out
          simp only [if_true] at HF3
          have HF4 := Lib.hid HF3
          clear hB3 hO3 ht3 hbd3 hk3 hbw3 HF2 HN HF3 e0
          go_wp2_with fail
          go_roundw
          case rel => exact ⟨j + 1, _, _, by omega, by go_num, HB3.out, HK3.out, HW3.out, HS2.out, hp2, by simp; omega, HF4⟩
          case measure => simp [intOf]; omega
        | false =>
          subst heast
          go_wp2_with fail
          refine (add_link g (g + 1) V2.n3 V2.c3 V2.A3 _ _ _ _ _ L2.links t x ((V.n1 : Int)) j wr HB2.out.blk HB2.out.lnk (by omega) (by omega) (by omega)).mono ?_
          rintro e w3 ⟨A', c', rfl, hB3, hO3, ht3⟩
          obtain ⟨hbd3, hk3, hbw3⟩ := HB2.out.link hB3 hO3 ht3
          have HB3 := Lib.hid hbd3
          have HK3 := Lib.hid (HK2.out.trans hk3)
          have HW3 := Lib.hid (HW2.out.trans hbw3)
          have HF3 := HN.out.symm.trans HF2.out
          simp only [Bool.false_eq_true, if_false] at HF3
          have HF4 := Lib.hid HF3
          clear hB3 hO3 ht3 hbd3 hk3 hbw3 HF2 HN HF3 e0
          go_wp2_with fail
          go_roundw
          case rel => exact ⟨j + 1, _, _, by omega, by go_num, HB3.out, HK3.out, HW3.out, HS2.out, hp2, by simp; omega, HF4⟩
          case measure => simp [intOf]; omega
      · obtain rfl : j = n := by omega
        have hF := HF2.out
        rw [fan_end (by omega)] at hF
        have HF3 := Lib.hid hF
        clear hF HF2 hT2
        go_wp2_with fail
        go_end0
        exact ⟨rfl, L2, V2, HB2.out, HF3.out, HS2.out, hp2, hl2, HK2.out, HW2.out⟩
  · have HF : Hid (fanLoop x east (-1) (0 : Nat) (T.drop 0) (skOf L) = fan x T east (skOf L)) := by
      rw [Hid]; unfold fan; rw [if_neg (by omega)]; rfl
    obtain ⟨L1, hL1⟩ : ∃ L1, L = L1 := ⟨_, rfl⟩
    obtain ⟨V1, hV1⟩ : ∃ V1, V = V1 := ⟨_, rfl⟩
    have HB1 : Hid (Bd w g top ptop L1 TL TS V1 M) := by rw [Hid, ← hL1, ← hV1]; exact HBd.out
    have HK1 := Lib.hid (KeepI.refl w g)
    have HW1 := Lib.hid (Below.refl g w)
    have HS1 : Hid (L1.sections = L.sections) := by rw [Hid, ← hL1]
    have HPn : Hid (L1.points.length ≤ L.points.length + 1) := by rw [Hid, ← hL1]; omega
    have HLn : Hid (L1.links.length = L.links.length + 0) := by rw [Hid, ← hL1]; rfl
    have HF0 : Hid (fanLoop x east (-1) (0 : Nat) (T.drop 0) (skOf L1) = fan x T east (skOf L)) := by rw [Hid, ← hL1]; exact HF.out
    clear HF hL1 hV1
    have HF := HF0
    go_wp2_with fail
    go_loopw [17, 9] (fun i _ wr => ∃ (j : Nat) (L2 : Lay) (V2 : V6), j ≤ n ∧ i = .int .i64 j ∧ Bd wr g top ptop L2 TL TS V2 M ∧ KeepI w wr g ∧ Below g w wr ∧ L2.sections = L.sections ∧ L2.points.length ≤ L.points.length + 1 ∧ L2.links.length = L.links.length + j ∧ Hid (fanLoop x east ((-1)) j (T.drop j) (skOf L2) = fan x T east (skOf L))) (fun i _ _ => n - (intOf i).toNat)
    case atStart => exact ⟨0, L1, V1, Nat.zero_le _, rfl, HB1.out, HK1.out, HW1.out, HS1.out, HPn.out, HLn.out, HF⟩
    case round =>
      obtain ⟨j, L2, V2, hj, rfl, hbd2, hk2, hbw2, hs2, hp2, hl2, HF2⟩ := hrel
      have HB2 := Lib.hid hbd2
      have HK2 := Lib.hid hk2
      have HW2 := Lib.hid hbw2
      have HS2 := Lib.hid hs2
      have hgs := hbd2.gt
      have htz := hbd2.tz
      have hln : L2.links.length = V2.n3 := hbd2.lnk.1
      have hT2 := hk2 _ _ _ _ hbT HT.out
      clear HF HB1 HK1 HW1 HS1 HPn HLn hbd2 hk2 hbw2 hs2
      by_cases hlt : j < n
      · obtain ⟨ad, t, rfl, hab, ht, e0⟩ := loadI hT2.rd hlt
        have HN := Lib.hid (fan_step (x := x) (east := east) (p := (-1)) (K := skOf L2) ht)
        have hjn : (j : Int) < (n : Int) := by omega
        clear hT2 ht
        cases heast : east with
        | true =>
          subst heast
          go_wp2_with fail
          refine (add_link g (g + 1) V2.n3 V2.c3 V2.A3 _ _ _ _ _ L2.links x t ((-1)) j wr HB2.out.blk HB2.out.lnk (by omega) (by omega) (by omega)).mono ?_
          rintro e w3 ⟨A', c', rfl, hB3, hO3, ht3⟩
          obtain ⟨hbd3, hk3, hbw3⟩ := HB2.out.link hB3 hO3 ht3
          have HB3 := Lib.hid hbd3
          have HK3 := Lib.hid (HK2.out.trans hk3)
          have HW3 := Lib.hid (HW2.out.trans hbw3)
          have HF3 := HN.out.symm.trans HF2.out
          simp only [if_true] at HF3
          have HF4 := Lib.hid HF3
          clear hB3 hO3 ht3 hbd3 hk3 hbw3 HF2 HN HF3 e0
          go_wp2_with fail
          go_roundw
          case rel => exact ⟨j + 1, _, _, by omega, by go_num, HB3.out, HK3.out, HW3.out, HS2.out, hp2, by simp; omega, HF4⟩
          case measure => simp [intOf]; omega
        | false =>
          subst heast
          go_wp2_with fail
          refine (add_link g (g + 1) V2.n3 V2.c3 V2.A3 _ _ _ _ _ L2.links t x ((-1)) j wr HB2.out.blk HB2.out.lnk (by omega) (by omega) (by omega)).mono ?_
          rintro e w3 ⟨A', c', rfl, hB3, hO3, ht3⟩
          obtain ⟨hbd3, hk3, hbw3⟩ := HB2.out.link hB3 hO3 ht3
          have HB3 := Lib.hid hbd3
          have HK3 := Lib.hid (HK2.out.trans hk3)
          have HW3 := Lib.hid (HW2.out.trans hbw3)
          have HF3 := HN.out.symm.trans HF2.out
          simp only [Bool.false_eq_true, if_false] at HF3
          have HF4 := Lib.hid HF3
          clear hB3 hO3 ht3 hbd3 hk3 hbw3 HF2 HN HF3 e0
          go_wp2_with fail
          go_roundw
          case rel => exact ⟨j + 1, _, _, by omega, by go_num, HB3.out, HK3.out, HW3.out, HS2.out, hp2, by simp; omega, HF4⟩
          case measure => simp [intOf]; omega
      · obtain rfl : j = n := by omega
        have hF := HF2.out
        rw [fan_end (by omega)] at hF
        have HF3 := Lib.hid hF
        clear hF HF2 hT2
        go_wp2_with fail
        go_end0
        exact ⟨rfl, L2, V2, HB2.out, HF3.out, HS2.out, hp2, hl2, HK2.out, HW2.out⟩
end Go.Proofs.YtkfobijgjdgbgaaDoor.Fan
