/-
  Contract of the program's function that takes a line of a section into the draft.
-/
import Derived.Test.YtdcbaedhgoipjaaDft
import Derived.Test.YtdcbaedhgoipjaaNum
import Derived.Deep.QuietTactic
import Derived.BigQuiet
namespace Go.Proofs.Ytdcbaedhgoipjaa.DSec
open Go.ChangeShapes Go.WideShapes Go.ChangeAt Go.RowKit Wd Small Mem Lay LayT Recs Keep Names PNames PSecs PEnds RNames Num Txt App Dft
set_option linter.unusedVariables false

theorem infoSec : (Try.prog.info? 44).map (fun i => (i.zero, i.size, i.bytes)) = some (some (.agg #[.string ByteArray.empty, .int .i64 0, .int .i64 0, .int .i64 0, .int .i64 0]), 5, 48) := by kernel_rfl
/-- the operands of a line, one by one, wherever nothing old has changed -/
theorem opn_get {w : World} {g n i : Nat} {A : Option Addr} {O : List Bs} (h : Opn w g A n O) (hi : i < n) : ∃ ad s, A = some ad ∧ O[i]? = some s ∧ ad.block < w.heap.size ∧ g < ad.block ∧ w.cell? (ad.add i) = some (.string (str s)) := by
  obtain ⟨ad, s, e, hb, hs, hc⟩ := loadS h.1 hi
  exact ⟨ad, s, e, hs, hb, h.2 ad e, hc⟩
theorem opn_atk {w : World} {g n i : Nat} {ad : Addr} {O : List Bs} {s : Bs} (h : Opn w g (some ad) n O) (hs : O[i]? = some s) : w.cell? (ad.add i) = some (.string (str s)) := by
  have hi : i < n := by
    have := (List.getElem?_eq_some_iff.1 hs).1
    have := h.1.1
    omega
  obtain ⟨ad', s', e, hs', _, _, hc⟩ := opn_get h hi
  cases e
  rw [hs] at hs'
  cases hs'
  exact hc
theorem opn_at0 {w : World} {g n : Nat} {ad : Addr} {O : List Bs} {s : Bs} (h : Opn w g (some ad) n O) (hs : O[0]? = some s) : w.cell? ad = some (.string (str s)) := by
  have := opn_atk h hs
  rw [show ad.add 0 = ad from rfl] at this
  exact this
theorem opn_at {w : World} {g n i : Nat} {ad : Addr} {O : List Bs} {s : Bs} (h : Opn w g (some ad) n O) (hs : O[i]? = some s) (hi : 0 < i) : w.cell? ⟨ad.block, ad.off + i, none⟩ = some (.string (str s)) := by
  have := opn_atk h hs
  rw [show ad.add i = ad.add (0 + i) by rw [Nat.zero_add], cell_next _ _ _ hi, show ad.add 0 = ad from rfl] at this
  exact this
theorem opn_lt {w : World} {g n : Nat} {A : Option Addr} {O : List Bs} (h : Opn w g A n O) (hn : 0 < n) : ∃ ad, A = some ad ∧ ad.block < w.heap.size ∧ g < ad.block := by
  obtain ⟨ad, s, e, hs, hb, hg, hc⟩ := opn_get h hn
  exact ⟨ad, e, hb, hg⟩
/-- what a line of a section declares, by its operands -/
def declS (l : Lay) : List Bs → Lay × Int
  | [a, b, c, d] => declSec l a b c d []
  | [a, b, c, d, x, y] => declSec l a b c d [x, y]
  | _ => (l, 2)
theorem declS_other (l : Lay) (O : List Bs) (h4 : O.length ≠ 4) (h6 : O.length ≠ 6) : declS l O = (l, 2) := by
  match O with
  | [] => rfl
  | [_] => rfl
  | [_, _] => rfl
  | [_, _, _] => rfl
  | [_, _, _, _] => exact absurd rfl h4
  | [_, _, _, _, _] => rfl
  | [_, _, _, _, _, _] => exact absurd rfl h6
  | _ :: _ :: _ :: _ :: _ :: _ :: _ :: _ => rfl
theorem four {O : List Bs} (h : O.length = 4) : ∃ a b c d, O = [a, b, c, d] := by
  match O, h with
  | [a, b, c, d], _ => exact ⟨a, b, c, d, rfl⟩
theorem six {O : List Bs} (h : O.length = 6) : ∃ a b c d x y, O = [a, b, c, d, x, y] := by
  match O, h with
  | [a, b, c, d, x, y], _ => exact ⟨a, b, c, d, x, y, rfl⟩
theorem decl_bad {l : Lay} {nm a b c : Bs} {more : List Bs} (h : (!numOK a || !numOK b || !numOK c || !(more.head?.all (· == kwAt))) = true) : declSec l nm a b c more = (l, 2) := by
  unfold declSec
  rw [if_pos h]
theorem decl_plain {l : Lay} {nm a b c : Bs} (ha : numOK a = true) (hb : numOK b = true) (hc : numOK c = true) : declSec l nm a b c [] = ({ l with sections := l.sections ++ [⟨nm, number a, number b, number c, -1⟩] }, 0) := by
  unfold declSec
  rw [if_neg (by rw [ha, hb, hc]; simp)]
theorem decl_lost {l : Lay} {nm a b c st : Bs} (ha : numOK a = true) (hb : numOK b = true) (hc : numOK c = true) (hp : place 0 l.stations st < 0) : declSec l nm a b c [kwAt, st] = (l, 3) := by
  unfold declSec
  rw [if_neg (by rw [ha, hb, hc]; simp)]
  simp only
  rw [if_pos hp]
theorem decl_at {l : Lay} {nm a b c st : Bs} (ha : numOK a = true) (hb : numOK b = true) (hc : numOK c = true) (hp : ¬ place 0 l.stations st < 0) : declSec l nm a b c [kwAt, st] = ({ l with sections := l.sections ++ [⟨nm, number a, number b, number c, place 0 l.stations st⟩] }, 0) := by
  unfold declSec
  rw [if_neg (by rw [ha, hb, hc]; simp)]
  simp only
  rw [if_neg hp]
theorem str_at (s : Bs) : ((str s).toList == [97, 116]) = (s == kwAt) := by
  rw [show (str s).toList = s from by rw [Lib.toList_data]; exact str_toList s]
  rfl
/-- the draft as it was, with a draw or a box more -/
theorem Dr.stay {w w' : World} {g m1 m2 m3 k : Nat} {l : Lay} {v : LV} {z : Int} (h : Dr w g m1 m2 m3 k l v) (hb : Below w.heap.size w w') : DrPost g m1 m2 m3 (k + 1) (l, z) w (.returned (.int .i64 z)) w' :=
  ⟨v, rfl, (h.below hb).more (Nat.le_succ k), hb.mono (by have := h.ms; have := h.blk.lt; omega), hb.size⟩
set_option maxRecDepth 100000 in
set_option maxHeartbeats 4000000 in
theorem sec_no (g m1 m2 m3 k : Nat) (l : Lay) (v : LV) (A : Option Addr) (n c : Nat) (O : List Bs) (w : World) (h : Dr w g m1 m2 m3 k l v) (hO : Opn w g A n O) (hk : k ≤ 100000) (hn : n ≤ 100) (hz : ∀ s ∈ O, s.length ≤ 65537) (h4 : n ≠ 4) (h6 : n ≠ 6) : Calls Try.prog 43 #[.pointer (some ⟨g, 0, none⟩), .slice A n c] w (DrPost g m1 m2 m3 (k + 1) (declS l O) w) := by
  have hl := hO.1.1
  rw [declS_other l O (by omega) (by omega)]
  have HS := Lib.hid (Dr.stay (z := 2) h (Below.refl _ _))
  have e6 : ((n : Int) == 6) = false := by simpa using (by omega : ¬ (n : Int) = 6)
  have e4 : ((n : Int) != 4) = true := by simpa using (by omega : ¬ (n : Int) = 4)
  clear h hO hl h4 h6
  go_enter Try.func43, Try.ntmps43
  go_wp2_with fail
  go_ret
  exact HS.out
theorem num_two (s : Bs) (w : World) (hs : s.length ≤ 9223372036854775807) : Calls Try.prog 73 #[.string (str s)] w (Two (number s) (numOK s) w) := by
  have := p_num (str s) w (by rw [size_str]; omega)
  rw [bs_str] at this
  exact this
set_option maxRecDepth 100000 in
set_option maxHeartbeats 4000000 in
theorem sec_four (g m1 m2 m3 k : Nat) (l : Lay) (v : LV) (A : Option Addr) (n c : Nat) (O : List Bs) (w : World) (h : Dr w g m1 m2 m3 k l v) (hO : Opn w g A n O) (hk : k ≤ 100000) (hn : n ≤ 100) (hz : ∀ s ∈ O, s.length ≤ 65537) (h4 : n = 4) : Calls Try.prog 43 #[.pointer (some ⟨g, 0, none⟩), .slice A n c] w (DrPost g m1 m2 m3 (k + 1) (declS l O) w) := by
  obtain ⟨nm, xa, xb, xc, rfl⟩ := four (hO.1.1.trans h4)
  subst h4
  obtain ⟨ad, rfl, hab, hadg⟩ := opn_lt hO (by omega)
  have o0 := opn_at0 hO rfl
  have o1 := opn_at (i := 1) hO rfl (by omega)
  have o2 := opn_at (i := 2) hO rfl (by omega)
  have o3 := opn_at (i := 3) hO rfl (by omega)
  have NA : Hid (∀ wx, Calls Try.prog 73 #[.string (str xa)] wx (Two (number xa) (numOK xa) wx)) := fun wx => num_two xa wx (by have := hz xa (by simp); omega)
  have NB : Hid (∀ wx, Calls Try.prog 73 #[.string (str xb)] wx (Two (number xb) (numOK xb) wx)) := fun wx => num_two xb wx (by have := hz xb (by simp); omega)
  have NC : Hid (∀ wx, Calls Try.prog 73 #[.string (str xc)] wx (Two (number xc) (numOK xc) wx)) := fun wx => num_two xc wx (by have := hz xc (by simp); omega)
  have hsz0 : nm.length ≤ 65537 := hz nm (by simp)
  go_enter Try.func43, Try.ntmps43
  cases g1 : numOK xa with
  | false =>
    rw [g1] at NA
    have HX : Hid (declS l [nm, xa, xb, xc] = (l, 2)) := decl_bad (by rw [g1]; simp)
    rw [HX.out]
    have HS := Lib.hid (Dr.stay (z := 2) h (Below.refl _ _))
    clear h hO hz HX
    go_wp2_with (first | (go_at_call 73; (with_reducible refine (NA.out _).mono ?_); rintro e w' ⟨rfl, rfl⟩) | (go_at_call 73; (with_reducible refine (NB.out _).mono ?_); rintro e w' ⟨rfl, rfl⟩) | (go_at_call 73; (with_reducible refine (NC.out _).mono ?_); rintro e w' ⟨rfl, rfl⟩))
    go_ret
    exact HS.out
  | true =>
    rw [g1] at NA
    cases g2 : numOK xb with
    | false =>
      rw [g2] at NB
      have HX : Hid (declS l [nm, xa, xb, xc] = (l, 2)) := decl_bad (by rw [g2, g1]; simp)
      rw [HX.out]
      have HS := Lib.hid (Dr.stay (z := 2) h (Below.refl _ _))
      clear h hO hz HX
      go_wp2_with (first | (go_at_call 73; (with_reducible refine (NA.out _).mono ?_); rintro e w' ⟨rfl, rfl⟩) | (go_at_call 73; (with_reducible refine (NB.out _).mono ?_); rintro e w' ⟨rfl, rfl⟩) | (go_at_call 73; (with_reducible refine (NC.out _).mono ?_); rintro e w' ⟨rfl, rfl⟩))
      go_ret
      exact HS.out
    | true =>
      rw [g2] at NB
      cases g3 : numOK xc with
      | false =>
        rw [g3] at NC
        have HX : Hid (declS l [nm, xa, xb, xc] = (l, 2)) := decl_bad (by rw [g3, g1, g2]; simp)
        rw [HX.out]
        have HS := Lib.hid (Dr.stay (z := 2) h (Below.refl _ _))
        clear h hO hz HX
        go_wp2_with (first | (go_at_call 73; (with_reducible refine (NA.out _).mono ?_); rintro e w' ⟨rfl, rfl⟩) | (go_at_call 73; (with_reducible refine (NB.out _).mono ?_); rintro e w' ⟨rfl, rfl⟩) | (go_at_call 73; (with_reducible refine (NC.out _).mono ?_); rintro e w' ⟨rfl, rfl⟩))
        go_ret
        exact HS.out
      | true =>
        rw [g3] at NC
        have HX : Hid (declS l [nm, xa, xb, xc] = ({ l with sections := l.sections ++ [⟨nm, number xa, number xb, number xc, -1⟩] }, 0)) := decl_plain g1 g2 g3
        rw [HX.out]
        have HD := Lib.hid h
        clear h hO hz HX
        go_upto_region 16 with (first | (go_at_call 73; (with_reducible refine (NA.out _).mono ?_); rintro e w' ⟨rfl, rfl⟩) | (go_at_call 73; (with_reducible refine (NB.out _).mono ?_); rintro e w' ⟨rfl, rfl⟩) | (go_at_call 73; (with_reducible refine (NC.out _).mono ?_); rintro e w' ⟨rfl, rfl⟩))
        have HSZ := Lib.hid hsz0
        have k2 := HD.out.blk.c2
        have k6 := HD.out.blk.c6
        have hgw := HD.out.blk.lt
        have hm3 := HD.out.ms
        have KA : Hid (∀ w', Below w.heap.size w w' → w'.cell? ⟨g, 2, none⟩ = some (.slice v.A3 v.n3 v.c3) ∧ w'.cell? ⟨g, 6, none⟩ = some (.map (some m3))) := fun w' hb => ⟨(hb.cell (p := ⟨g, 2, none⟩) hgw).trans k2, (hb.cell (p := ⟨g, 6, none⟩) hgw).trans k6⟩
        have KB : Hid (∀ w', w.drew.grownBy w' (some m3) → w'.cell? ⟨g, 2, none⟩ = some (.slice v.A3 v.n3 v.c3) ∧ w'.cell? ⟨g, 6, none⟩ = some (.map (some m3))) := fun w' hb => ⟨(grown_cell (p := ⟨g, 2, none⟩) hb hgw (by simp; omega)).trans k2, (grown_cell (p := ⟨g, 6, none⟩) hb hgw (by simp; omega)).trans k6⟩
        have hD0 := fun wx (h : Nums wx m3 k (l.sections.map Sec.name)) => declare_any m3 k (l.sections.map Sec.name) nm wx h (by omega) (by omega) (by have := HD.out.sec.1; have := HD.out.b3; simp; omega)
        rw [List.length_map, HD.out.sec.1] at hD0
        have HDC := Lib.hid hD0
        clear k2 k6 hD0
        have hb0 := Below.refl w.heap.size w
        go_region_held3 (fun w' => w'.cell? ⟨g, 2, none⟩ = some (.slice v.A3 v.n3 v.c3) ∧ w'.cell? ⟨g, 6, none⟩ = some (.map (some m3)))
          (first | exact KA.out _ hb0.drew | exact KB.out _ hgq)
          ((go_at_call 72; refine (HDC.out w.drew HD.out.q3).mono ?_; rintro e wq ⟨rfl, hNq, hgq⟩))
        obtain ⟨hcq, -⟩ := KB.out _ hgq
        have HB3 := Lib.hid HD.out.b3
        have hn63 : v.n3 + 1 ≤ maxLen := by have := HB3.out; unfold maxLen; omega
        have hby : (v.n3 + 1) * 48 ≤ 140737488355328 := by have := HB3.out; omega
        have hzq : w.heap.size ≤ wq.heap.size := hgq.size
        have HOq : Hid (Recs.Own secR wq (g + 1) (.slice v.A3 v.n3 v.c3) v.n3 l.sections) := Recs.Own.grown (w := w.drew) (HD.out.sec.drewN 1) hgq (by
          cases hv : (Value.slice v.A3 v.n3 v.c3).ownBlock with
          | none => exact .inl rfl
          | some b => exact .inr (fun e => by have := (HD.out.sec.2.lt b hv).1; injection e; omega))
        have hfq : wq.frozen? ⟨g, 2, none⟩ = false := (frozen_same (p := ⟨g, 2, none⟩) (hgq.block g hgw (by simp; omega))).trans (HD.out.blk.f 2)
        have HCQ := Lib.hid hcq
        have HFQ := Lib.hid hfq
        have HGQ : Hid (w.grownBy wq (some m3)) := ⟨hgq.os, hgq.tape, hgq.output, hgq.size, hgq.block⟩
        have HNQ := Lib.hid hNq
        have hgwq : g < wq.heap.size := by omega
        clear KA KB HDC hb0 hgq hNq hfq
        obtain ⟨ih, hih, hz0, hz1, hz2⟩ := info_parts infoSec
        go_wp2_with (at_builtin; refine wpList_append_own _ rfl _ _ 23 rfl (g + 1) 44 ih _ 5 48 Try.underlying23 hih hz0 hz1 hz2 rfl (by omega) (.slice v.A3 v.n3 v.c3) v.n3 (secR.cs l.sections) rfl (HOq.out.2.alloc _) ⟨wq.heap.size, 0, none⟩ 1 1 [.string (str nm), .int .i64 (number xa), .int .i64 (number xb), .int .i64 (number xc), .int .i64 (-1)] rfl rfl (World.news_of_block (cs := #[.string (str nm), .int .i64 (number xa), .int .i64 (number xb), .int .i64 (number xc), .int .i64 (-1)]) (t := 44) (fr := (0, 0)) (heap_alloc_new _ _)) (by simp [Value.oneCell']) hn63 hby (by simp; omega) ?_)
        intro vv w7 hown7 hgrow7 _
        have hO7 := Recs.Own.push (R := secR) (a := ⟨nm, number xa, number xb, number xc, -1⟩) HOq.out.1 hown7
        obtain ⟨A', c', rfl, _⟩ := hO7.form
        have HO7 := Lib.hid hO7
        have h2 : wq.grownBy w7 (Value.slice v.A3 v.n3 v.c3).ownBlock := (World.grownBy_alloc wq _ _).trans hgrow7
        have HDr := Lib.hid (HD.out.sect HGQ.out h2 HNQ.out HO7.out HSZ.out)
        have HBB : Hid (Below m1 w (w7.setCell ⟨g, 2, none⟩ (.slice A' (v.n3 + 1) c'))) := below3 (by omega) (by omega) (by omega) HGQ.out h2 (Dr.lo HD.out.sec)
        have hu := Dr.lo HD.out.sec
        have hg7 : w7.heap[g]? = wq.heap[g]? := h2.block g hgwq (fun e => by have := hu _ e.symm; omega)
        have k7 := (cell_same (p := ⟨g, 2, none⟩) hg7).trans HCQ.out
        have f7 := (frozen_same (p := ⟨g, 2, none⟩) hg7).trans HFQ.out
        clear hO7 hown7 hgrow7 hg7 hcq h2 hu
        go_wp2_with fail
        go_ret
        exact ⟨_, rfl, HDr.out, HBB.out, by have := HBB.out.size; omega⟩
set_option maxRecDepth 100000 in
set_option maxHeartbeats 4000000 in
theorem sec_six (g m1 m2 m3 k : Nat) (l : Lay) (v : LV) (A : Option Addr) (n c : Nat) (O : List Bs) (w : World) (h : Dr w g m1 m2 m3 k l v) (hO : Opn w g A n O) (hk : k ≤ 100000) (hn : n ≤ 100) (hz : ∀ s ∈ O, s.length ≤ 65537) (h6 : n = 6) : Calls Try.prog 43 #[.pointer (some ⟨g, 0, none⟩), .slice A n c] w (DrPost g m1 m2 m3 (k + 1) (declS l O) w) := by
  obtain ⟨nm, xa, xb, xc, xt, xs, rfl⟩ := six (hO.1.1.trans h6)
  subst h6
  obtain ⟨ad, rfl, hab, hadg⟩ := opn_lt hO (by omega)
  have o0 := opn_at0 hO rfl
  have o1 := opn_at (i := 1) hO rfl (by omega)
  have o2 := opn_at (i := 2) hO rfl (by omega)
  have o3 := opn_at (i := 3) hO rfl (by omega)
  have o4 := opn_at (i := 4) hO rfl (by omega)
  have o5 := opn_at (i := 5) hO rfl (by omega)
  have NA : Hid (∀ wx, Calls Try.prog 73 #[.string (str xa)] wx (Two (number xa) (numOK xa) wx)) := fun wx => num_two xa wx (by have := hz xa (by simp); omega)
  have NB : Hid (∀ wx, Calls Try.prog 73 #[.string (str xb)] wx (Two (number xb) (numOK xb) wx)) := fun wx => num_two xb wx (by have := hz xb (by simp); omega)
  have NC : Hid (∀ wx, Calls Try.prog 73 #[.string (str xc)] wx (Two (number xc) (numOK xc) wx)) := fun wx => num_two xc wx (by have := hz xc (by simp); omega)
  have hsz0 : nm.length ≤ 65537 := hz nm (by simp)
  have hsz5 : xs.length ≤ 65537 := hz xs (by simp)
  have E := Lib.hid (str_at xt)
  cases he : (xt == kwAt) with
  | false =>
    have hse : ((str xt).toList == [97, 116]) = false := E.out.trans he
    have HX : Hid (declS l [nm, xa, xb, xc, xt, xs] = (l, 2)) := decl_bad (by simp only [List.head?_cons, Option.all_some]; rw [he]; simp)
    rw [HX.out]
    have HS := Lib.hid (Dr.stay (z := 2) h (Below.refl _ _))
    clear h hO hz HX E he
    go_enter Try.func43, Try.ntmps43
    go_wp2_with fail
    go_ret
    exact HS.out
  | true =>
    have hse : ((str xt).toList == [97, 116]) = true := E.out.trans he
    obtain rfl : xt = kwAt := by simpa using he
    clear E he
    go_enter Try.func43, Try.ntmps43
    cases g1 : numOK xa with
    | false =>
      rw [g1] at NA
      have HX : Hid (declS l [nm, xa, xb, xc, kwAt, xs] = (l, 2)) := decl_bad (by rw [g1]; simp)
      rw [HX.out]
      have HS := Lib.hid (Dr.stay (z := 2) h (Below.refl _ _))
      clear h hO hz HX
      go_wp2_with (first | (go_at_call 73; (with_reducible refine (NA.out _).mono ?_); rintro e w' ⟨rfl, rfl⟩) | (go_at_call 73; (with_reducible refine (NB.out _).mono ?_); rintro e w' ⟨rfl, rfl⟩) | (go_at_call 73; (with_reducible refine (NC.out _).mono ?_); rintro e w' ⟨rfl, rfl⟩))
      go_ret
      exact HS.out
    | true =>
      rw [g1] at NA
      cases g2 : numOK xb with
      | false =>
        rw [g2] at NB
        have HX : Hid (declS l [nm, xa, xb, xc, kwAt, xs] = (l, 2)) := decl_bad (by rw [g2, g1]; simp)
        rw [HX.out]
        have HS := Lib.hid (Dr.stay (z := 2) h (Below.refl _ _))
        clear h hO hz HX
        go_wp2_with (first | (go_at_call 73; (with_reducible refine (NA.out _).mono ?_); rintro e w' ⟨rfl, rfl⟩) | (go_at_call 73; (with_reducible refine (NB.out _).mono ?_); rintro e w' ⟨rfl, rfl⟩) | (go_at_call 73; (with_reducible refine (NC.out _).mono ?_); rintro e w' ⟨rfl, rfl⟩))
        go_ret
        exact HS.out
      | true =>
        rw [g2] at NB
        cases g3 : numOK xc with
        | false =>
          rw [g3] at NC
          have HX : Hid (declS l [nm, xa, xb, xc, kwAt, xs] = (l, 2)) := decl_bad (by rw [g3, g1, g2]; simp)
          rw [HX.out]
          have HS := Lib.hid (Dr.stay (z := 2) h (Below.refl _ _))
          clear h hO hz HX
          go_wp2_with (first | (go_at_call 73; (with_reducible refine (NA.out _).mono ?_); rintro e w' ⟨rfl, rfl⟩) | (go_at_call 73; (with_reducible refine (NB.out _).mono ?_); rintro e w' ⟨rfl, rfl⟩) | (go_at_call 73; (with_reducible refine (NC.out _).mono ?_); rintro e w' ⟨rfl, rfl⟩))
          go_ret
          exact HS.out
        | true =>
          rw [g3] at NC
          cases hp : decide (0 ≤ place 0 l.stations xs) with
          | false =>
            have hneg : place 0 l.stations xs < 0 := by have := of_decide_eq_false hp; omega
            have HX : Hid (declS l [nm, xa, xb, xc, kwAt, xs] = (l, 3)) := decl_lost g1 g2 g3 hneg
            rw [HX.out]
            have hl := fun wx (q : Nums wx m1 k l.stations) => q.look (s := xs) (by omega)
            rw [hp] at hl
            have hl0 := fun nd => hl (w.drewN nd) (h.q1.drewN nd)
            have HS := Lib.hid (fun w' (hb : Below w.heap.size w w') => Dr.stay (z := 3) h hb)
            have k4 := h.blk.c4
            clear h hO hz HX hl hp hneg
            go_upto_region 11 with (first | (go_at_call 73; (with_reducible refine (NA.out _).mono ?_); rintro e w' ⟨rfl, rfl⟩) | (go_at_call 73; (with_reducible refine (NB.out _).mono ?_); rintro e w' ⟨rfl, rfl⟩) | (go_at_call 73; (with_reducible refine (NC.out _).mono ?_); rintro e w' ⟨rfl, rfl⟩))
            go_quiet (fail)
            go_wp2_with fail
            go_ret
            exact HS.out _ (Mem.below_draws (Below.refl _ _) _)
          | true =>
            have hpos : ¬ place 0 l.stations xs < 0 := by have := of_decide_eq_true hp; omega
            have HX : Hid (declS l [nm, xa, xb, xc, kwAt, xs] = ({ l with sections := l.sections ++ [⟨nm, number xa, number xb, number xc, place 0 l.stations xs⟩] }, 0)) := decl_at g1 g2 g3 hpos
            rw [HX.out]
            have hl := fun wx (q : Nums wx m1 k l.stations) => q.look (s := xs) (by omega)
            rw [hp, show numOf l.stations xs = place 0 l.stations xs from if_neg hpos] at hl
            have hl0 := fun nd => hl (w.drewN nd) (h.q1.drewN nd)
            have HD0 := Lib.hid h
            have k4 := h.blk.c4
            clear h hO hz HX hl hp hpos
            go_upto_region 11 with (first | (go_at_call 73; (with_reducible refine (NA.out _).mono ?_); rintro e w' ⟨rfl, rfl⟩) | (go_at_call 73; (with_reducible refine (NB.out _).mono ?_); rintro e w' ⟨rfl, rfl⟩) | (go_at_call 73; (with_reducible refine (NC.out _).mono ?_); rintro e w' ⟨rfl, rfl⟩))
            generalize place 0 l.stations xs = pz at *
            go_quiet (fail)
            generalize hWW : w.drewN _ = WW at *
            have HD : Hid (Dr WW g m1 m2 m3 k l v) := by rw [Hid, ← hWW]; exact HD0.out.below (Mem.below_draws (Below.refl _ _) _)
            have HW0 : Hid (Below w.heap.size w WW) := by rw [Hid, ← hWW]; exact Mem.below_draws (Below.refl _ _) _
            have hwz : w.heap.size ≤ WW.heap.size := HW0.out.size
            have hmw := HD0.out.blk.lt
            have habW : ad.block < WW.heap.size := by omega
            have o0' : WW.cell? ad = some (.string (str nm)) := (HW0.out.cell hab).trans o0
            clear hWW HD0 hl0 k4 o0 o1 o2 o3 o4 o5
            go_upto_region 16 with fail
            have HSZ := Lib.hid hsz0
            have k2 := HD.out.blk.c2
            have k6 := HD.out.blk.c6
            have hgw := HD.out.blk.lt
            have hm3 := HD.out.ms
            have KA : Hid (∀ w', Below WW.heap.size WW w' → w'.cell? ⟨g, 2, none⟩ = some (.slice v.A3 v.n3 v.c3) ∧ w'.cell? ⟨g, 6, none⟩ = some (.map (some m3))) := fun w' hb => ⟨(hb.cell (p := ⟨g, 2, none⟩) hgw).trans k2, (hb.cell (p := ⟨g, 6, none⟩) hgw).trans k6⟩
            have KB : Hid (∀ w', WW.drew.grownBy w' (some m3) → w'.cell? ⟨g, 2, none⟩ = some (.slice v.A3 v.n3 v.c3) ∧ w'.cell? ⟨g, 6, none⟩ = some (.map (some m3))) := fun w' hb => ⟨(grown_cell (p := ⟨g, 2, none⟩) hb hgw (by simp; omega)).trans k2, (grown_cell (p := ⟨g, 6, none⟩) hb hgw (by simp; omega)).trans k6⟩
            have hD0 := fun wx (h : Nums wx m3 k (l.sections.map Sec.name)) => declare_any m3 k (l.sections.map Sec.name) nm wx h (by omega) (by omega) (by have := HD.out.sec.1; have := HD.out.b3; simp; omega)
            rw [List.length_map, HD.out.sec.1] at hD0
            have HDC := Lib.hid hD0
            clear k2 k6 hD0
            have hb0 := Below.refl WW.heap.size WW
            go_region_held3 (fun w' => w'.cell? ⟨g, 2, none⟩ = some (.slice v.A3 v.n3 v.c3) ∧ w'.cell? ⟨g, 6, none⟩ = some (.map (some m3)))
              (first | exact KA.out _ hb0.drew | exact KB.out _ hgq)
              ((go_at_call 72; refine (HDC.out WW.drew HD.out.q3).mono ?_; rintro e wq ⟨rfl, hNq, hgq⟩))
            obtain ⟨hcq, -⟩ := KB.out _ hgq
            have HB3 := Lib.hid HD.out.b3
            have hn63 : v.n3 + 1 ≤ maxLen := by have := HB3.out; unfold maxLen; omega
            have hby : (v.n3 + 1) * 48 ≤ 140737488355328 := by have := HB3.out; omega
            have hzq : WW.heap.size ≤ wq.heap.size := hgq.size
            have HOq : Hid (Recs.Own secR wq (g + 1) (.slice v.A3 v.n3 v.c3) v.n3 l.sections) := Recs.Own.grown (w := WW.drew) (HD.out.sec.drewN 1) hgq (by
              cases hv : (Value.slice v.A3 v.n3 v.c3).ownBlock with
              | none => exact .inl rfl
              | some b => exact .inr (fun e => by have := (HD.out.sec.2.lt b hv).1; injection e; omega))
            have hfq : wq.frozen? ⟨g, 2, none⟩ = false := (frozen_same (p := ⟨g, 2, none⟩) (hgq.block g hgw (by simp; omega))).trans (HD.out.blk.f 2)
            have HCQ := Lib.hid hcq
            have HFQ := Lib.hid hfq
            have HGQ : Hid (WW.grownBy wq (some m3)) := ⟨hgq.os, hgq.tape, hgq.output, hgq.size, hgq.block⟩
            have HNQ := Lib.hid hNq
            have hgwq : g < wq.heap.size := by omega
            clear KA KB HDC hb0 hgq hNq hfq
            obtain ⟨ih, hih, hz0, hz1, hz2⟩ := info_parts infoSec
            go_wp2_with (at_builtin; refine wpList_append_own _ rfl _ _ 23 rfl (g + 1) 44 ih _ 5 48 Try.underlying23 hih hz0 hz1 hz2 rfl (by omega) (.slice v.A3 v.n3 v.c3) v.n3 (secR.cs l.sections) rfl (HOq.out.2.alloc _) ⟨wq.heap.size, 0, none⟩ 1 1 [.string (str nm), .int .i64 (number xa), .int .i64 (number xb), .int .i64 (number xc), .int .i64 (pz)] rfl rfl (World.news_of_block (cs := #[.string (str nm), .int .i64 (number xa), .int .i64 (number xb), .int .i64 (number xc), .int .i64 (pz)]) (t := 44) (fr := (0, 0)) (heap_alloc_new _ _)) (by simp [Value.oneCell']) hn63 hby (by simp; omega) ?_)
            intro vv w7 hown7 hgrow7 _
            have hO7 := Recs.Own.push (R := secR) (a := ⟨nm, number xa, number xb, number xc, pz⟩) HOq.out.1 hown7
            obtain ⟨A', c', rfl, _⟩ := hO7.form
            have HO7 := Lib.hid hO7
            have h2 : wq.grownBy w7 (Value.slice v.A3 v.n3 v.c3).ownBlock := (World.grownBy_alloc wq _ _).trans hgrow7
            have HDr := Lib.hid (HD.out.sect HGQ.out h2 HNQ.out HO7.out HSZ.out)
            have HBB : Hid (Below m1 WW (w7.setCell ⟨g, 2, none⟩ (.slice A' (v.n3 + 1) c'))) := below3 (by omega) (by omega) (by omega) HGQ.out h2 (Dr.lo HD.out.sec)
            have hu := Dr.lo HD.out.sec
            have hg7 : w7.heap[g]? = wq.heap[g]? := h2.block g hgwq (fun e => by have := hu _ e.symm; omega)
            have k7 := (cell_same (p := ⟨g, 2, none⟩) hg7).trans HCQ.out
            have f7 := (frozen_same (p := ⟨g, 2, none⟩) hg7).trans HFQ.out
            clear hO7 hown7 hgrow7 hg7 hcq h2 hu
            go_wp2_with fail
            go_ret
            exact ⟨_, rfl, HDr.out, (HW0.out.mono (by have := hm3; omega)).trans HBB.out, by have := HBB.out.size; omega⟩
theorem add_section (g m1 m2 m3 k : Nat) (l : Lay) (v : LV) (A : Option Addr) (n c : Nat) (O : List Bs) (w : World) (h : Dr w g m1 m2 m3 k l v) (hO : Opn w g A n O) (hk : k ≤ 100000) (hn : n ≤ 100) (hz : ∀ s ∈ O, s.length ≤ 65537) : Calls Try.prog 43 #[.pointer (some ⟨g, 0, none⟩), .slice A n c] w (DrPost g m1 m2 m3 (k + 1) (declS l O) w) := by
  by_cases h4 : n = 4
  · exact sec_four g m1 m2 m3 k l v A n c O w h hO hk hn hz h4
  · by_cases h6 : n = 6
    · exact sec_six g m1 m2 m3 k l v A n c O w h hO hk hn hz h6
    · exact sec_no g m1 m2 m3 k l v A n c O w h hO hk hn hz h4 h6
end Go.Proofs.Ytdcbaedhgoipjaa.DSec
