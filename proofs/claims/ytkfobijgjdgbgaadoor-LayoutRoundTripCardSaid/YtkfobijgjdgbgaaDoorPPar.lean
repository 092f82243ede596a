/-
  Contract of the program's function that reads the text of a layout.
-/
import Derived.Test.YtkfobijgjdgbgaaDoorPTxt
import Derived.Test.YtkfobijgjdgbgaaDoorPLines
import Derived.Test.YtkfobijgjdgbgaaDoorPCheck
import Derived.Test.YtkfobijgjdgbgaaDoorMaker
import Derived.Carry
namespace Go.Proofs.YtkfobijgjdgbgaaDoor.PPar
open Go.ChangeShapes Go.WideShapes Go.ChangeAt Go.RowKit Wd Small Mem Lay LayT Recs Keep Names PNames PSecs PEnds PCheck RNames Num Txt App Dft DSec DLnk DLine Lin Bnd PLines
set_option linter.unusedVariables false

/-- an empty layout's slices -/
def nilV : LV := ⟨none, 0, 0, none, 0, 0, none, 0, 0, none, 0, 0⟩
def NewPost (w : World) (e : Ending) (w' : World) : Prop := ∃ g m1 m2 m3, e = .returned (.pointer (some ⟨g, 0, none⟩)) ∧ Dr w' g m1 m2 m3 0 zero nilV ∧ Below w.heap.size w w' ∧ w.heap.size ≤ m1
theorem new_dr (w : World) : Dr ((((w.alloc (.map #[] 0)).alloc (.map #[] 0)).alloc (.map #[] 0)).alloc (.cells #[.slice none 0 0, .slice none 0 0, .slice none 0 0, .slice none 0 0, .map (some w.heap.size), .map (some (w.heap.size + 1)), .map (some (w.heap.size + 1 + 1))] 77)) (w.heap.size + 1 + 1 + 1) w.heap.size (w.heap.size + 1) (w.heap.size + 1 + 1) 0 zero nilV := by
  have h1 := Nums.made w
  have h2 := Nums.made (w.alloc (.map #[] 0))
  have h3 := Nums.made ((w.alloc (.map #[] 0)).alloc (.map #[] 0))
  have h4 := heap_alloc_new (((w.alloc (.map #[] 0)).alloc (.map #[] 0)).alloc (.map #[] 0)) (.cells #[.slice none 0 0, .slice none 0 0, .slice none 0 0, .slice none 0 0, .map (some w.heap.size), .map (some (w.heap.size + 1)), .map (some (w.heap.size + 1 + 1))] 77)
  have e1 : ∀ (u : World) (o : Obj), (u.alloc o).heap.size = u.heap.size + 1 := fun u o => by simp
  simp only [e1] at h2 h3 h4
  refine ⟨h4, Recs.Own.nil _ _, Recs.Own.nil _ _, Recs.Own.nil _ _, Recs.Own.nil _ _, ?_, ((h1.alloc _).alloc _).alloc _, (h2.alloc _).alloc _, h3.alloc _, by omega, by decide, by decide, by decide, by decide, nofun, nofun, nofun⟩
  intro b hb
  simp [nilV, Value.ownBlock] at hb
set_option maxRecDepth 100000 in
theorem new_draft (w : World) : Calls Tryd.prog 35 #[] w (NewPost w) := by
  have HD := Lib.hid (new_dr w)
  have HB : Hid (Below w.heap.size w ((((w.alloc (.map #[] 0)).alloc (.map #[] 0)).alloc (.map #[] 0)).alloc (.cells #[.slice none 0 0, .slice none 0 0, .slice none 0 0, .slice none 0 0, .map (some w.heap.size), .map (some (w.heap.size + 1)), .map (some (w.heap.size + 1 + 1))] 77))) := ((((Below.refl _ _).alloc (Nat.le_refl _) _).alloc (by simp) _).alloc (by simp; omega) _).alloc (by simp; omega) _
  have hmm := fun (w : World) => run_makeMap (P := Tryd.prog) 75 w
  go_enter Tryd.func35, Tryd.ntmps35
  go_wp2_with fail
  go_ret
  exact ⟨_, _, _, _, rfl, HD.out, HB.out, Nat.le_refl _⟩

/-- the draft's layout, as it reads -/
theorem dr_rd {w : World} {g m1 m2 m3 k : Nat} {l : Lay} {v : LV} (h : Dr w g m1 m2 m3 k l v) (hk : k ≤ 100000) : RdL w w.heap.size v l :=
  ⟨h.st.rd, h.pt.rd, h.sec.rd, h.lnk.rd, by have := h.b1; omega, by have := h.b2; omega, by have := h.b3; omega, by have := h.b4; omega, fun s hs => by have := h.z1 s hs; omega, fun s hs => by have := h.z2 s hs; omega, fun s hs => by have := h.z3 s hs; omega⟩
theorem nil_rd (w : World) (B : Nat) : RdL w B nilV zero := ⟨Recs.Rd.nil _ _ _, Recs.Rd.nil _ _ _, Recs.Rd.nil _ _ _, Recs.Rd.nil _ _ _, by decide, by decide, by decide, by decide, nofun, nofun, nofun⟩
/-- what a call leaves that has read a layout from a text -/
def ParPost (r : Lay × Int × Int) (w : World) (e : Ending) (w' : World) : Prop := ∃ v, e = .returned (.tuple #[LV.val v, .int .i64 r.2.1, .int .i64 r.2.2]) ∧ RdL w' w'.heap.size v r.1 ∧ Below w.heap.size w w'
theorem fold_next {l : Lay} {L : List (List W)} {j : Nat} {x : List W} (h : L[j]? = some x) : fold l (L.drop j) = if (decl l (texts x)).2 = 0 then fold (decl l (texts x)).1 (L.drop (j + 1)) else (zero, (x.head?.map (·.2.1)).getD 0, (decl l (texts x)).2) := by
  rw [Strs.drop_at h]
  rfl
theorem keep_cell {w w' : World} {m : Int} (hb : Below w.heap.size w w') (hm : w.cell? ⟨0, 0, none⟩ = some (.int .i64 m)) : w'.cell? ⟨0, 0, none⟩ = some (.int .i64 m) :=
  (hb.cell (p := ⟨0, 0, none⟩) (World.block_lt_of_cell? w _ hm)).trans hm
theorem four_cells {w : World} {b : Nat} {u0 u1 u2 u3 : Value} {t : TypeId} (h : w.heap[b]? = some (.cells #[u0, u1, u2, u3] t)) : w.cell? ⟨b, 0, none⟩ = some u0 ∧ w.cell? ⟨b, 1, none⟩ = some u1 ∧ w.cell? ⟨b, 2, none⟩ = some u2 ∧ w.cell? ⟨b, 3, none⟩ = some u3 ∧ (∀ j, w.frozen? ⟨b, j, none⟩ = false) := by
  refine ⟨?_, ?_, ?_, ?_, fun j => ?_⟩ <;> simp [World.cell?, World.frozen?, h]
theorem set4_below {w wr : World} {B r : Nat} {v0 v1 v2 v3 : Value} (h : Below B w wr) (hr : B ≤ r) : Below B w ((((wr.setCell ⟨r, 0, none⟩ v0).setCell ⟨r, 1, none⟩ v1).setCell ⟨r, 2, none⟩ v2).setCell ⟨r, 3, none⟩ v3) := (((h.setCell hr _).setCell hr _).setCell hr _).setCell hr _

/-- the draft's layout, as it reads when the call's result has been written -/
theorem rd_set4 {w w5 : World} {g m1 m2 m3 k r : Nat} {l : Lay} {v : LV} {v0 v1 v2 v3 : Value} (h : Dr w g m1 m2 m3 k l v) (hb : Below w.heap.size w w5) (hk : k ≤ 100000) (hr : r < g + 1) :
    RdL ((((w5.setCell ⟨r, 0, none⟩ v0).setCell ⟨r, 1, none⟩ v1).setCell ⟨r, 2, none⟩ v2).setCell ⟨r, 3, none⟩ v3) ((((w5.setCell ⟨r, 0, none⟩ v0).setCell ⟨r, 1, none⟩ v1).setCell ⟨r, 2, none⟩ v2).setCell ⟨r, 3, none⟩ v3).heap.size v l := by
  have h5 := h.below hb
  have o : ∀ {α : Type} {R : Rec α} {u : Value} {n : Nat} {L : List α}, Recs.Own R w5 (g + 1) u n L → Recs.Own R ((((w5.setCell ⟨r, 0, none⟩ v0).setCell ⟨r, 1, none⟩ v1).setCell ⟨r, 2, none⟩ v2).setCell ⟨r, 3, none⟩ v3) (g + 1) u n L := fun ho => Bldr.own_set (Bldr.own_set (Bldr.own_set (Bldr.own_set ho hr) hr) hr) hr
  exact ⟨(o h5.st).rd, (o h5.pt).rd, (o h5.sec).rd, (o h5.lnk).rd, by have := h.b1; omega, by have := h.b2; omega, by have := h.b3; omega, by have := h.b4; omega, fun s hs => by have := h.z1 s hs; omega, fun s hs => by have := h.z2 s hs; omega, fun s hs => by have := h.z3 s hs; omega⟩
/-- the line at k, as the walk loads it; its words lie from the call's own base on -/
theorem load_low {w : World} {n base k c : Nat} {A : Option Addr} {T : List (List W)} (h : OwnL w base (.slice A n c) n T) (hk : k < n) : ∃ ad L A1 c1, A = some ad ∧ ad.block < w.heap.size ∧ T[k]? = some L ∧ w.cell? (ad.add k) = some (.slice A1 L.length c1) ∧ Words w w.heap.size A1 L.length L ∧ L.length ≤ c1 ∧ c1 ≤ maxLen ∧ (0 < L.length → ∀ a, A1 = some a → base ≤ a.block) := by
  obtain ⟨us, h1, h2, h3⟩ := h
  have hk' : k < T.length := by omega
  have e : T[k]? = some T[k] := List.getElem?_eq_getElem hk'
  obtain ⟨u, hu, hr⟩ := h3.get e
  obtain ⟨A1, c1, rfl, q1, q2⟩ := Mem.Own.form hr
  have hlen := h2.1
  rcases h2.2 with ⟨e2, e3⟩ | ⟨g, cap, cur, e2, _, hh, _⟩
  · rw [e3] at hlen; simp at hlen; omega
  · have hA : A = some ⟨g, 0, none⟩ := by injection e2
    subst hA
    refine ⟨_, T[k], A1, c1, rfl, lt_of_block hh, e, h2.cells (g := g) rfl k _ hu, Mem.Own.words hr, q1, q2, fun hpos a ha => ?_⟩
    have := (hr.2.lt a.block (by subst ha; simp [Value.ownBlock])).1
    exact this

set_option maxRecDepth 100000 in
set_option maxHeartbeats 8000000 in
theorem p_parse (s : ByteArray) (m : Int) (w : World) (hs : s.size ≤ 9223372036854775807) (hm : w.cell? ⟨0, 0, none⟩ = some (.int .i64 m)) : Calls Tryd.prog 13 #[.string s] w (ParPost (parse (bs s)) w) := by
  obtain ⟨W, hW⟩ : ∃ W, w.alloc (.cells #[.slice none 0 0, .slice none 0 0, .slice none 0 0, .slice none 0 0] 26) = W := ⟨_, rfl⟩
  have hbW : Below w.heap.size w W := by rw [← hW]; exact (Below.refl _ _).alloc (Nat.le_refl _) _
  have hzW : w.heap.size < W.heap.size := by rw [← hW]; simp
  have hx : W.heap[w.heap.size]? = some (.cells #[.slice none 0 0, .slice none 0 0, .slice none 0 0, .slice none 0 0] 26) := by rw [← hW]; exact heap_alloc_new _ _
  have HX := Lib.hid hx
  have HB := Lib.hid hbW
  have HL := Lib.hid (p_lines s m W hs (keep_cell hbW hm))
  have HMX := Lib.hid (lines_max (bs s))
  have EP : Hid (parse (bs s) = if (linesOf (bs s)).2.2 = 0 then fold zero (linesOf (bs s)).1 else (zero, (linesOf (bs s)).2.1, (linesOf (bs s)).2.2)) := rfl
  generalize parse (bs s) = R at *
  obtain ⟨L, num, er, hLL⟩ : ∃ L num er, linesOf (bs s) = (L, num, er) := ⟨_, _, _, rfl⟩
  rw [hLL] at EP HMX
  unfold LinesPost at HL
  rw [hLL] at HL
  simp only at EP HMX HL
  clear hx hbW hm hLL
  cases her : decide (er = 0) with
  | false =>
    have h0 := of_decide_eq_false her
    have hne : ((er : Int) != 0) = true := by rw [bne_iff_ne]; exact h0
    have EQ : Hid (R = (zero, num, er)) := by rw [Hid, EP.out, if_neg h0]
    clear her h0 EP
    go_enter Tryd.func13, Tryd.ntmps13
    go_upto_region 1 with fail
    try rw [hW]
    clear hW
    go_wp2_with fail
    refine HL.out.mono ?_
    rintro e w1 ⟨A, nl, c, rfl, hO, hb1⟩
    have hx1 : w1.heap[w.heap.size]? = some (.cells #[.slice none 0 0, .slice none 0 0, .slice none 0 0, .slice none 0 0] 26) := (hb1.block w.heap.size hzW).trans HX.out
    obtain ⟨c0, c1, c2, c3, hf⟩ := four_cells hx1
    have f0 := hf 0
    have f1 := hf 1
    have f2 := hf 2
    have f3 := hf 3
    have HBE := Lib.hid (HB.out.trans (hb1.mono (by omega)))
    clear hf hx1 hb1 hO
    go_wp2_with fail
    obtain ⟨e0, e1, e2, e3⟩ := Maker.four_set (v0 := .slice none 0 0) (v1 := .slice none 0 0) (v2 := .slice none 0 0) (v3 := .slice none 0 0) c0 c1 c2 c3
    refine bodyPost_ret (v := .tuple #[.agg #[.slice none 0 0, .slice none 0 0, .slice none 0 0, .slice none 0 0], .int .i64 num, .int .i64 er]) ?_ rfl ?_
    · simp [results, Tryd.results13, go_sem, e0, e1, e2, e3]
    · exact ⟨nilV, by rw [EQ.out]; rfl, by rw [EQ.out]; exact nil_rd _ _, set4_below HBE.out (Nat.le_refl _)⟩
  | true =>
    obtain rfl := of_decide_eq_true her
    have EQ : Hid (R = fold zero (L.drop 0)) := by rw [Hid, EP.out, if_pos rfl]; rfl
    clear her EP
    go_enter Tryd.func13, Tryd.ntmps13
    go_upto_region 1 with fail
    try rw [hW]
    clear hW
    go_wp2_with fail
    refine HL.out.mono ?_
    rintro e w1 ⟨A, nl, c, rfl, hO, hb1⟩
    have hx1 : w1.heap[w.heap.size]? = some (.cells #[.slice none 0 0, .slice none 0 0, .slice none 0 0, .slice none 0 0] 26) := (hb1.block w.heap.size hzW).trans HX.out
    have HX1 := Lib.hid hx1
    have hz1 := hb1.size
    have HB1 := Lib.hid (HB.out.trans (hb1.mono (by omega)))
    have HO := Lib.hid hO
    have hnl : nl ≤ 65537 := by obtain ⟨us, h1, -⟩ := hO; have := HMX.out.2; omega
    clear hx1 hb1 hO
    go_wp2_with fail
    refine (new_draft w1).mono ?_
    rintro e w2 ⟨g, m1, m2, m3, rfl, hd, hb2, hm1⟩
    have HD2 := Lib.hid hd
    have hb2' : Below w1.heap.size w1 w2 := hb2
    have HB2 := Lib.hid hb2
    clear hd hb2 hb2'
    go_wp2_with fail
    go_loopw [27] (fun i wr => ∃ (j : Nat) (l : Lay) (v : LV), j ≤ nl ∧ i = .int .i64 j ∧ Dr wr g m1 m2 m3 j l v ∧ Hid (R = fold l (L.drop j)) ∧ Below w1.heap.size w1 wr) (fun i _ => nl - (intOf i).toNat)
    case atStart => exact ⟨0, zero, nilV, Nat.zero_le _, rfl, HD2.out, EQ, HB2.out⟩
    case round =>
      obtain ⟨j, l, v, hj, rfl, hD, HE, hbr⟩ := hrel
      have HD := Lib.hid hD
      have hzr := hbr.size
      have HBR := Lib.hid hbr
      have hx3 := (hbr.block w.heap.size (by omega)).trans HX1.out
      by_cases hlt : j < nl
      · obtain ⟨ad, x, A1, c1, rfl, hab, hxj, d0', hW0, hl1, hc1, hlow⟩ := load_low HO.out hlt
        have HLOW := Lib.hid hlow
        have d0 := (hbr.cell (p := ad.add j) (by rw [Mem.block_add]; exact hab)).trans d0'
        have hW1 : Words wr wr.heap.size A1 x.length x := (hW0.below hbr).more hzr
        have HW0 := Lib.hid hW0
        clear d0' hW0 hlow
        have hfit := HMX.out.1 x (List.mem_of_getElem? hxj)
        have HN := Lib.hid (HE.out.trans (fold_next (l := l) hxj))
        have hji : (j : Int) < (nl : Int) := by omega
        have hlen := hfit.2.1
        have HT := Lib.hid (texts_of A1 x.length c1 x wr hW1 (by omega))
        have HFit := Lib.hid hfit
        clear hD hxj hW1 hfit hbr HE
        go_wp2_with fail
        refine HT.out.mono ?_
        rintro e w3 ⟨A3, n3, c3, rfl, hO3, hb3⟩
        have hz3 := hb3.size
        obtain ⟨y, ys, rfl⟩ : ∃ y ys, x = y :: ys := by
          cases x with
          | nil => exact absurd rfl HFit.out.1
          | cons y ys => exact ⟨y, ys, rfl⟩
        have hn3 : n3 = ys.length + 1 := by have := hO3.1; simp [texts] at this; omega
        subst hn3
        obtain ⟨gg, rfl, hgg, hgg2⟩ := Recs.Own.ne_nil hO3 (by omega)
        obtain ⟨hc3, hcm3⟩ : ys.length + 1 ≤ c3 ∧ c3 ≤ maxLen := by
          obtain ⟨A5, c5, e5, q1, q2⟩ := hO3.form
          injection e5 with _ _ e6
          subst e6
          exact ⟨q1, q2⟩
        have hgr := HD.out.blk.lt
        have HOp : Hid (Opn w3 g (some ⟨gg, 0, none⟩) (ys.length + 1) (y.1 :: texts ys)) := ⟨hO3.rd, fun a e => by cases e; show g < gg; omega⟩
        have HA := Lib.hid (add_line g m1 m2 m3 j l v ⟨gg, 0, none⟩ ys.length c3 y.1 (texts ys) w3 (HD.out.below hb3) HOp.out (by omega) (by simp at hlen; omega) hc3 hcm3 (fun s hs => by
          rw [show y.1 :: texts ys = texts (y :: ys) from rfl, texts, List.mem_map] at hs
          obtain ⟨t, ht, rfl⟩ := hs
          exact HFit.out.2.2 t ht))
        have HB3 := Lib.hid (HBR.out.trans (hb3.mono hzr))
        have hz13 : w1.heap.size ≤ w3.heap.size := by omega
        rw [show decl l (texts (y :: ys)) = decl l (y.1 :: texts ys) from rfl] at HN
        clear hO3 hb3 hcm3
        go_wp2_with fail
        (with_reducible refine HA.out.mono ?_)
        rintro e w4 ⟨v4, rfl, hd4, hb4, hz4⟩
        have HD4 := Lib.hid hd4
        have HB4 := Lib.hid (HB3.out.trans (hb4.mono (show w1.heap.size ≤ m1 by omega)))
        clear hd4 hb4
        cases hdz : decide ((decl l (y.1 :: texts ys)).2 = 0) with
        | true =>
          have h0 := of_decide_eq_true hdz
          have HE4 : Hid (R = fold (decl l (y.1 :: texts ys)).1 (L.drop (j + 1))) := by rw [Hid, HN.out, if_pos h0]
          rw [h0]
          clear HN h0 hdz HA
          go_wp2_with fail
          go_roundw
          case rel => exact ⟨j + 1, _, v4, by omega, by go_num, HD4.out, HE4, HB4.out⟩
          case measure => simp [intOf]; omega
        | false =>
          have h0 := of_decide_eq_false hdz
          have HE4 : Hid (R = (zero, y.2.1, (decl l (y.1 :: texts ys)).2)) := by rw [Hid, HN.out, if_neg h0]; rfl
          have hne : (((decl l (y.1 :: texts ys)).2 : Int) != 0) = true := by rw [bne_iff_ne]; exact h0
          obtain ⟨ad2, p, rfl, hab2, hp, x0, x1, x2⟩ := HW0.out.load (show 0 < (y :: ys).length by simp)
          obtain rfl : y = p := by simpa using hp
          have x1' : w4.cell? ⟨ad2.block, ad2.off + 1, none⟩ = some (.int .i64 y.2.1) := (HB4.out.cell (p := ⟨ad2.block, ad2.off + 1, none⟩) hab2).trans x1
          have hx4 := (HB4.out.block w.heap.size (by omega)).trans HX1.out
          obtain ⟨c0, c1', c2, c3', hf⟩ := four_cells hx4
          have f0 := hf 0
          have f1 := hf 1
          have f2 := hf 2
          have f3 := hf 3
          have hne2 : ¬ ad2.block = w.heap.size := by have := HLOW.out (by simp) ad2 rfl; omega
          have hlen2 : (0 : Int) < ((ys.length + 1 : Nat) : Int) := by omega
          have HBE := Lib.hid (HB1.out.trans (HB4.out.mono (by have := HB1.out.size; omega)))
          generalize (decl l (y.1 :: texts ys)).2 = z at *
          clear HN h0 hdz HA hp x0 x1 x2 hf hx4 d0
          go_upto_region 10 with fail
          go_region
          all_goals
            go_wp2_with fail
            obtain ⟨e0, e1, e2, e3⟩ := Maker.four_set (v0 := .slice none 0 0) (v1 := .slice none 0 0) (v2 := .slice none 0 0) (v3 := .slice none 0 0) c0 c1' c2 c3'
            refine bodyPost_ret (v := .tuple #[.agg #[.slice none 0 0, .slice none 0 0, .slice none 0 0, .slice none 0 0], .int .i64 y.2.1, .int .i64 z]) ?_ rfl ?_
            · simp [results, Tryd.results13, go_sem, e0, e1, e2, e3]
            · exact ⟨nilV, by rw [HE4.out]; rfl, by rw [HE4.out]; exact nil_rd _ _, (set4_below HBE.out (Nat.le_refl _)).drew⟩
      · have hji : ¬ (j : Int) < (nl : Int) := by omega
        have hLn : L.length ≤ j := by obtain ⟨us, h1, -⟩ := HO.out; omega
        have HEX : Hid (R = if check l = 0 then (l, 0, 0) else (zero, 0, check l)) := by rw [Hid, HE.out, List.drop_of_length_le hLn]; rfl
        have HCK := Lib.hid (p_check v l wr (dr_rd hD (by omega)))
        have g0 := hD.blk.c0
        have g1 := hD.blk.c1
        have g2 := hD.blk.c2
        have g3 := hD.blk.c3
        have hgw := hD.blk.lt
        obtain ⟨B1, n1, b1, B2, n2, b2, B3, n3, b3, B4, n4, b4⟩ := v
        simp only [LV.val] at *
        have HDD := Lib.hid hD
        have hwg : w.heap.size < g := by have := hD.ms; omega
        have hgne : w.heap.size ≠ g := by omega
        have HBR1 := Lib.hid (HB1.out.trans (hbr.mono (by have := HB1.out.size; omega)))
        clear HE hLn hbr hD
        go_wp2_with fail
        (with_reducible refine HCK.out.mono ?_)
        rintro e w5 ⟨rfl, hb5⟩
        have hx5 := (hb5.block w.heap.size (by omega)).trans hx3
        have q0 := (hb5.cell (p := ⟨g, 0, none⟩) hgw).trans g0
        have q1 := (hb5.cell (p := ⟨g, 1, none⟩) hgw).trans g1
        have q2 := (hb5.cell (p := ⟨g, 2, none⟩) hgw).trans g2
        have q3 := (hb5.cell (p := ⟨g, 3, none⟩) hgw).trans g3
        obtain ⟨c0, c1', c2, c3', hf⟩ := four_cells hx5
        have f0 := hf 0
        have f1 := hf 1
        have f2 := hf 2
        have f3 := hf 3
        have HBE := Lib.hid (HBR1.out.trans (hb5.mono HBR1.out.size))
        have HB5 := Lib.hid hb5
        clear hf hx5 hx3 hb5 g0 g1 g2 g3
        cases hcz : decide (check l = 0) with
        | false =>
          have h0 := of_decide_eq_false hcz
          have HE4 : Hid (R = (zero, 0, check l)) := by rw [Hid, HEX.out, if_neg h0]
          have hne : ((check l : Int) != 0) = true := by rw [bne_iff_ne]; exact h0
          generalize check l = z at *
          clear hcz h0
          go_wp2_with fail
          obtain ⟨e0, e1, e2, e3⟩ := Maker.four_set (v0 := .slice none 0 0) (v1 := .slice none 0 0) (v2 := .slice none 0 0) (v3 := .slice none 0 0) c0 c1' c2 c3'
          refine bodyPost_ret (v := .tuple #[.agg #[.slice none 0 0, .slice none 0 0, .slice none 0 0, .slice none 0 0], .int .i64 0, .int .i64 z]) ?_ rfl ?_
          · simp [results, Tryd.results13, go_sem, e0, e1, e2, e3]
          · exact ⟨nilV, by rw [HE4.out]; rfl, by rw [HE4.out]; exact nil_rd _ _, set4_below HBE.out (Nat.le_refl _)⟩
        | true =>
          have h0 := of_decide_eq_true hcz
          have HE4 : Hid (R = (l, 0, 0)) := by rw [Hid, HEX.out, if_pos h0]
          rw [h0]
          clear hcz h0
          go_wp2_with fail
          obtain ⟨e0, e1, e2, e3⟩ := Maker.four_set (v0 := .slice B1 n1 b1) (v1 := .slice B2 n2 b2) (v2 := .slice B3 n3 b3) (v3 := .slice B4 n4 b4) c0 c1' c2 c3'
          refine bodyPost_ret (v := .tuple #[.agg #[.slice B1 n1 b1, .slice B2 n2 b2, .slice B3 n3 b3, .slice B4 n4 b4], .int .i64 0, .int .i64 0]) ?_ rfl ?_
          · simp [results, Tryd.results13, go_sem, e0, e1, e2, e3]
          · exact ⟨⟨B1, n1, b1, B2, n2, b2, B3, n3, b3, B4, n4, b4⟩, by rw [HE4.out]; rfl, by
              rw [HE4.out]
              exact rd_set4 HDD.out HB5.out (by omega) (by omega), set4_below HBE.out (Nat.le_refl _)⟩
end Go.Proofs.YtkfobijgjdgbgaaDoor.PPar
