/-
  Contract of the maker of a row of stations.
-/
import Derived.Test.YtkfobijgjdgbgaaDoorRowA
import Derived.StillTailTactics
namespace Go.Proofs.YtkfobijgjdgbgaaDoor.Row
open Go.ChangeShapes Go.WideShapes Go.ChangeAt Go.RowKit Wd Small Mem Lay LayT LayG Recs Dec PNames PSecs PEnds RNames Src PHops Bld Bldr St Fan RowA
set_option linter.unusedVariables false

/-- all sections' numbers lie within the limits -/
def Nums (L : Lay) : Prop := ∀ s ∈ L.sections, numsOK s
theorem Nums.add {L : Lay} {x : Sec} (h : Nums L) (hx : numsOK x) : Nums { L with sections := L.sections ++ [x] } := by
  intro s hs
  simp only [List.mem_append, List.mem_singleton] at hs
  rcases hs with hs | rfl
  · exact h s hs
  · exact hx
/-- what the first loop keeps: i stations are made -/
structure One (w : World) (g : Nat) (i : Nat) (ts : List Nat) (L : Lay) (TS : List (List Int)) (V : V6) : Prop where
  bare : Bare V
  bd : ∃ top ptop TL, Bd w g top ptop L TL TS V []
  len : ts.length = i
  cnt : ∀ x ∈ ts, x = 1 ∨ x = 2
  sk : stationsOf 0 ts LayG.start = ⟨skOf L, TS, []⟩
  num : Nums L
  few : L.sections.length ≤ 2 * i
  stn : L.stations.length = i
  lnk : L.links = []
  trk : TS.length = i
  wid : ∀ t ∈ TS, 1 ≤ t.length ∧ t.length ≤ 2
/-- what the second loop keeps: p rows of sections in between are made -/
structure Thr (w : World) (g : Nat) (p : Nat) (ts ms : List Nat) (L : Lay) (TS : List (List Int)) (V : V6) : Prop where
  bd : ∃ top ptop TL M, Bd w g top ptop L TL TS V M ∧ M.length ≤ p
  len : ms.length = p
  cnt : ∀ x ∈ ms, x = 1 ∨ x = 2
  sk : ∃ bt, betweensOf 0 ms (stationsOf 0 ts LayG.start) = ⟨skOf L, TS, bt⟩
  num : Nums L
  few : L.sections.length ≤ 6 + 2 * p
  fewp : L.points.length ≤ 2 * p
  fewl : L.links.length ≤ 10 * p
theorem chain_step {a b : Int} {q : Nat} {T : List Int} {K : Skel} (h : T[q]? = some a) (h2 : T[q + 1]? = some b) : chain (T.drop q) K = chain (T.drop (q + 1)) (addLink K a b (-1) 0) := by
  have hq : q < T.length := (List.getElem?_eq_some_iff.1 h).1
  have hq2 : q + 1 < T.length := (List.getElem?_eq_some_iff.1 h2).1
  rw [List.drop_eq_getElem_cons hq, List.drop_eq_getElem_cons hq2]
  rw [(List.getElem?_eq_some_iff.1 h).2, (List.getElem?_eq_some_iff.1 h2).2]
  rfl
theorem chain_end {q : Nat} {T : List Int} {K : Skel} (h : T.length ≤ q + 1) : chain (T.drop q) K = K := by
  match hd : T.drop q with
  | [] => rfl
  | [_] => rfl
  | _ :: _ :: _ => have := congrArg List.length hd; simp at this; omega
theorem between_next (ms : List Nat) (b0 : LayG.Bld) {K2 K3 K4 K5 K6 : Skel} {TS bt : List (List Int)} {tl T0 T1 : List Int} {p k1 : Nat} {x0 xl : Int} (hsk : betweensOf 0 ms b0 = ⟨K2, TS, bt⟩) (len : ms.length = p) (hR : addLoop (nm [76] p) (-1) k1 K2 [] = (K3, tl))
    (hC : K4 = chain tl K3) (h0 : tl[0]? = some x0) (hl : tl[tl.length - 1]? = some xl) (t0 : TS[p]? = some T0) (t1 : TS[p + 1]? = some T1) (h5 : K5 = fan x0 T0 false K4) (h6 : K6 = fan xl T1 true K5) : betweensOf 0 (ms ++ [k1]) b0 = ⟨K6, TS, bt ++ [tl]⟩ := by
  have e0 : tl.headD 0 = x0 := by cases tl with
    | nil => simp at h0
    | cons a r => simpa using h0
  have el : tl.getLastD 0 = xl := by rw [← List.getLast?_eq_getElem?] at hl; rw [List.getLastD_eq_getLast?, hl]; rfl
  rw [between_snoc, hsk, len]
  unfold addBetween
  simp only [Int.zero_add, hR, Int.toNat_natCast, t0, t1, Option.getD_some, e0, el, ← hC, ← h5, ← h6]
theorem loadT {w : World} {B n : Nat} {A : Option Addr} {L : List (Option Addr × Nat × Nat)} {i : Nat} (h : Rd tR w B A n L) (hi : i < n) : ∃ ad s, A = some ad ∧ ad.block < B ∧ L[i]? = some s ∧ w.cell? (ad.add i) = some (.slice s.1 s.2.1 s.2.2) := by
  obtain ⟨ad, a, e1, hb, e, hc⟩ := h.at_ hi
  refine ⟨ad, a, e1, hb, e, ?_⟩
  have := hc 0 (.slice a.1 a.2.1 a.2.2) rfl
  rw [show i * tR.k + 0 = i by show i * 1 + 0 = i; omega] at this
  exact this
/-- the element at i of a row of the call's own, and where the row begins -/
theorem rowI {w : World} {base n c : Nat} {A : Option Addr} {L : List Int} {i : Nat} (h : Own iR w base (.slice A n c) n L) (hi : i < n) : ∃ b x, A = some ⟨b, 0, none⟩ ∧ L[i]? = some x ∧ w.cell? ⟨b, i, none⟩ = some (.int .i64 x) := by
  obtain ⟨b, hA, _⟩ := h.ne_nil (by omega)
  obtain ⟨ad, x, e, _, hx, hc⟩ := loadI h.rd hi
  rw [hA] at e
  cases e
  exact ⟨b, x, hA, hx, by cases i with
    | zero => simpa [Addr.add] using hc
    | succ i => simpa [Addr.add] using hc⟩
theorem rowT {w : World} {base n c : Nat} {A : Option Addr} {L : List (Option Addr × Nat × Nat)} {i : Nat} (h : Own tR w base (.slice A n c) n L) (hi : i < n) : ∃ b x, A = some ⟨b, 0, none⟩ ∧ L[i]? = some x ∧ w.cell? ⟨b, i, none⟩ = some (.slice x.1 x.2.1 x.2.2) := by
  obtain ⟨b, hA, _⟩ := h.ne_nil (by omega)
  obtain ⟨ad, x, e, _, hx, hc⟩ := loadT h.rd hi
  rw [hA] at e
  cases e
  exact ⟨b, x, hA, hx, by cases i with
    | zero => simpa [Addr.add] using hc
    | succ i => simpa [Addr.add] using hc⟩
/-- a row of tracks: k more are to come, R is how it ends -/
structure Two (w : World) (g top : Nat) (st : Int) (f : Bs) (k : Nat) (A : Option Addr) (n c : Nat) (t : List Int) (L : Lay) (TS : List (List Int)) (V : V6) (M : List (Option Addr × Nat × Nat)) (R : Skel × List Int) (q : Nat) : Prop where
  bd : ∃ ptop TL, Bd w g top ptop L TL TS V M
  own : Own iR w top (.slice A n c) n t
  loop : addLoop f st k (skOf L) t = R
  num : Nums L
  few : L.sections.length + k ≤ q
  nk : n + k ≤ 2
  pos : 1 ≤ n + k
theorem loop_step {f : Bs} {st : Int} {k : Nat} {L : Lay} {t : List Int} {R : Skel × List Int} {x : Sec} (h : addLoop f st (k + 1) (skOf L) t = R) (hn : x.name = nm f ((k : Int) + 1)) (hs : x.st = st) :
    addLoop f st k (skOf { L with sections := L.sections ++ [x] }) (t ++ [(L.sections.length : Int)]) = R := by
  rw [sk_sec, hn, hs, ← sk_len L]
  exact h

/-- what a call leaves that has made a row of stations, given a source in block gs -/
def RowPost (gs : Nat) (w : World) (e : Ending) (w' : World) : Prop := ∃ g top ptop L TL TS V M ts ms, e = .returned (.pointer (some ⟨g, 0, none⟩)) ∧ Bd w' g top ptop L TL TS V M ∧ Nums L ∧ (ts.length = 2 ∨ ts.length = 3) ∧ ms.length + 1 = ts.length ∧ (∀ x ∈ ts, x = 1 ∨ x = 2) ∧ (∀ x ∈ ms, x = 1 ∨ x = 2) ∧ skOf L = (LayG.row ts ms).sk ∧ w.heap.size ≤ g ∧ w.heap.size ≤ w'.heap.size ∧ Below gs w w'
set_option maxRecDepth 100000 in
set_option maxHeartbeats 40000000 in
theorem row_any (gs : Nat) (A : Option Addr) (l c B : Nat) (w : World) (hs : Src w gs A l c 0) (hl : l ≤ 9223372036854775807) (hI : Ints w B A l) (hgB : B ≤ gs) :
    Calls Tryd.prog 27 #[.pointer (some ⟨gs, 0, none⟩)] w (RowPost gs w) := by
  have hgs := hs.lt
  obtain ⟨ihS, hihS, hS0, hS1, hS2⟩ := info_parts infoS
  obtain ⟨ihT, hihT, hT0, hT1, hT2⟩ := info_parts infoT
  obtain ⟨ihI, hihI, hI0, hI1, hI2⟩ := info_parts infoI
  obtain ⟨W, hW⟩ : ∃ W, w.alloc (.cells #[.slice none 0 0, .slice none 0 0, .slice none 0 0, .slice none 0 0, .slice none 0 0, .slice none 0 0, .slice none 0 0] 55) = W := ⟨_, rfl⟩
  have hbW : Below w.heap.size w W := by rw [← hW]; exact (Below.refl _ _).alloc (Nat.le_refl _) _
  have hzW : W.heap.size = w.heap.size + 1 := by rw [← hW]; simp
  have hblk : Blk7 W w.heap.size (.slice none 0 0) (.slice none 0 0) (.slice none 0 0) (.slice none 0 0) (.slice none 0 0) (.slice none 0 0) := by rw [← hW]; exact heap_alloc_new _ _
  have hbd : Bd W w.heap.size W.heap.size W.heap.size ⟨[], [], [], []⟩ [] [] ⟨none, 0, 0, none, 0, 0, none, 0, 0, none, 0, 0, none, 0, 0, none, 0, 0⟩ [] :=
    ⟨hblk, Own.nil _ _, nofun, Own.nil _ _, Own.nil _ _, Own.nil _ _, Own.nil _ _, nofun, Own.nil _ _, rfl, fun i a l ha _ => by simp at ha, by omega, Nat.le_refl _, by omega, Nat.le_refl _⟩
  have HS := Lib.hid (hs.below hbW hgs)
  have HI := Lib.hid (hI.below (hbW.mono (by omega)))
  have HBd := Lib.hid hbd
  have HBW := Lib.hid hbW
  have HZ := Lib.hid hzW
  clear hs hI hbd hblk hbW hzW
  go_enter Tryd.func27, Tryd.ntmps27
  go_upto_region 2 with fail
  try rw [hW]
  clear hW
  go_wp2_with fail
  refine (next_any gs A l c 0 B 2 W HS.out (Nat.zero_le _) hl HI.out hgB (by decide) (by decide)).mono ?_
  rintro e w1 ⟨r0, i0, ra, rb, rfl, hi0, hS1', hg1⟩
  obtain ⟨r, rfl⟩ : ∃ r : Nat, r0 = r := ⟨r0.toNat, by omega⟩
  have hr1 : r ≤ 1 := by omega
  have HB1 := Lib.hid (HBd.out.grown hg1 (fun b hb => by injection hb with hb; omega))
  have HI1 := Lib.hid (HI.out.below (below_only (Below.refl _ _) hg1 (by have := HZ.out; omega) hgB))
  have HS1 := Lib.hid hS1'
  have HW1 := Lib.hid (below_only (B := gs) (HBW.out.mono (by omega)) hg1 (by have := HZ.out; omega) (Nat.le_refl _))
  have HZ1 : Hid (w.heap.size < w1.heap.size) := by rw [Hid]; have := hg1.size; have := HZ.out; omega
  clear ra rb hS1' hg1 HBd HI HS
  go_upto_region 3 with fail
  obtain ⟨n, hn⟩ : ∃ n : Nat, (2 : Int) + r = n := ⟨2 + r, by omega⟩
  try rw [hn]
  have hn23 : n = 2 ∨ n = 3 := by omega
  clear hn
  go_wp2_with fail
  go_loopw [5, 6, 7, 8] (fun i _ _ _ wr => ∃ (j isrc : Nat) (ts : List Nat) (L : Lay) (TS : List (List Int)) (V : V6), j ≤ n ∧ i = .int .i64 j ∧ isrc ≤ l ∧ One wr w.heap.size j ts L TS V ∧ Src wr gs A l c isrc ∧ Ints wr B A l ∧ Below gs w wr) (fun i _ _ _ _ => n - (intOf i).toNat)
  case atStart => exact ⟨0, i0, [], _, _, _, Nat.zero_le _, rfl, hi0, ⟨⟨rfl, rfl, rfl, rfl, rfl, rfl⟩, ⟨_, _, _, HB1.out⟩, rfl, by simp, rfl, by intro s hs; simp at hs, by simp, rfl, rfl, rfl, by simp⟩, HS1.out, HI1.out, HW1.out⟩
  case round =>
    obtain ⟨j, isrc, ts, L, TS, V, hj, rfl, hisrc, hone, hsr, hir, hbr⟩ := hrel
    clear HB1 HI1 HS1 HW1
    by_cases hlt : j < n
    · obtain ⟨bare, ⟨top, ptop, TL, bd⟩, len, cnt, sk, num, few, stn, lnk, trk, wid⟩ := hone
      have HB2 := Lib.hid bd
      have HSr := Lib.hid hsr
      have HIr := Lib.hid hir
      have HWr := Lib.hid hbr
      have HNum := Lib.hid num
      have HSk := Lib.hid sk
      have hjn : (j : Int) < (n : Int) := by omega
      have hgr := bd.blk.lt
      have hst0 := bd.st.1
      have htop := bd.gt
      have htz := bd.tz
      have k0 := bd.blk.c0
      clear bd hsr hir hbr num sk
      go_upto_region 6 with fail
      go_cut [23] (fun v wx => ∃ A' c', v = .pointer (some ⟨w.heap.size, 0, none⟩) ∧ Blk7 wx w.heap.size (.slice A' (V.n0 + 1) c') (.slice V.A1 V.n1 V.c1) (.slice V.A2 V.n2 V.c2) (.slice V.A3 V.n3 V.c3) (.slice V.A4 V.n4 V.c4) (.slice V.A5 V.n5 V.c5) ∧ Own sR wx (w.heap.size + 1) (.slice A' (V.n0 + 1) c') (V.n0 + 1) (L.stations ++ [nm [83] j]) ∧ Turned wr wx w.heap.size (.slice V.A0 V.n0 V.c0))
      case first =>
        have hn63 : V.n0 + 1 ≤ maxLen := by unfold maxLen; omega
        have hby : (V.n0 + 1) * 16 ≤ 140737488355328 := by omega
        go_region_law (first | (refine step_append_lies _ (by rfl) _ _ _ (by rfl) (w.heap.size + 1) 9 ihS _ 1 16 Tryd.underlying22 hihS hS0 hS1 hS2 rfl (by omega) (.slice V.A0 V.n0 V.c0) V.n0 (sR.cs L.stations) (by rfl) (HB2.out.st.2.alloc _) ⟨wr.heap.size, 0, none⟩ 1 1 [.string (str (nm [83] j))] (by rfl) (by rfl) (World.news_of_block (cs := #[.string (str (nm [83] j))]) (t := 9) (fr := (0, 0)) (heap_alloc_new wr _)) (by simp [Value.oneCell']) (by omega) hn63 hby (by simp; omega) (wr.heap.size + 1) (by simp) ?_; intro gg cap w7 hown7 hgrow7 hat7 hlt7; have hgl : ∀ b, (Value.slice V.A0 V.n0 V.c0).ownBlock = some b → w.heap.size + 1 ≤ b := fun b hb => (HB2.out.st.2.lt b hb).1; have hg7 : w7.heap[w.heap.size]? = wr.heap[w.heap.size]? := (hgrow7.block w.heap.size (by simp; omega) (fun e => by have := hgl _ e.symm; omega)).trans (((Below.refl wr.heap.size wr).alloc (Nat.le_refl _) _).block w.heap.size (by omega)); have HB7 := Lib.hid (HB2.out.blk.same hg7); have k7 := HB7.out.c0; have f7 := HB7.out.f 0) | (go_simp; go_at_call 56; refine (named_any [83] j _ (by omega) (by omega) (by decide)).mono ?_; rintro e wq ⟨rfl, rfl⟩))
        all_goals
          have HO7 := Lib.hid (Own.push (R := sR) (a := nm [83] j) HB2.out.st.1 hown7)
          have HT : Hid (Turned wr (w7.setCell ⟨w.heap.size, 0, none⟩ (.slice (some ⟨gg, 0, none⟩) (V.n0 + 1) cap)) w.heap.size (.slice V.A0 V.n0 V.c0)) := ⟨w7, (grown_drew (World.grownBy_alloc wr _ _)).trans hgrow7, grown_set (World.grownBy.refl w7 _) _⟩
          clear hown7 hgrow7 hat7 hlt7 hg7 hgl
          go_wp2_with fail
          go_meet
          exact ⟨_, _, rfl, HB7.out.put0 _, own_set HO7.out (by omega), HT.out⟩
      case rest =>
        obtain ⟨A', c', rfl, hB', hO', ht'⟩ := hcut
        obtain ⟨bd1, hbw1⟩ := RowA.Bd.station HB2.out bare hB' hO' ht'
        have hbare1 : Bare { V with A0 := A', n0 := V.n0 + 1, c0 := c' } := bare
        obtain ⟨V1, hV1⟩ : ∃ V1, { V with A0 := A', n0 := V.n0 + 1, c0 := c' } = V1 := ⟨_, rfl⟩
        obtain ⟨L1, hL1⟩ : ∃ L1, { L with stations := L.stations ++ [nm [83] j] } = L1 := ⟨_, rfl⟩
        rw [hV1] at bd1 hbare1
        rw [hL1] at bd1
        have e1 : L1.stations = L.stations ++ [nm [83] j] := by rw [← hL1]
        have e2 : skOf L1 = { skOf L with stations := (skOf L).stations ++ [nm [83] j] } := by rw [← hL1]; rfl
        have e3 : L1.sections = L.sections := by rw [← hL1]
        have e4 : L1.links = L.links := by rw [← hL1]
        clear hV1 hL1 hB' hO' ht' HB2 k0
        have HS2 := Lib.hid (HSr.out.below hbw1 hgs)
        have HI2 := Lib.hid (HIr.out.below (hbw1.mono (by omega)))
        have HW2 := Lib.hid (HWr.out.trans (hbw1.mono (by omega)))
        clear HSr HIr HWr hbw1
        have HB2 := Lib.hid bd1
        have hgc := bd1.blk.lt
        clear bd1
        go_wp2_with fail
        refine (next_any gs A l c isrc B 2 wc HS2.out hisrc hl HI2.out hgB (by decide) (by decide)).mono ?_
        rintro e w3 ⟨r1, i3, ra, rb, rfl, hi3, hS3', hg3⟩
        obtain ⟨k1, hk1⟩ : ∃ k1 : Nat, (1 : Int) + r1 = k1 := ⟨(1 + r1).toNat, by omega⟩
        have hk12 : k1 = 1 ∨ k1 = 2 := by omega
        have hz3 := hg3.size
        have hb3 := HB2.out.grown hg3 (fun b hb => by injection hb with hb; omega)
        have HB3 := Lib.hid (RowA.Bd.raise hb3 hb3.tz (Nat.le_refl _))
        have HI3 := Lib.hid (HI2.out.below (below_only (Below.refl _ _) hg3 (by omega) hgB))
        have HS3 := Lib.hid hS3'
        have HW3 := Lib.hid (below_only (B := gs) HW2.out hg3 (by omega) (Nat.le_refl _))
        clear hS3' hg3 HB2 HI2 HS2 HW2 hb3
        go_upto_region 9 with fail
        obtain ⟨R, hR⟩ : ∃ R, addLoop (nm [84] j) j k1 (skOf L1) [] = R := ⟨_, rfl⟩
        have HR := Lib.hid hR
        have HN1 : Hid (Nums L1) := by rw [Hid]; intro s hs; rw [e3] at hs; exact HNum.out s hs
        have hq : L1.sections.length ≤ 2 * j := by rw [e3]; exact few
        have htop0 : w.heap.size < w3.heap.size := by omega
        clear hR
        go_loopw [6, 7, 8] (fun t k _ wr => ∃ (kk nn cc i4 : Nat) (At : Option Addr) (tl : List Int) (L2 : Lay) (V2 : V6), k = .int .i64 kk ∧ t = .slice At nn cc ∧ Two wr w.heap.size w3.heap.size j (nm [84] j) kk At nn cc tl L2 TS V2 [] R (2 * j + 2) ∧ Bare V2 ∧ L2.stations = L1.stations ∧ L2.links = L1.links ∧ i4 ≤ l ∧ Src wr gs A l c i4 ∧ Ints wr B A l ∧ Below gs w wr ∧ w3.heap.size ≤ wr.heap.size) (fun _ k _ _ => (intOf k).toNat)
        case atStart => exact ⟨k1, 0, 0, i3, none, [], L1, V1, rfl, rfl, ⟨⟨_, _, HB3.out⟩, Own.nil _ _, HR.out, HN1.out, by omega, by omega, by omega⟩, hbare1, rfl, rfl, hi3, HS3.out, HI3.out, HW3.out, Nat.le_refl _⟩
        case round =>
          obtain ⟨kk, nn, cc, i4, At, tl, L2, V2, rfl, rfl, htwo, hbare2, f1, f2, hi4, hs4, hI4, hW4, hz4⟩ := hrel
          clear HB3 HS3 HI3 HW3
          obtain ⟨⟨ptop2, TL2, bd2⟩, own2, loop2, num2, few2, nk2, pos2⟩ := htwo
          have HB4 := Lib.hid bd2
          have HO4 := Lib.hid own2
          have HL4 := Lib.hid loop2
          have HNu4 := Lib.hid num2
          have HS4 := Lib.hid hs4
          have HI4 := Lib.hid hI4
          have HW4 := Lib.hid hW4
          have hg4 := bd2.blk.lt
          have hsz4 := hs4.lt
          clear bd2 own2 loop2 num2 hs4 hI4 hW4
          by_cases hk0 : 0 < kk
          · obtain ⟨m, rfl⟩ : ∃ m, kk = m + 1 := ⟨kk - 1, by omega⟩
            have hm0 : (0 : Int) < ((m + 1 : Nat) : Int) := by omega
            go_wp2_with fail
            refine (named_any [84] j _ (by omega) (by omega) (by decide)).mono ?_
            rintro e wq ⟨rfl, rfl⟩
            go_wp2_with fail
            refine (named_any (nm [84] j) ((m : Int) + 1) _ (by omega) (by omega) (by simp [nm])).mono ?_
            rintro e wq ⟨rfl, rfl⟩
            go_wp2_with fail
            refine (section_any (nm (nm [84] j) ((m : Int) + 1)) j gs A l c i4 B wr HS4.out hi4 hl HI4.out hgB ⟨by omega, by omega⟩).mono ?_
            rintro e ws ⟨x, i5, hxn, hxs, hxnum, hxlen, rfl, hi5, hS5, hg5⟩
            have hz5 := hg5.size
            have hb5 := HB4.out.grown hg5 (fun b hb => by injection hb with hb; omega)
            have ho5 : Own iR ws w3.heap.size (.slice At nn cc) nn tl := HO4.out.grown hg5 (by
              cases hv : (Value.slice At nn cc).ownBlock with
              | none => exact .inl rfl
              | some b => exact .inr (fun e => by have := (HO4.out.2.lt b hv).1; injection e; omega))
            obtain ⟨wx, hwx⟩ : ∃ wx, ws.alloc (.cells #[.string (str (nm (nm [84] j) ((m : Int) + 1))), .int .i64 (x.len + 2), .int .i64 x.lim, .int .i64 x.grade, .int .i64 j] 45) = wx := ⟨_, rfl⟩
            have hbx : Below ws.heap.size ws wx := by rw [← hwx]; exact (Below.refl _ _).alloc (Nat.le_refl _) _
            have hzx : wx.heap.size = ws.heap.size + 1 := by rw [← hwx]; simp
            have hx : wx.heap[ws.heap.size]? = some (.cells #[.string (str (nm (nm [84] j) ((m : Int) + 1))), .int .i64 (x.len + 2), .int .i64 x.lim, .int .i64 x.grade, .int .i64 j] 45) := by rw [← hwx]; exact heap_alloc_new _ _
            have d0 : wx.cell? ⟨ws.heap.size, 0, none⟩ = some (.string (str (nm (nm [84] j) ((m : Int) + 1)))) := by simp [World.cell?, hx]
            have d1 : wx.cell? ⟨ws.heap.size, 1, none⟩ = some (.int .i64 (x.len + 2)) := by simp [World.cell?, hx]
            have d2 : wx.cell? ⟨ws.heap.size, 2, none⟩ = some (.int .i64 x.lim) := by simp [World.cell?, hx]
            have d3 : wx.cell? ⟨ws.heap.size, 3, none⟩ = some (.int .i64 x.grade) := by simp [World.cell?, hx]
            have d4 : wx.cell? ⟨ws.heap.size, 4, none⟩ = some (.int .i64 j) := by simp [World.cell?, hx]
            have hg0x : ws.grownBy wx none := ⟨hbx.os, hbx.tape, hbx.output, hbx.size, fun k hk _ => hbx.block k hk⟩
            have HB6 := Lib.hid (hb5.grown hg0x (fun b hb => by cases hb))
            have HO6 := Lib.hid (ho5.below hbx (Nat.le_refl _))
            have HS6 := Lib.hid (hS5.below hbx hS5.lt)
            have HI6 := Lib.hid (HI4.out.below ((below_only (Below.refl _ _) hg5 (by omega) hgB).trans (hbx.mono (by omega))))
            have HW6 := Lib.hid ((below_only (B := gs) HW4.out hg5 (by omega) (Nat.le_refl _)).trans (hbx.mono (by omega)))
            have HX := Lib.hid hwx
            have hxl : -9223372036854775808 ≤ x.len + 2 ∧ x.len + 2 ≤ 9223372036854775807 := by have := hxnum.1; omega
            clear hwx hbx hx hb5 ho5 hS5 hg5 hg0x HB4 HO4 HS4 HI4 HW4
            go_upto_region 13 with fail
            rw [HX.out]
            clear HX
            have hsl : L2.sections.length = V2.n2 := HB6.out.sec.1
            have hbase : w.heap.size + 1 ≤ wx.heap.size := by omega
            go_wp2_with fail
            refine (add_sec w.heap.size (w.heap.size + 1) V2.n2 V2.c2 V2.A2 _ _ _ _ _ L2.sections ⟨nm (nm [84] j) ((m : Int) + 1), x.len + 2, x.lim, x.grade, j⟩ wx HB6.out.blk HB6.out.sec (by omega) hbase (by omega)).mono ?_
            rintro e wy ⟨A'', c'', rfl, hBy, hOy, hty⟩
            obtain ⟨bdy, hky, hby⟩ := HB6.out.add hBy hOy hty
            have ho7 := hky _ _ _ _ htop0 HO6.out
            have HL7 : Hid (addLoop (nm [84] j) j m (skOf { L2 with sections := L2.sections ++ [⟨nm (nm [84] j) ((m : Int) + 1), x.len + 2, x.lim, x.grade, j⟩] }) (tl ++ [(V2.n2 : Int)]) = R) := by
              rw [Hid, ← hsl]; exact loop_step HL4.out rfl rfl
            have HNu7 : Hid (Nums { L2 with sections := L2.sections ++ [⟨nm (nm [84] j) ((m : Int) + 1), x.len + 2, x.lim, x.grade, j⟩] }) := HNu4.out.add (by
              obtain ⟨q1, q2, q3, q4, q5, q6⟩ := hxnum
              exact ⟨by show 1 ≤ x.len + 2; omega, by show x.len + 2 ≤ 400; omega, q3, q4, q5, q6⟩)
            have HB7 := Lib.hid bdy
            have HO7 := Lib.hid ho7
            have HS7 := Lib.hid (HS6.out.below hby (by omega))
            have HI7 := Lib.hid (HI6.out.below (hby.mono (by omega)))
            have HW7 := Lib.hid (HW6.out.trans (hby.mono (by omega)))
            have hzy := hby.size
            clear hBy hOy hty bdy hky hby ho7 HL4 HNu4 HB6 HO6 HS6 HI6 HW6 d0 d1 d2 d3 d4
            have hn63 : nn + 1 ≤ maxLen := by unfold maxLen; omega
            have hbyt : (nn + 1) * 8 ≤ 140737488355328 := by omega
            have hgsy := HS7.out.lt
            go_wp2_with (at_builtin; refine wpList_append_own _ rfl _ _ 31 rfl w3.heap.size 3 ihI _ 1 8 Tryd.underlying31 hihI hI0 hI1 hI2 rfl (by omega) (.slice At nn cc) nn (iR.cs tl) rfl (HO7.out.2.alloc _) ⟨wy.heap.size, 0, none⟩ 1 1 [.int .i64 V2.n2] rfl rfl (cell_one_new _ _ _) (one_cell _ rfl) hn63 hbyt (by simp; omega) ?_)
            intro v wz hownz hgrowz _
            have hO8 := Own.push (R := iR) (a := (V2.n2 : Int)) HO7.out.1 hownz
            obtain ⟨At', cc', rfl, _⟩ := hO8.form
            have HO8 := Lib.hid hO8
            have hgl : ∀ b, (Value.slice At nn cc).ownBlock = some b → w3.heap.size ≤ b := fun b hb => (HO7.out.2.lt b hb).1
            have hgz : wy.grownBy wz (Value.slice At nn cc).ownBlock := (World.grownBy_alloc wy _ _).trans hgrowz
            have HB8 := Lib.hid (HB7.out.grown hgz (fun b hb => .inr ⟨_, _, _, hb, HO7.out⟩))
            have hbz : Below w.heap.size wy wz := (Below.refl _ _).grown hgz (by omega) (fun b hb => by have := hgl b hb; omega)
            have HS8 := Lib.hid (HS7.out.below hbz hgs)
            have HI8 := Lib.hid (HI7.out.below (hbz.mono (by omega)))
            have HW8 := Lib.hid (HW7.out.trans (hbz.mono (by omega)))
            have hzz := hbz.size
            clear hO8 hgl hgz hownz hgrowz hbz HO7 HB7 HS7 HI7 HW7
            go_wp2_with fail
            go_roundw
            case rel => exact ⟨m, nn + 1, cc', i5, At', _, _, _, by go_num, rfl, ⟨⟨_, _, HB8.out⟩, HO8.out, HL7.out, HNu7.out, by simp; omega, by omega, by omega⟩, hbare2, f1, f2, hi5, HS8.out, HI8.out, HW8.out, by omega⟩
            case measure => simp [intOf]
          · obtain rfl : kk = 0 := by omega
            have hz0' : (((0 : Nat) : Int)) = 0 := rfl
            have k4 := HB4.out.blk.c4
            have htl4 : TL2.length = V2.n4 := HB4.out.tr.1
            have hrl4 : TL2.length = TS.length := HB4.out.rl
            go_upto_region 14 with fail
            have hn63 : V2.n4 + 1 ≤ maxLen := by unfold maxLen; omega
            have hby : (V2.n4 + 1) * 24 ≤ 140737488355328 := by omega
            go_wp2_with (at_builtin; refine wpList_append_own _ rfl _ _ 53 rfl (w.heap.size + 1) 31 ihT _ 1 24 Tryd.underlying53 hihT hT0 hT1 hT2 rfl (by omega) (.slice V2.A4 V2.n4 V2.c4) V2.n4 (tR.cs TL2) rfl (HB4.out.tr.2.alloc _) ⟨wr.heap.size, 0, none⟩ 1 1 [.slice At nn cc] rfl rfl (cell_one_new _ _ _) (one_cell _ rfl) hn63 hby (by simp; omega) ?_)
            intro v w7 hown7 hgrow7 _
            have hO7 := Own.push (R := tR) (a := (At, nn, cc)) HB4.out.tr.1 hown7
            obtain ⟨A', c', rfl, _⟩ := hO7.form
            have HO7 := Lib.hid hO7
            have hgl : ∀ b, (Value.slice V2.A4 V2.n4 V2.c4).ownBlock = some b → w.heap.size + 1 ≤ b := fun b hb => (HB4.out.tr.2.lt b hb).1
            have hg7 : w7.heap[w.heap.size]? = wr.heap[w.heap.size]? := (hgrow7.block w.heap.size (by simp; omega) (fun e => by have := hgl _ e.symm; omega)).trans (((Below.refl wr.heap.size wr).alloc (Nat.le_refl _) _).block w.heap.size (by omega))
            have HB7 := Lib.hid (HB4.out.blk.same hg7)
            have k7 := HB7.out.c4
            have f7 := HB7.out.f 4
            have HT : Hid (Turned wr (w7.setCell ⟨w.heap.size, 4, none⟩ (.slice A' (V2.n4 + 1) c')) w.heap.size (.slice V2.A4 V2.n4 V2.c4)) := ⟨w7, (World.grownBy_alloc wr _ _).trans hgrow7, grown_set (World.grownBy.refl w7 _) _⟩
            clear hO7 hown7 hgrow7 hg7 hgl
            obtain ⟨bd5, hbw5⟩ := RowA.Bd.track HB4.out hbare2 HO4.out (HB7.out.put4 _) (own_set HO7.out (by omega)) HT.out
            have HOL : tl.length = nn := HO4.out.1
            have hL := HL4.out
            simp only [addLoop] at hL
            have hsk5 : stationsOf 0 (ts ++ [k1]) LayG.start = ⟨skOf L2, TS ++ [tl], []⟩ := by
              rw [stations_snoc, HSk.out, len]
              unfold addStation
              simp only [Int.zero_add]
              have e5 : { skOf L with stations := (skOf L).stations ++ [nm [83] (j : Int)] } = skOf L1 := e2.symm
              rw [e5, HR.out, ← hL]
            have HSk5 := Lib.hid hsk5
            have HB5 := Lib.hid bd5
            have HS5 := Lib.hid (HS4.out.below hbw5 hgs)
            have HI5 := Lib.hid (HI4.out.below (hbw5.mono (by omega)))
            have HW5 := Lib.hid (HW4.out.trans (hbw5.mono (by omega)))
            clear HB7 HO7 HT bd5 hbw5 hL hsk5 HB4 HO4 HL4 HS4 HI4 HW4 HSk k4
            go_wp2_with fail
            go_roundw
            case rel => exact ⟨j + 1, i4, ts ++ [k1], L2, TS ++ [tl], { V2 with A4 := A', n4 := V2.n4 + 1, c4 := c' }, by omega, by go_num, hi4, ⟨hbare2, ⟨_, _, _, HB5.out⟩, by simp [len], by
              intro y hy
              simp only [List.mem_append, List.mem_singleton] at hy
              rcases hy with hy | rfl
              · exact cnt y hy
              · exact hk12, HSk5.out, HNu4.out, by omega, by rw [f1, e1]; simp [stn], by rw [f2, e4]; exact lnk, by simp [trk], by
              intro y hy
              simp only [List.mem_append, List.mem_singleton] at hy
              rcases hy with hy | rfl
              · exact wid y hy
              · have := HOL; omega⟩, HS5.out, HI5.out, HW5.out⟩
            case measure => simp [intOf]; omega
    · obtain rfl : j = n := by omega
      obtain ⟨bare, ⟨top, ptop, TL, bd⟩, len, cnt, sk, num, few, stn, lnk, trk, wid⟩ := hone
      have HB2 := Lib.hid bd
      have HSr := Lib.hid hsr
      have HIr := Lib.hid hir
      have HWr := Lib.hid hbr
      have HNum := Lib.hid num
      have HSk := Lib.hid sk
      have hpt0 : L.points = [] := by
        have h1 := bd.pt.1
        rw [bare.2.1] at h1
        exact List.length_eq_zero_iff.1 h1
      have HP0 : Hid (L.points.length ≤ 2 * 0) := by rw [Hid, hpt0]; simp
      have HL0 : Hid (L.links.length ≤ 10 * 0) := by rw [Hid, lnk]; simp
      have HF0 : Hid (L.sections.length ≤ 6 + 2 * 0) := by rw [Hid]; omega
      clear bd hsr hir hbr num sk hpt0 lnk
      go_upto_region 16 with fail
      go_loopw [9, 10, 11, 12] (fun i _ _ _ wr => ∃ (p isrc : Nat) (ms : List Nat) (L2 : Lay) (V2 : V6), p + 1 ≤ j ∧ i = .int .i64 p ∧ isrc ≤ l ∧ Thr wr w.heap.size p ts ms L2 TS V2 ∧ Src wr gs A l c isrc ∧ Ints wr B A l ∧ Below gs w wr) (fun i _ _ _ _ => j - (intOf i).toNat)
      case atStart => exact ⟨0, isrc, [], L, V, by omega, rfl, hisrc, ⟨⟨_, _, _, _, HB2.out, by simp⟩, rfl, by simp, ⟨_, HSk.out⟩, HNum.out, HF0.out, HP0.out, HL0.out⟩, HSr.out, HIr.out, HWr.out⟩
      case round =>
        obtain ⟨p, isrc2, ms, L2, V2, hp, rfl, hisrc2, hthr, hsr, hir, hbr⟩ := hrel
        clear HB2 HSr HIr HWr HNum HSk HP0 HL0 HF0
        obtain ⟨⟨top2, ptop2, TL2, M2, bd2, hM2⟩, len2, cnt2, ⟨bt, sk2⟩, num2, few2, fewp2, fewl2⟩ := hthr
        have HB2 := Lib.hid bd2
        have HSr := Lib.hid hsr
        have HIr := Lib.hid hir
        have HWr := Lib.hid hbr
        have HNum := Lib.hid num2
        have HSk := Lib.hid sk2
        have hgr := bd2.blk.lt
        have hwz := hbr.size
        clear bd2 hsr hir hbr num2 sk2
        by_cases hlt : p + 1 < j
        · have hpj : (p : Int) + 1 < (j : Int) := by omega
          go_wp2_with fail
          refine (next_any gs A l c isrc2 B 2 wr HSr.out hisrc2 hl HIr.out hgB (by decide) (by decide)).mono ?_
          rintro e w3 ⟨r1, i3, ra, rb, rfl, hi3, hS3', hg3⟩
          obtain ⟨k1, hk1⟩ : ∃ k1 : Nat, (1 : Int) + r1 = k1 := ⟨(1 + r1).toNat, by omega⟩
          have hk12 : k1 = 1 ∨ k1 = 2 := by omega
          have hz3 := hg3.size
          have hb3 := HB2.out.grown hg3 (fun b hb => by injection hb with hb; omega)
          have HB3 := Lib.hid (RowA.Bd.raise hb3 hb3.tz (Nat.le_refl _))
          have HI3 := Lib.hid (HIr.out.below (below_only (Below.refl _ _) hg3 (by omega) hgB))
          have HS3 := Lib.hid hS3'
          have HW3 := Lib.hid (below_only (B := gs) HWr.out hg3 (by omega) (Nat.le_refl _))
          clear hS3' hg3 HB2 HIr HSr HWr hb3
          go_upto_region 20 with fail
          obtain ⟨R, hR⟩ : ∃ R, addLoop (nm [76] p) (-1) k1 (skOf L2) [] = R := ⟨_, rfl⟩
          have HR := Lib.hid hR
          have htop0 : w.heap.size < w3.heap.size := by omega
          clear hR
          go_loopw [10, 11] (fun t k wr => ∃ (kk nn cc i4 : Nat) (At : Option Addr) (tl : List Int) (L3 : Lay) (V3 : V6) (M3 : List (Option Addr × Nat × Nat)), k = .int .i64 kk ∧ t = .slice At nn cc ∧ Two wr w.heap.size w3.heap.size (-1) (nm [76] p) kk At nn cc tl L3 TS V3 M3 R (8 + 2 * p) ∧ M3.length ≤ p ∧ L3.points = L2.points ∧ L3.links = L2.links ∧ i4 ≤ l ∧ Src wr gs A l c i4 ∧ Ints wr B A l ∧ Below gs w wr ∧ w3.heap.size ≤ wr.heap.size) (fun _ k _ => (intOf k).toNat)
          case atStart => exact ⟨k1, 0, 0, i3, none, [], L2, V2, M2, rfl, rfl, ⟨⟨_, _, HB3.out⟩, Own.nil _ _, HR.out, HNum.out, by omega, by omega, by omega⟩, hM2, rfl, rfl, hi3, HS3.out, HI3.out, HW3.out, Nat.le_refl _⟩
          case round =>
            obtain ⟨kk, nn, cc, i4, At, tl, L3, V3, M3, rfl, rfl, htwo, hM3, f1, f2, hi4, hs4, hI4, hW4, hz4⟩ := hrel
            clear HB3 HS3 HI3 HW3 HNum
            obtain ⟨⟨ptop2, TL2, bd2⟩, own2, loop2, num2, few2, nk2, pos2⟩ := htwo
            have HB4 := Lib.hid bd2
            have HO4 := Lib.hid own2
            have HL4 := Lib.hid loop2
            have HNu4 := Lib.hid num2
            have HS4 := Lib.hid hs4
            have HI4 := Lib.hid hI4
            have HW4 := Lib.hid hW4
            have hg4 := bd2.blk.lt
            have hsz4 := hs4.lt
            clear bd2 own2 loop2 num2 hs4 hI4 hW4
            by_cases hk0 : 0 < kk
            · obtain ⟨m, rfl⟩ : ∃ m, kk = m + 1 := ⟨kk - 1, by omega⟩
              have hm0 : (0 : Int) < ((m + 1 : Nat) : Int) := by omega
              go_wp2_with fail
              refine (named_any [76] p _ (by omega) (by omega) (by decide)).mono ?_
              rintro e wq ⟨rfl, rfl⟩
              go_wp2_with fail
              refine (named_any (nm [76] p) ((m : Int) + 1) _ (by omega) (by omega) (by simp [nm])).mono ?_
              rintro e wq ⟨rfl, rfl⟩
              go_wp2_with fail
              refine (section_any (nm (nm [76] p) ((m : Int) + 1)) (-1) gs A l c i4 B wr HS4.out hi4 hl HI4.out hgB ⟨by omega, by omega⟩).mono ?_
              rintro e ws ⟨x, i5, hxn, hxs, hxnum, hxlen, rfl, hi5, hS5, hg5⟩
              have hz5 := hg5.size
              have hb5 := HB4.out.grown hg5 (fun b hb => by injection hb with hb; omega)
              have ho5 : Own iR ws w3.heap.size (.slice At nn cc) nn tl := HO4.out.grown hg5 (by
                cases hv : (Value.slice At nn cc).ownBlock with
                | none => exact .inl rfl
                | some b => exact .inr (fun e => by have := (HO4.out.2.lt b hv).1; injection e; omega))
              have HB6 := Lib.hid hb5
              have HO6 := Lib.hid ho5
              have HS6 := Lib.hid hS5
              have HI6 := Lib.hid (HI4.out.below (below_only (Below.refl _ _) hg5 (by omega) hgB))
              have HW6 := Lib.hid (below_only (B := gs) HW4.out hg5 (by omega) (Nat.le_refl _))
              clear hb5 ho5 hS5 hg5 HB4 HO4 HS4 HI4 HW4
              have hsl : L3.sections.length = V3.n2 := HB6.out.sec.1
              have hbase : w.heap.size + 1 ≤ ws.heap.size := by omega
              go_wp2_with fail
              refine (add_sec w.heap.size (w.heap.size + 1) V3.n2 V3.c2 V3.A2 _ _ _ _ _ L3.sections ⟨nm (nm [76] p) ((m : Int) + 1), x.len, x.lim, x.grade, -1⟩ ws HB6.out.blk HB6.out.sec (by omega) hbase (by omega)).mono ?_
              rintro e wy ⟨A'', c'', rfl, hBy, hOy, hty⟩
              obtain ⟨bdy, hky, hby⟩ := HB6.out.add hBy hOy hty
              have ho7 := hky _ _ _ _ htop0 HO6.out
              have HL7 : Hid (addLoop (nm [76] p) (-1) m (skOf { L3 with sections := L3.sections ++ [⟨nm (nm [76] p) ((m : Int) + 1), x.len, x.lim, x.grade, -1⟩] }) (tl ++ [(V3.n2 : Int)]) = R) := by
                rw [Hid, ← hsl]; exact loop_step HL4.out rfl rfl
              have HNu7 : Hid (Nums { L3 with sections := L3.sections ++ [⟨nm (nm [76] p) ((m : Int) + 1), x.len, x.lim, x.grade, -1⟩] }) := HNu4.out.add hxnum
              have HB7 := Lib.hid bdy
              have HO7 := Lib.hid ho7
              have HS7 := Lib.hid (HS6.out.below hby (by omega))
              have HI7 := Lib.hid (HI6.out.below (hby.mono (by omega)))
              have HW7 := Lib.hid (HW6.out.trans (hby.mono (by omega)))
              have hzy := hby.size
              clear hBy hOy hty bdy hky hby ho7 HL4 HNu4 HB6 HO6 HS6 HI6 HW6
              have hn63 : nn + 1 ≤ maxLen := by unfold maxLen; omega
              have hbyt : (nn + 1) * 8 ≤ 140737488355328 := by omega
              have hgsy := HS7.out.lt
              go_wp2_with (at_builtin; refine wpList_append_own _ rfl _ _ 31 rfl w3.heap.size 3 ihI _ 1 8 Tryd.underlying31 hihI hI0 hI1 hI2 rfl (by omega) (.slice At nn cc) nn (iR.cs tl) rfl (HO7.out.2.alloc _) ⟨wy.heap.size, 0, none⟩ 1 1 [.int .i64 V3.n2] rfl rfl (cell_one_new _ _ _) (one_cell _ rfl) hn63 hbyt (by simp; omega) ?_)
              intro v wz hownz hgrowz _
              have hO8 := Own.push (R := iR) (a := (V3.n2 : Int)) HO7.out.1 hownz
              obtain ⟨At', cc', rfl, _⟩ := hO8.form
              have HO8 := Lib.hid hO8
              have hgl : ∀ b, (Value.slice At nn cc).ownBlock = some b → w3.heap.size ≤ b := fun b hb => (HO7.out.2.lt b hb).1
              have hgz : wy.grownBy wz (Value.slice At nn cc).ownBlock := (World.grownBy_alloc wy _ _).trans hgrowz
              have HB8 := Lib.hid (HB7.out.grown hgz (fun b hb => .inr ⟨_, _, _, hb, HO7.out⟩))
              have hbz : Below w.heap.size wy wz := (Below.refl _ _).grown hgz (by omega) (fun b hb => by have := hgl b hb; omega)
              have HS8 := Lib.hid (HS7.out.below hbz hgs)
              have HI8 := Lib.hid (HI7.out.below (hbz.mono (by omega)))
              have HW8 := Lib.hid (HW7.out.trans (hbz.mono (by omega)))
              have hzz := hbz.size
              clear hO8 hgl hgz hownz hgrowz hbz HO7 HB7 HS7 HI7 HW7
              go_wp2_with fail
              go_roundw
              case rel => exact ⟨m, nn + 1, cc', i5, At', _, _, _, _, by go_num, rfl, ⟨⟨_, _, HB8.out⟩, HO8.out, HL7.out, HNu7.out, by simp; omega, by omega, by omega⟩, hM3, f1, f2, hi5, HS8.out, HI8.out, HW8.out, by omega⟩
              case measure => simp [intOf]
            · have hkk : kk = 0 := by omega
              have hkz : (kk : Int) = 0 := by omega
              have hL4 := HL4.out
              rw [hkk] at hL4
              have HOL : tl.length = nn := HO4.out.1
              have f2l : L3.links.length = L2.links.length := by rw [f2]
              have f1l : L3.points.length = L2.points.length := by rw [f1]
              have hR0 : (skOf L3, tl) = R := hL4
              have HRx := Lib.hid hR0
              clear HL4 hR0 hL4
              go_upto_region 24 with fail
              clear hkz hkk
              go_loopw [12] (fun qv wr => ∃ (q : Nat) (L4 : Lay) (V4 : V6), q + 1 ≤ nn ∧ qv = .int .i64 q ∧ Bd wr w.heap.size w3.heap.size ptop2 L4 TL2 TS V4 M3 ∧ Own iR wr w3.heap.size (.slice At nn cc) nn tl ∧ Hid (chain (tl.drop q) (skOf L4) = chain (tl.drop 0) (skOf L3)) ∧ L4.sections = L3.sections ∧ L4.points = L3.points ∧ L4.links.length ≤ L3.links.length + q ∧ Src wr gs A l c i4 ∧ Ints wr B A l ∧ Below gs w wr ∧ w3.heap.size ≤ wr.heap.size) (fun qv _ => nn - (intOf qv).toNat)
              case atStart => exact ⟨0, L3, V3, by omega, rfl, HB4.out, HO4.out, rfl, rfl, rfl, by omega, HS4.out, HI4.out, HW4.out, by omega⟩
              case round =>
                obtain ⟨q, L4, V4, hq, rfl, bd5, own5, HC5, g1, g2, g3, hs5, hI5, hW5, hz5⟩ := hrel
                clear HB4 HO4 HS4 HI4 HW4
                have HB5 := Lib.hid bd5
                have HO5 := Lib.hid own5
                have HS5 := Lib.hid hs5
                have HI5 := Lib.hid hI5
                have HW5 := Lib.hid hW5
                have hg5 := bd5.blk.lt
                clear bd5 own5 hs5 hI5 hW5
                by_cases hq1 : q + 1 < nn
                · obtain ⟨ad, ta, rfl, hab, hta, d0⟩ := loadI HO5.out.rd (show q < nn by omega)
                  obtain ⟨ad', tb, ha', hab', htb, d1⟩ := loadI HO5.out.rd hq1
                  cases ha'
                  have HCS := Lib.hid ((chain_step (K := skOf L4) hta htb).symm.trans HC5.out)
                  have hqn : (q : Int) + 1 < (nn : Int) := by omega
                  have hqn2 : (q : Int) < (nn : Int) := by omega
                  have hq0 : (0 : Int) ≤ (q : Int) := by omega
                  have hq01 : (0 : Int) ≤ (q : Int) + 1 := by omega
                  have hqt : ((q : Int) + 1).toNat = q + 1 := by omega
                  have hqw : IntKind.i64.wrap ((q : Int) + 1) = (q : Int) + 1 := IntWalk.i64_in _ (by omega)
                  have hll : L4.links.length = V4.n3 := HB5.out.lnk.1
                  have hgd : wr.grownBy wr.drew none := grown_drew (World.grownBy.refl wr none)
                  have HB6 := Lib.hid (HB5.out.grown hgd (fun b hb => by cases hb))
                  have hO6 : Own iR wr.drew w3.heap.size (.slice (some ad) nn cc) nn tl := HO5.out.grown hgd (by
                    cases (Value.slice (some ad) nn cc).ownBlock with
                    | none => exact .inl rfl
                    | some b => exact .inr (by simp))
                  have HO6 := Lib.hid hO6
                  have d1b : wr.cell? ⟨ad.block, ad.off + (q + 1), none⟩ = some (.int .i64 tb) := by have h9 := d1; simpa [Addr.add] using h9
                  clear hta htb hgd hO6
                  go_upto_region 26 with fail
                  go_still_tail 10, (by kernel_rfl)
                  change wpList _ _ _ _ _ wr.drew
                  go_wp2_with fail
                  refine (add_link w.heap.size (w.heap.size + 1) V4.n3 V4.c3 V4.A3 _ _ _ _ _ L4.links ta tb (-1) 0 wr.drew HB6.out.blk HB6.out.lnk (by omega) (by show w.heap.size + 1 ≤ wr.heap.size; omega) (by omega)).mono ?_
                  rintro e wy ⟨A7, c7, rfl, hB7, hO7, ht7⟩
                  obtain ⟨bd7, hk7, hb7⟩ := HB6.out.link hB7 hO7 ht7
                  have HB7 := Lib.hid bd7
                  have HO7 := Lib.hid (hk7 _ _ _ _ (by omega) HO6.out)
                  have hdw : Below w.heap.size wr wy := (Below.refl w.heap.size wr).drew.trans hb7
                  have HS7 := Lib.hid (HS5.out.below hdw hgs)
                  have HI7 := Lib.hid (HI5.out.below (hdw.mono (by omega)))
                  have HW7 := Lib.hid (HW5.out.trans (hdw.mono (by omega)))
                  have hz7 : w3.heap.size ≤ wy.heap.size := by have := hdw.size; omega
                  clear hB7 hO7 ht7 bd7 hk7 hb7 hdw HB5 HO5 HS5 HI5 HW5 HB6 HO6 HC5 d0 d1 d1b
                  go_wp2_with fail
                  go_roundw
                  case rel => exact ⟨q + 1, { L4 with links := L4.links ++ [⟨ta, 1, tb, 0, -1, 0⟩] }, { V4 with A3 := A7, n3 := V4.n3 + 1, c3 := c7 }, by omega, by go_num, HB7.out, HO7.out, HCS.out, g1, g2, by simp; omega, HS7.out, HI7.out, HW7.out, hz7⟩
                  case measure => simp [intOf]; omega
                · obtain rfl : nn = q + 1 := by omega
                  have hC := HC5.out
                  rw [chain_end (by omega)] at hC
                  have HC6 : Hid (skOf L4 = chain tl (skOf L3)) := hC
                  clear hC HC5
                  have hpj2 : p < TS.length := by omega
                  have hpj3 : p + 1 < TS.length := by omega
                  have t0 : TS[p]? = some TS[p] := List.getElem?_eq_getElem hpj2
                  have t1 : TS[p + 1]? = some TS[p + 1] := List.getElem?_eq_getElem hpj3
                  have wd0 := wid _ (List.getElem_mem hpj2)
                  have wd1 := wid _ (List.getElem_mem hpj3)
                  generalize TS[p] = T0 at *
                  generalize TS[p + 1] = T1 at *
                  obtain ⟨bt0, x0, hA0, hx0, e0⟩ := rowI HO5.out (show 0 < q + 1 by omega)
                  have htl4 : TL2.length = V4.n4 := HB5.out.tr.1
                  have hrl4 : TL2.length = TS.length := HB5.out.rl
                  obtain ⟨bT, a0, hAT, ha0, eT⟩ := rowT HB5.out.tr (show p < V4.n4 by omega)
                  obtain ⟨oa0, _⟩ := HB5.out.rows p a0 T0 ha0 t0
                  obtain ⟨aA, an, ac⟩ := a0
                  simp only at oa0 eT
                  obtain rfl : T0.length = an := oa0.1
                  have k4 := HB5.out.blk.c4
                  have hgd : wr.grownBy wr.drew none := grown_drew (World.grownBy.refl wr none)
                  have hdr : ∀ {α : Type} {R : Rec α} {base m : Nat} {v : Value} {k : List α}, Own R wr base v m k → Own R wr.drew base v m k := fun ho => ho.grown hgd (by
                    rename_i v _
                    cases v.ownBlock with
                    | none => exact .inl rfl
                    | some b => exact .inr (by simp))
                  have HB6 := Lib.hid (HB5.out.grown hgd (fun b hb => by cases hb))
                  have HO6 := Lib.hid (hdr HO5.out)
                  have HA6 := Lib.hid (hdr oa0)
                  have hpn : (p : Int) < (V4.n4 : Int) := by omega
                  have hp0 : (0 : Int) ≤ (p : Int) := by omega
                  have hq10 : (0 : Int) < ((q + 1 : Nat) : Int) := by omega
                  have hq10' : (0 : Int) < (q : Int) + 1 := by omega
                  have hll : L4.links.length ≤ 100 := by omega
                  have hpl : L4.points.length ≤ 100 := by rw [g2]; omega
                  subst hA0
                  rw [hAT] at k4
                  clear oa0 hgd hdr ha0
                  go_upto_region 27 with fail
                  go_still_tail 11, (by kernel_rfl)
                  change wpList _ _ _ _ _ wr.drew
                  go_wp2_with fail
                  refine (fan_any w.heap.size w3.heap.size ptop2 L4 TL2 M3 TS V4 x0 T0 aA T0.length ac (w.heap.size + 1) false wr.drew HB6.out HA6.out (by omega) (by omega) (by omega) (by omega)).mono ?_
                  rintro e wy ⟨rfl, L5, V5, bd5, sk5, s5, p5, l5, ki5, bl5⟩
                  have HB7 := Lib.hid bd5
                  have HO7 := Lib.hid (ki5 _ _ _ _ (by omega) HO6.out)
                  have hdw : Below w.heap.size wr wy := (Below.refl w.heap.size wr).drew.trans bl5
                  have HS7 := Lib.hid (HS5.out.below hdw hgs)
                  have HI7 := Lib.hid (HI5.out.below (hdw.mono (by omega)))
                  have HW7 := Lib.hid (HW5.out.trans (hdw.mono (by omega)))
                  have HK5 := Lib.hid sk5
                  have hz7 : w3.heap.size ≤ wy.heap.size := by have := hdw.size; omega
                  obtain ⟨bt1, x1, hA1, hx1, e1⟩ := rowI HO7.out (show q < q + 1 by omega)
                  cases hA1
                  have htl5 : TL2.length = V5.n4 := bd5.tr.1
                  obtain ⟨bT1, a1, hAT1, ha1, eT1⟩ := rowT bd5.tr (show p + 1 < V5.n4 by omega)
                  obtain ⟨oa1, _⟩ := bd5.rows (p + 1) a1 T1 ha1 t1
                  obtain ⟨bA, bn, bc⟩ := a1
                  simp only at oa1 eT1
                  obtain rfl : T1.length = bn := oa1.1
                  have k5 := bd5.blk.c4
                  rw [hAT1] at k5
                  have hgd : wy.grownBy wy.drew none := grown_drew (World.grownBy.refl wy none)
                  have hdr : ∀ {α : Type} {R : Rec α} {base m : Nat} {v : Value} {k : List α}, Own R wy base v m k → Own R wy.drew base v m k := fun ho => ho.grown hgd (by
                    rename_i v _
                    cases v.ownBlock with
                    | none => exact .inl rfl
                    | some b => exact .inr (by simp))
                  have HB8 := Lib.hid (HB7.out.grown hgd (fun b hb => by cases hb))
                  have HO8 := Lib.hid (hdr HO7.out)
                  have HA8 := Lib.hid (hdr oa1)
                  have hpn1 : (p : Int) + 1 < (V5.n4 : Int) := by omega
                  have hp01 : (0 : Int) ≤ (p : Int) + 1 := by omega
                  have hpw : IntKind.i64.wrap ((p : Int) + 1) = (p : Int) + 1 := IntWalk.i64_in _ (by omega)
                  have hqw : IntKind.i64.wrap (((q + 1 : Nat) : Int) - 1) = (q : Int) := by rw [show ((q + 1 : Nat) : Int) - 1 = (q : Int) by omega]; exact IntWalk.i64_in _ (by omega)
                  have hqw' : IntKind.i64.wrap ((q : Int) + 1 - 1) = (q : Int) := by rw [show (q : Int) + 1 - 1 = (q : Int) by omega]; exact IntWalk.i64_in _ (by omega)
                  have hqq : (q : Int) < (q : Int) + 1 := by omega
                  have hqw0 : IntKind.i64.wrap (q : Int) = (q : Int) := IntWalk.i64_in _ (by omega)
                  have hq0 : (0 : Int) ≤ (q : Int) := by omega
                  clear oa1 hgd hdr ha1 bd5 sk5 ki5 bl5 hdw e0 eT k4 HB5 HO5 HS5 HI5 HW5 HB6 HO6 HA6
                  go_upto_region 28 with fail
                  go_still_tail 15, (by kernel_rfl)
                  change wpList _ _ _ _ _ wy.drew
                  go_wp2_with fail
                  refine (fan_any w.heap.size w3.heap.size ptop2 L5 TL2 M3 TS V5 x1 T1 bA T1.length bc (w.heap.size + 1) true wy.drew HB8.out HA8.out (by omega) (by omega) (by omega) (by omega)).mono ?_
                  rintro e wz ⟨rfl, L6, V6', bd6, sk6, s6, p6, l6, ki6, bl6⟩
                  have HB9 := Lib.hid bd6
                  have HO9 := Lib.hid (ki6 _ _ _ _ (by omega) HO8.out)
                  have hdz : Below w.heap.size wy wz := (Below.refl w.heap.size wy).drew.trans bl6
                  have HS9 := Lib.hid (HS7.out.below hdz hgs)
                  have HI9 := Lib.hid (HI7.out.below (hdz.mono (by omega)))
                  have HW9 := Lib.hid (HW7.out.trans (hdz.mono (by omega)))
                  have hz9 : w3.heap.size ≤ wz.heap.size := by have := hdz.size; omega
                  have hg9 := bd6.blk.lt
                  have hpz9 := bd6.pz
                  have hgp9 := bd6.gp
                  have k5 := bd6.blk.c5
                  have hn5 : M3.length = V6'.n5 := bd6.bw.1
                  have HNB : Hid (betweensOf 0 (ms ++ [k1]) (stationsOf 0 ts LayG.start) = ⟨skOf L6, TS, bt ++ [tl]⟩) :=
                    between_next ms _ HSk.out len2 (HR.out.trans HRx.out.symm) HC6.out hx0 (by rw [HOL]; exact hx1) t0 t1 HK5.out sk6
                  clear bd6 sk6 ki6 bl6 hdz HB7 HO7 HS7 HI7 HW7 HB8 HO8 HA8 e1 eT1
                  have g2l : L4.points.length = L3.points.length := by rw [g2]
                  have hn63 : V6'.n5 + 1 ≤ maxLen := by unfold maxLen; omega
                  have hbyt : (V6'.n5 + 1) * 24 ≤ 140737488355328 := by omega
                  go_wp2_with (at_builtin; refine wpList_append_own _ rfl _ _ 53 rfl ptop2 31 ihT _ 1 24 Tryd.underlying53 hihT hT0 hT1 hT2 rfl (by omega) (.slice V6'.A5 V6'.n5 V6'.c5) V6'.n5 (tR.cs M3) rfl (HB9.out.bw.2.alloc _) ⟨wz.heap.size, 0, none⟩ 1 1 [.slice (some ⟨bt0, 0, none⟩) (q + 1) cc] rfl rfl (cell_one_new _ _ _) (one_cell _ rfl) hn63 hbyt (by simp; omega) ?_)
                  intro v w7 hown7 hgrow7 _
                  have hO7 := Own.push (R := tR) (a := (some ⟨bt0, 0, none⟩, q + 1, cc)) HB9.out.bw.1 hown7
                  obtain ⟨A7, c7, rfl, _⟩ := hO7.form
                  have HO7 := Lib.hid hO7
                  have hgl : ∀ b, (Value.slice V6'.A5 V6'.n5 V6'.c5).ownBlock = some b → ptop2 ≤ b := fun b hb => (HB9.out.bw.2.lt b hb).1
                  have hg7 : w7.heap[w.heap.size]? = wz.heap[w.heap.size]? := (hgrow7.block w.heap.size (by simp; omega) (fun e => by have := hgl _ e.symm; omega)).trans (((Below.refl wz.heap.size wz).alloc (Nat.le_refl _) _).block w.heap.size (by omega))
                  have HB7 := Lib.hid (HB9.out.blk.same hg7)
                  have k7 := HB7.out.c5
                  have f7 := HB7.out.f 5
                  have HT : Hid (Turned wz (w7.setCell ⟨w.heap.size, 5, none⟩ (.slice A7 (V6'.n5 + 1) c7)) w.heap.size (.slice V6'.A5 V6'.n5 V6'.c5)) := ⟨w7, (World.grownBy_alloc wz _ _).trans hgrow7, grown_set (World.grownBy.refl w7 _) _⟩
                  obtain ⟨bd8, ki8, bl8⟩ := RowA.Bd.betw HB9.out (HB7.out.put5 _) (own_set HO7.out hgp9) HT.out
                  have HBf := Lib.hid bd8
                  have HSf := Lib.hid (HS9.out.below bl8 hgs)
                  have HIf := Lib.hid (HI9.out.below (bl8.mono (by omega)))
                  have HWf := Lib.hid (HW9.out.trans (bl8.mono (by omega)))
                  have HNf : Hid (Nums L6) := by rw [Hid]; intro s hs; rw [s6, s5, g1] at hs; exact HNu4.out s hs
                  have hs6 : L6.sections.length = L3.sections.length := by rw [s6, s5, g1]
                  clear hO7 hown7 hgrow7 hg7 hgl bd8 ki8 bl8 HB9 HO9 HS9 HI9 HW9 HB7 HO7 HT k5
                  go_wp2_with fail
                  go_roundw
                  case rel => exact ⟨p + 1, i4, ms ++ [k1], L6, { V6' with A5 := A7, n5 := V6'.n5 + 1, c5 := c7 }, by omega, by go_num, hi4, ⟨⟨_, _, _, _, HBf.out, by simp; omega⟩, by simp [len2], by
                    intro y hy
                    simp only [List.mem_append, List.mem_singleton] at hy
                    rcases hy with hy | rfl
                    · exact cnt2 y hy
                    · exact hk12, ⟨_, HNB.out⟩, HNf.out, by omega, by omega, by omega⟩, HSf.out, HIf.out, HWf.out⟩
                  case measure => simp [intOf]; omega
        · have hpj : ¬ (p : Int) + 1 < (j : Int) := by omega
          have hX : skOf L2 = (LayG.row ts ms).sk := by unfold LayG.row; rw [HSk.out]
          have HX := Lib.hid hX
          clear hX
          go_wp2_with fail
          go_ret
          exact ⟨w.heap.size, top2, ptop2, L2, TL2, TS, V2, M2, ts, ms, rfl, HB2.out, HNum.out, by omega, by omega, cnt, cnt2, HX.out, Nat.le_refl _, by omega, HWr.out⟩
end Go.Proofs.YtkfobijgjdgbgaaDoor.Row
