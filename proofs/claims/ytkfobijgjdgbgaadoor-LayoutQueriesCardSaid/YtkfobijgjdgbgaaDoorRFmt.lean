/-
  A weak contract of the document's own function that writes the text of a valid layout: it answers some text, not empty and not long.
-/
import Derived.Test.YtkfobijgjdgbgaaDoorRCheck
import Derived.Test.YtkfobijgjdgbgaaDoorDec
import Derived.Test.YtkfobijgjdgbgaaDoorMaker
import Derived.Deep.QuietTactic
import Derived.BigQuiet
import Derived.Laws.Concat
import Derived.IntWalk
namespace Go.Proofs.YtkfobijgjdgbgaaDoor.RFmt
open Go.ChangeShapes Go.WideShapes Go.ChangeAt Go.RowKit Wd Small Mem Lay LayT Recs Keep Names PNames PSecs PEnds PLnk PCheck RNames RCheck Dec
set_option linter.unusedVariables false
set_option linter.unusedSimpArgs false

theorem dec_q (n : Int) (w : World) (k : Nat) (h1 : -9223372036854775808 ≤ n) (h2 : n ≤ 9223372036854775807) : Calls Tryd.prog 54 #[.int .i64 n] (w.drewN k) fun e w' => e = .returned (.string (str (dec n))) ∧ w' = w.drewN k :=
  (r_dec n (w.drewN k) h1 h2).mono fun e w' h => ⟨h.1, h.2.symm⟩
/-- the text of a line -/
def lt (x : List Bs) : Bs := Strs.sj true (x.map str) ++ [10]
theorem jt_snoc : ∀ (A : List (List Bs)) (x : List Bs), Strs.jt (LayT.strs (A ++ [x])) = Strs.jt (LayT.strs A) ++ lt x
  | [], x => by simp [LayT.strs, Strs.jt, lt]
  | a :: r, x => by
    have ih := jt_snoc r x
    simp only [LayT.strs, List.cons_append, List.map_cons, Strs.jt] at ih ⊢
    rw [ih]
    simp
def LS (l : Lay) : List (List Bs) := l.stations.map fun s => [kwStation, s]
def LP (l : Lay) : List (List Bs) := l.points.map fun s => [kwPoint, s]
theorem lines_eq (l : Lay) : lines l = LS l ++ LP l ++ l.sections.map (secLine l) ++ l.links.map (linkLine l) := by
  simp [lines, LS, LP]
/-- what a call leaves that answers some text -/
def TextPost (l : Lay) (w : World) (e : Ending) (w' : World) : Prop := ∃ t : ByteArray, e = .returned (.string t) ∧ bs t = format l ∧ 1 ≤ t.size ∧ t.size ≤ 1000000 ∧ Below w.heap.size w w'
theorem letter_is (p : Nat) (h : p ≤ 1) : bs ((⟨#[65, 66]⟩ : ByteArray).extract p (p + 1)) = endBs p := by
  match p, h with
  | 0, _ => rfl
  | 1, _ => rfl
/-- one letter of two -/
theorem letter (p : Nat) (h : p ≤ 1) : ((⟨#[65, 66]⟩ : ByteArray).extract p (p + 1)).size = 1 := by
  match p, h with
  | 0, _ => rfl
  | 1, _ => rfl

set_option maxRecDepth 100000 in
set_option maxHeartbeats 16000000 in
theorem r_format (v : LV) (l : Lay) (w : World) (hL : RdL w w.heap.size v l) (hv : check l = 0) : Calls Tryd.prog 26 #[v.val] w (TextPost l w) := by
  have hval := valid_of hv
  have lim : v.n1 ≤ 24 ∧ v.n2 ≤ 48 ∧ v.n3 ≤ 96 ∧ v.n4 ≤ 192 ∧ 1 ≤ v.n3 := by
    have e1 := hL.st.1
    have e2 := hL.pt.1
    have e3 := hL.sec.1
    have e4 := hL.lnk.1
    have h0 := hv
    unfold check at h0
    split at h0
    · cases h0
    · split at h0
      · cases h0
      · omega
  have e1 := hL.st.1
  have e2 := hL.pt.1
  have e3 := hL.sec.1
  have HE4 := Lib.hid hL.lnk.1
  have HVAL := Lib.hid hval
  have HFM : Hid (format l = Strs.jt (LayT.strs (lines l))) := by rw [Hid, format, if_pos hv]
  obtain ⟨W, hW, HZ, HB0, HBX⟩ := boxed v w
  have hgW : w.heap.size < W.heap.size := by rw [HZ.out]; omega
  have HC := Lib.hid HBX
  have HK0 : ∀ wr, Below W.heap.size W wr → _ := fun wr hb => box_kept hb hgW HC.out
  have HK := Lib.hid HK0
  have HLW := Lib.hid (hL.grow HB0 HB0.size)
  have HB := Lib.hid HB0
  have HCK0 := r_check v l W HLW.out
  rw [hv] at HCK0
  have HCK := Lib.hid HCK0
  have HE1 := Lib.hid e1
  have HE2 := Lib.hid e2
  have HE3 := Lib.hid e3
  obtain ⟨c0, c1', c2', c3'⟩ := HC.out
  clear hL hv hval HB0 HBX HK0 HCK0 e1 e2 e3
  obtain ⟨A1, n1, c1, A2, n2, c2, A3, n3, c3, A4, n4, c4⟩ := v
  simp only [LV.val] at *
  obtain ⟨m1, m2, m3, m4, m5⟩ := lim
  go_enter Tryd.func26, Tryd.ntmps26
  go_upto_region 1 with fail
  try rw [hW]
  clear hW
  go_wp2_with fail
  refine HCK.out.mono ?_
  rintro e w1 ⟨rfl, hb1⟩
  have HB1 := Lib.hid hb1
  clear hb1 c0 c1' c2' c3' HCK
  obtain ⟨c0, c1', c2', c3'⟩ := HK.out w1 HB1.out
  go_wp2_with fail
  go_loopw [3, 4] (fun x i wr => ∃ (k : Nat) (t : ByteArray), k ≤ n1 ∧ i = .int .i64 k ∧ x = .string t ∧ t.size ≤ 0 + k * 30 ∧ Hid (bs t = Strs.jt (LayT.strs ((l.stations.take k).map fun s => [kwStation, s]))) ∧ w1 = wr) (fun _ i _ => n1 - (intOf i).toNat)
  case atStart => exact ⟨0, ⟨#[]⟩, Nat.zero_le _, rfl, rfl, by decide, rfl, rfl⟩
  case round =>
    obtain ⟨k, t, hk, rfl, rfl, ht, HE, rfl⟩ := hrel
    by_cases hlt : k < n1
    · obtain ⟨ad, s, rfl, hab, hs, x0⟩ := loadS (HLW.out.grow HB1.out HB1.out.size).st hlt
      have hsl : (str s).size ≤ 12 := by rw [size_str]; exact nameErr_len (done := []) (HVAL.out.st s (List.mem_of_getElem? hs))
      have hkx : (k : Int) < (n1 : Int) := by omega
      have k_a : (⟨#[115, 116, 97, 116, 105, 111, 110, 32]⟩ : ByteArray).size ≤ 8 ∧ 8 ≤ (⟨#[115, 116, 97, 116, 105, 111, 110, 32]⟩ : ByteArray).size := by decide
      have k_n : (⟨#[10]⟩ : ByteArray).size ≤ 1 ∧ 1 ≤ (⟨#[10]⟩ : ByteArray).size := by decide
      have hl_ca : (⟨#[115, 116, 97, 116, 105, 111, 110, 32]⟩ : ByteArray).size + (str s : ByteArray).size ≤ 9223372036854775807 := by omega
      obtain ⟨ca, h_ca, s_ca⟩ : ∃ c : ByteArray, (⟨#[115, 116, 97, 116, 105, 111, 110, 32]⟩ : ByteArray) ++ (str s : ByteArray) = c ∧ c.size = (⟨#[115, 116, 97, 116, 105, 111, 110, 32]⟩ : ByteArray).size + (str s : ByteArray).size := ⟨_, rfl, ByteArray.size_append⟩
      have z_ca := Lib.hid s_ca
      have u_ca : ca.size ≤ 20 := by omega
      have v_ca : 1 ≤ ca.size := by omega
      clear s_ca
      have hl_cb : (ca : ByteArray).size + (⟨#[10]⟩ : ByteArray).size ≤ 9223372036854775807 := by omega
      obtain ⟨cb, h_cb, s_cb⟩ : ∃ c : ByteArray, (ca : ByteArray) ++ (⟨#[10]⟩ : ByteArray) = c ∧ c.size = (ca : ByteArray).size + (⟨#[10]⟩ : ByteArray).size := ⟨_, rfl, ByteArray.size_append⟩
      have z_cb := Lib.hid s_cb
      have u_cb : cb.size ≤ 21 := by omega
      have v_cb : 1 ≤ cb.size := by omega
      clear s_cb
      have hl_cc : (t : ByteArray).size + (cb : ByteArray).size ≤ 9223372036854775807 := by omega
      obtain ⟨cc, h_cc, s_cc⟩ : ∃ c : ByteArray, (t : ByteArray) ++ (cb : ByteArray) = c ∧ c.size = (t : ByteArray).size + (cb : ByteArray).size := ⟨_, rfl, ByteArray.size_append⟩
      have z_cc := Lib.hid s_cc
      have u_cc : cc.size ≤ 100000 := by omega
      have v_cc : 1 ≤ cc.size := by omega
      clear s_cc
      have hcc : cc.size ≤ 0 + (k + 1) * 30 := by have := z_cc.out; omega
      have HQ : Hid (bs cc = Strs.jt (LayT.strs ((l.stations.take (k + 1)).map fun s => [kwStation, s]))) := by
        rw [Hid, PNames.take_succ hs, List.map_append, List.map_cons, List.map_nil, jt_snoc, ← HE.out, ← h_cc, bs_append, ← h_cb, bs_append, ← h_ca, bs_append, bs_str]
        simp [lt, Strs.sj, bs_str, kwStation, show bs (⟨#[115, 116, 97, 116, 105, 111, 110, 32]⟩ : ByteArray) = [115, 116, 97, 116, 105, 111, 110, 32] from rfl, show bs (⟨#[10]⟩ : ByteArray) = [10] from rfl]
      clear k_a k_n hs
      go_wp2_with fail
      go_roundw
      case rel => exact ⟨k + 1, cc, by omega, by go_num, rfl, hcc, HQ, by trivial⟩
      case measure => simp [intOf]; omega
    · have hkx : ¬ (k : Int) < (n1 : Int) := by omega
      have ht2 : t.size ≤ 720 := by omega
      have HQ1 : Hid (bs t = Strs.jt (LayT.strs (LS l))) := by
        rw [Hid, HE.out, List.take_of_length_le (by have := HE1.out; omega)]; rfl
      go_wp2_with fail
      go_loopw [3, 5] (fun x i wr => ∃ (k : Nat) (t : ByteArray), k ≤ n2 ∧ i = .int .i64 k ∧ x = .string t ∧ t.size ≤ 720 + k * 30 ∧ Hid (bs t = Strs.jt (LayT.strs (LS l ++ (l.points.take k).map fun s => [kwPoint, s]))) ∧ w1 = wr) (fun _ i _ => n2 - (intOf i).toNat)
      case atStart => exact ⟨0, t, Nat.zero_le _, rfl, rfl, by omega, by rw [Hid, HQ1.out]; simp, rfl⟩
      case round =>
        clear hkx hlt ht; obtain ⟨k, t, hk, rfl, rfl, ht, HE, rfl⟩ := hrel
        by_cases hlt : k < n2
        · obtain ⟨ad, s, rfl, hab, hs, x0⟩ := loadS (HLW.out.grow HB1.out HB1.out.size).pt hlt
          have hsl : (str s).size ≤ 12 := by rw [size_str]; exact nameErr_len (done := []) (HVAL.out.pt s (List.mem_of_getElem? hs))
          have hkx : (k : Int) < (n2 : Int) := by omega
          have k_a : (⟨#[112, 111, 105, 110, 116, 32]⟩ : ByteArray).size ≤ 6 ∧ 6 ≤ (⟨#[112, 111, 105, 110, 116, 32]⟩ : ByteArray).size := by decide
          have k_n : (⟨#[10]⟩ : ByteArray).size ≤ 1 ∧ 1 ≤ (⟨#[10]⟩ : ByteArray).size := by decide
          have hl_ca : (⟨#[112, 111, 105, 110, 116, 32]⟩ : ByteArray).size + (str s : ByteArray).size ≤ 9223372036854775807 := by omega
          obtain ⟨ca, h_ca, s_ca⟩ : ∃ c : ByteArray, (⟨#[112, 111, 105, 110, 116, 32]⟩ : ByteArray) ++ (str s : ByteArray) = c ∧ c.size = (⟨#[112, 111, 105, 110, 116, 32]⟩ : ByteArray).size + (str s : ByteArray).size := ⟨_, rfl, ByteArray.size_append⟩
          have z_ca := Lib.hid s_ca
          have u_ca : ca.size ≤ 20 := by omega
          have v_ca : 1 ≤ ca.size := by omega
          clear s_ca
          have hl_cb : (ca : ByteArray).size + (⟨#[10]⟩ : ByteArray).size ≤ 9223372036854775807 := by omega
          obtain ⟨cb, h_cb, s_cb⟩ : ∃ c : ByteArray, (ca : ByteArray) ++ (⟨#[10]⟩ : ByteArray) = c ∧ c.size = (ca : ByteArray).size + (⟨#[10]⟩ : ByteArray).size := ⟨_, rfl, ByteArray.size_append⟩
          have z_cb := Lib.hid s_cb
          have u_cb : cb.size ≤ 21 := by omega
          have v_cb : 1 ≤ cb.size := by omega
          clear s_cb
          have hl_cc : (t : ByteArray).size + (cb : ByteArray).size ≤ 9223372036854775807 := by omega
          obtain ⟨cc, h_cc, s_cc⟩ : ∃ c : ByteArray, (t : ByteArray) ++ (cb : ByteArray) = c ∧ c.size = (t : ByteArray).size + (cb : ByteArray).size := ⟨_, rfl, ByteArray.size_append⟩
          have z_cc := Lib.hid s_cc
          have u_cc : cc.size ≤ 100000 := by omega
          have v_cc : 1 ≤ cc.size := by omega
          clear s_cc
          have hcc : cc.size ≤ 720 + (k + 1) * 30 := by have := z_cc.out; omega
          have HQ : Hid (bs cc = Strs.jt (LayT.strs (LS l ++ (l.points.take (k + 1)).map fun s => [kwPoint, s]))) := by
            rw [Hid, PNames.take_succ hs, List.map_append, ← List.append_assoc, List.map_cons, List.map_nil, jt_snoc, ← HE.out, ← h_cc, bs_append, ← h_cb, bs_append, ← h_ca, bs_append, bs_str]
            simp [lt, Strs.sj, bs_str, kwPoint, show bs (⟨#[112, 111, 105, 110, 116, 32]⟩ : ByteArray) = [112, 111, 105, 110, 116, 32] from rfl, show bs (⟨#[10]⟩ : ByteArray) = [10] from rfl]
          clear k_a k_n hs
          go_wp2_with fail
          go_roundw
          case rel => exact ⟨k + 1, cc, by omega, by go_num, rfl, hcc, HQ, by trivial⟩
          case measure => simp [intOf]; omega
        · have hkx : ¬ (k : Int) < (n2 : Int) := by omega
          have ht2 : t.size ≤ 2160 := by omega
          have HQ2 : Hid (bs t = Strs.jt (LayT.strs (LS l ++ LP l))) := by
            rw [Hid, HE.out, List.take_of_length_le (by have := HE2.out; omega)]; rfl
          go_wp2_with fail
          go_loopw [3, 6] (fun x i wr => ∃ (k : Nat) (t : ByteArray), k ≤ n3 ∧ i = .int .i64 k ∧ x = .string t ∧ t.size ≤ 2160 + k * 120 ∧ (0 < k → 1 ≤ t.size) ∧ Hid (bs t = Strs.jt (LayT.strs (LS l ++ LP l ++ (l.sections.take k).map (secLine l)))) ∧ Below w1.heap.size w1 wr) (fun _ i _ => n3 - (intOf i).toNat)
          case atStart => exact ⟨0, t, Nat.zero_le _, rfl, rfl, by omega, by omega, by rw [Hid, HQ2.out]; simp, Below.refl _ _⟩
          case round =>
            clear hkx hlt ht ht2
            obtain ⟨k, t, hk, rfl, rfl, ht, hpos, HE, hbr⟩ := hrel
            have HBR := Lib.hid hbr
            have hzr := hbr.size
            have HBW := Lib.hid (HB1.out.trans (hbr.mono HB1.out.size))
            clear c0 c1' c2' c3'
            obtain ⟨c0, c1', c2', c3'⟩ := HK.out wr HBW.out
            by_cases hlt : k < n3
            · obtain ⟨ad, s, rfl, hab, hs, x0, x1, x2, x3, x4⟩ := loadSec (HLW.out.grow HBW.out HBW.out.size).sec hlt
              have hv2 := HVAL.out.sec s (List.mem_of_getElem? hs)
              have hsl : (str s.name).size ≤ 12 := by rw [size_str]; exact nameErr_len (done := []) hv2.1
              obtain ⟨r1, r2, r3, r4, r5, r6, r7, r8⟩ := sec_range hv2.2
              have hkx : (k : Int) < (n3 : Int) := by omega
              have hqn : s.st < n1 := by have := HE1.out; omega
              obtain ⟨W2, hW2⟩ : ∃ W2, wr.alloc (.cells #[.string (str s.name), .int .i64 s.len, .int .i64 s.lim, .int .i64 s.grade, .int .i64 s.st] 45) = W2 := ⟨_, rfl⟩
              have hb2 : Below wr.heap.size wr W2 := by rw [← hW2]; exact (Below.refl _ _).alloc (Nat.le_refl _) _
              have hz2 : wr.heap.size < W2.heap.size := by rw [← hW2]; simp
              have HE5 := Lib.hid (show W2.cell? ⟨wr.heap.size, 0, none⟩ = some (.string (str s.name)) ∧ W2.cell? ⟨wr.heap.size, 1, none⟩ = some (.int .i64 s.len) ∧ W2.cell? ⟨wr.heap.size, 2, none⟩ = some (.int .i64 s.lim) ∧ W2.cell? ⟨wr.heap.size, 3, none⟩ = some (.int .i64 s.grade) ∧ W2.cell? ⟨wr.heap.size, 4, none⟩ = some (.int .i64 s.st) by rw [← hW2]; simp)
              have HBR1 := Lib.hid (hbr.trans (hb2.mono hzr))
              have HS3 := Lib.hid hs
              clear hs hv2 hbr hb2
              go_upto_region 16 with fail
              try rw [hW2]
              clear hW2 x0 x1 x2 x3 x4 c0 c1' c2' c3'
              obtain ⟨y0, y1, y2, y3, y4⟩ := HE5.out
              have k_a : (⟨#[115, 101, 99, 116, 105, 111, 110, 32]⟩ : ByteArray).size ≤ 8 ∧ 8 ≤ (⟨#[115, 101, 99, 116, 105, 111, 110, 32]⟩ : ByteArray).size := by decide
              have k_b : (⟨#[32]⟩ : ByteArray).size ≤ 1 ∧ 1 ≤ (⟨#[32]⟩ : ByteArray).size := by decide
              have q1 : (str (dec s.len)).size ≤ 20 := by rw [size_str]; exact dec_len _ (by omega) (by omega)
              have q2 : (str (dec s.lim)).size ≤ 20 := by rw [size_str]; exact dec_len _ (by omega) (by omega)
              have q3 : (str (dec s.grade)).size ≤ 20 := by rw [size_str]; exact dec_len _ (by omega) (by omega)
              have hl_d1 : (⟨#[115, 101, 99, 116, 105, 111, 110, 32]⟩ : ByteArray).size + (str s.name : ByteArray).size ≤ 9223372036854775807 := by omega
              obtain ⟨d1, h_d1, s_d1⟩ : ∃ c : ByteArray, (⟨#[115, 101, 99, 116, 105, 111, 110, 32]⟩ : ByteArray) ++ (str s.name : ByteArray) = c ∧ c.size = (⟨#[115, 101, 99, 116, 105, 111, 110, 32]⟩ : ByteArray).size + (str s.name : ByteArray).size := ⟨_, rfl, ByteArray.size_append⟩
              have z_d1 := Lib.hid s_d1
              have u_d1 : d1.size ≤ 20 := by omega
              have v_d1 : 1 ≤ d1.size := by omega
              clear s_d1
              have hl_d2 : (d1 : ByteArray).size + (⟨#[32]⟩ : ByteArray).size ≤ 9223372036854775807 := by omega
              obtain ⟨d2, h_d2, s_d2⟩ : ∃ c : ByteArray, (d1 : ByteArray) ++ (⟨#[32]⟩ : ByteArray) = c ∧ c.size = (d1 : ByteArray).size + (⟨#[32]⟩ : ByteArray).size := ⟨_, rfl, ByteArray.size_append⟩
              have z_d2 := Lib.hid s_d2
              have u_d2 : d2.size ≤ 21 := by omega
              have v_d2 : 1 ≤ d2.size := by omega
              clear s_d2
              have hl_d3 : (d2 : ByteArray).size + (str (dec s.len) : ByteArray).size ≤ 9223372036854775807 := by omega
              obtain ⟨d3, h_d3, s_d3⟩ : ∃ c : ByteArray, (d2 : ByteArray) ++ (str (dec s.len) : ByteArray) = c ∧ c.size = (d2 : ByteArray).size + (str (dec s.len) : ByteArray).size := ⟨_, rfl, ByteArray.size_append⟩
              have z_d3 := Lib.hid s_d3
              have u_d3 : d3.size ≤ 41 := by omega
              have v_d3 : 1 ≤ d3.size := by omega
              clear s_d3
              have hl_d4 : (d3 : ByteArray).size + (⟨#[32]⟩ : ByteArray).size ≤ 9223372036854775807 := by omega
              obtain ⟨d4, h_d4, s_d4⟩ : ∃ c : ByteArray, (d3 : ByteArray) ++ (⟨#[32]⟩ : ByteArray) = c ∧ c.size = (d3 : ByteArray).size + (⟨#[32]⟩ : ByteArray).size := ⟨_, rfl, ByteArray.size_append⟩
              have z_d4 := Lib.hid s_d4
              have u_d4 : d4.size ≤ 42 := by omega
              have v_d4 : 1 ≤ d4.size := by omega
              clear s_d4
              have hl_d5 : (d4 : ByteArray).size + (str (dec s.lim) : ByteArray).size ≤ 9223372036854775807 := by omega
              obtain ⟨d5, h_d5, s_d5⟩ : ∃ c : ByteArray, (d4 : ByteArray) ++ (str (dec s.lim) : ByteArray) = c ∧ c.size = (d4 : ByteArray).size + (str (dec s.lim) : ByteArray).size := ⟨_, rfl, ByteArray.size_append⟩
              have z_d5 := Lib.hid s_d5
              have u_d5 : d5.size ≤ 62 := by omega
              have v_d5 : 1 ≤ d5.size := by omega
              clear s_d5
              have hl_d6 : (d5 : ByteArray).size + (⟨#[32]⟩ : ByteArray).size ≤ 9223372036854775807 := by omega
              obtain ⟨d6, h_d6, s_d6⟩ : ∃ c : ByteArray, (d5 : ByteArray) ++ (⟨#[32]⟩ : ByteArray) = c ∧ c.size = (d5 : ByteArray).size + (⟨#[32]⟩ : ByteArray).size := ⟨_, rfl, ByteArray.size_append⟩
              have z_d6 := Lib.hid s_d6
              have u_d6 : d6.size ≤ 63 := by omega
              have v_d6 : 1 ≤ d6.size := by omega
              clear s_d6
              have hl_d7 : (d6 : ByteArray).size + (str (dec s.grade) : ByteArray).size ≤ 9223372036854775807 := by omega
              obtain ⟨d7, h_d7, s_d7⟩ : ∃ c : ByteArray, (d6 : ByteArray) ++ (str (dec s.grade) : ByteArray) = c ∧ c.size = (d6 : ByteArray).size + (str (dec s.grade) : ByteArray).size := ⟨_, rfl, ByteArray.size_append⟩
              have z_d7 := Lib.hid s_d7
              have u_d7 : d7.size ≤ 83 := by omega
              have v_d7 : 1 ≤ d7.size := by omega
              clear s_d7
              have hl_d8 : (t : ByteArray).size + (d7 : ByteArray).size ≤ 9223372036854775807 := by omega
              obtain ⟨d8, h_d8, s_d8⟩ : ∃ c : ByteArray, (t : ByteArray) ++ (d7 : ByteArray) = c ∧ c.size = (t : ByteArray).size + (d7 : ByteArray).size := ⟨_, rfl, ByteArray.size_append⟩
              have z_d8 := Lib.hid s_d8
              have u_d8 : d8.size ≤ 200000 := by omega
              have v_d8 : 1 ≤ d8.size := by omega
              clear s_d8
              clear k_a k_b
              go_quiet ((go_at_call 54; refine Calls.quiet_of_same (dec_q _ _ _ ?_ ?_) <;> omega))
              generalize hW3 : W2.drewN _ = W3
              have HBR2 : Hid (Below w1.heap.size w1 W3) := by rw [Hid, ← hW3]; exact Mem.below_draws HBR1.out _
              have hb3 : Below W2.heap.size W2 W3 := by rw [← hW3]; exact Mem.below_draws (Below.refl _ _) _
              have HE6 := Lib.hid ((hb3.cell (p := ⟨wr.heap.size, 4, none⟩) hz2).trans y4)
              have hz3 := hb3.size
              have HBW3 := Lib.hid (HB1.out.trans (HBR2.out.mono HB1.out.size))
              clear hW3 hb3 y0 y1 y2 y3 y4
              have y4 := HE6.out
              obtain ⟨c0, c1', c2', c3'⟩ := HK.out W3 HBW3.out
              have hd8 : d8.size ≤ 2160 + k * 120 + 83 ∧ 1 ≤ d8.size := by have := z_d8.out; omega
              by_cases hst : 0 ≤ s.st
              · obtain ⟨q, hq⟩ : ∃ q : Nat, s.st = q := ⟨s.st.toNat, by omega⟩
                have hqlt : q < n1 := by omega
                obtain ⟨ad1, nm, rfl, hab1, hnm, p0⟩ := loadS (HLW.out.grow HBW3.out HBW3.out.size).st hqlt
                have hnl : (str nm).size ≤ 12 := by rw [size_str]; exact nameErr_len (done := []) (HVAL.out.st nm (List.mem_of_getElem? hnm))
                have hqx : (q : Int) < (n1 : Int) := by omega
                have HSL : Hid (secLine l s = [kwSection, s.name, dec s.len, dec s.lim, dec s.grade, kwAt, nm]) := by
                  have hh : l.stations[s.st.toNat]? = some nm := by rw [hq]; exact hnm
                  rw [Hid, secLine, if_pos hst, hh]; rfl
                rw [hq] at y4
                clear hnm hq hqn
                have k_t : (⟨#[32, 97, 116, 32]⟩ : ByteArray).size ≤ 4 ∧ 4 ≤ (⟨#[32, 97, 116, 32]⟩ : ByteArray).size := by decide
                have hl_f1 : (⟨#[32, 97, 116, 32]⟩ : ByteArray).size + (str nm : ByteArray).size ≤ 9223372036854775807 := by omega
                obtain ⟨f1, h_f1, s_f1⟩ : ∃ c : ByteArray, (⟨#[32, 97, 116, 32]⟩ : ByteArray) ++ (str nm : ByteArray) = c ∧ c.size = (⟨#[32, 97, 116, 32]⟩ : ByteArray).size + (str nm : ByteArray).size := ⟨_, rfl, ByteArray.size_append⟩
                have z_f1 := Lib.hid s_f1
                have u_f1 : f1.size ≤ 16 := by omega
                have v_f1 : 1 ≤ f1.size := by omega
                clear s_f1
                have hl_f2 : (d8 : ByteArray).size + (f1 : ByteArray).size ≤ 9223372036854775807 := by omega
                obtain ⟨f2, h_f2, s_f2⟩ : ∃ c : ByteArray, (d8 : ByteArray) ++ (f1 : ByteArray) = c ∧ c.size = (d8 : ByteArray).size + (f1 : ByteArray).size := ⟨_, rfl, ByteArray.size_append⟩
                have z_f2 := Lib.hid s_f2
                have u_f2 : f2.size ≤ 300000 := by omega
                have v_f2 : 1 ≤ f2.size := by omega
                clear s_f2
                clear k_t
                have k_n : (⟨#[10]⟩ : ByteArray).size ≤ 1 ∧ 1 ≤ (⟨#[10]⟩ : ByteArray).size := by decide
                have hl_dz : (f2 : ByteArray).size + (⟨#[10]⟩ : ByteArray).size ≤ 9223372036854775807 := by omega
                obtain ⟨dz, h_dz, s_dz⟩ : ∃ c : ByteArray, (f2 : ByteArray) ++ (⟨#[10]⟩ : ByteArray) = c ∧ c.size = (f2 : ByteArray).size + (⟨#[10]⟩ : ByteArray).size := ⟨_, rfl, ByteArray.size_append⟩
                have z_dz := Lib.hid s_dz
                have u_dz : dz.size ≤ 400000 := by omega
                have v_dz : 1 ≤ dz.size := by omega
                clear s_dz
                have hcc : dz.size ≤ 2160 + (k + 1) * 120 := by have := z_dz.out; have := z_f2.out; omega
                have HQ : Hid (bs dz = Strs.jt (LayT.strs (LS l ++ LP l ++ (l.sections.take (k + 1)).map (secLine l)))) := by
                  rw [Hid, PNames.take_succ HS3.out, List.map_append, ← List.append_assoc, List.map_cons, List.map_nil, jt_snoc, ← HE.out, HSL.out, ← h_dz, bs_append, ← h_f2, bs_append, ← h_f1, bs_append, ← h_d8, bs_append, ← h_d7, bs_append, ← h_d6, bs_append, ← h_d5, bs_append, ← h_d4, bs_append, ← h_d3, bs_append, ← h_d2, bs_append, ← h_d1, bs_append]
                  simp [lt, Strs.sj, bs_str, kwSection, kwAt, show bs (⟨#[115, 101, 99, 116, 105, 111, 110, 32]⟩ : ByteArray) = [115, 101, 99, 116, 105, 111, 110, 32] from rfl, show bs (⟨#[32]⟩ : ByteArray) = [32] from rfl, show bs (⟨#[32, 97, 116, 32]⟩ : ByteArray) = [32, 97, 116, 32] from rfl, show bs (⟨#[10]⟩ : ByteArray) = [10] from rfl]
                clear k_n
                go_wp2_with fail
                go_roundw
                case rel => exact ⟨k + 1, dz, by omega, by go_num, rfl, hcc, by omega, HQ, HBR2.out⟩
                case measure => simp [intOf]; omega
              · have hneg : s.st < 0 := by omega
                have HSL : Hid (secLine l s = [kwSection, s.name, dec s.len, dec s.lim, dec s.grade]) := by rw [Hid, secLine, if_neg hst]; rfl
                have k_n : (⟨#[10]⟩ : ByteArray).size ≤ 1 ∧ 1 ≤ (⟨#[10]⟩ : ByteArray).size := by decide
                have hl_dz : (d8 : ByteArray).size + (⟨#[10]⟩ : ByteArray).size ≤ 9223372036854775807 := by omega
                obtain ⟨dz, h_dz, s_dz⟩ : ∃ c : ByteArray, (d8 : ByteArray) ++ (⟨#[10]⟩ : ByteArray) = c ∧ c.size = (d8 : ByteArray).size + (⟨#[10]⟩ : ByteArray).size := ⟨_, rfl, ByteArray.size_append⟩
                have z_dz := Lib.hid s_dz
                have u_dz : dz.size ≤ 400000 := by omega
                have v_dz : 1 ≤ dz.size := by omega
                clear s_dz
                have hcc : dz.size ≤ 2160 + (k + 1) * 120 := by have := z_dz.out; omega
                have HQ : Hid (bs dz = Strs.jt (LayT.strs (LS l ++ LP l ++ (l.sections.take (k + 1)).map (secLine l)))) := by
                  rw [Hid, PNames.take_succ HS3.out, List.map_append, ← List.append_assoc, List.map_cons, List.map_nil, jt_snoc, ← HE.out, HSL.out, ← h_dz, bs_append, ← h_d8, bs_append, ← h_d7, bs_append, ← h_d6, bs_append, ← h_d5, bs_append, ← h_d4, bs_append, ← h_d3, bs_append, ← h_d2, bs_append, ← h_d1, bs_append]
                  simp [lt, Strs.sj, bs_str, kwSection, kwAt, show bs (⟨#[115, 101, 99, 116, 105, 111, 110, 32]⟩ : ByteArray) = [115, 101, 99, 116, 105, 111, 110, 32] from rfl, show bs (⟨#[32]⟩ : ByteArray) = [32] from rfl, show bs (⟨#[32, 97, 116, 32]⟩ : ByteArray) = [32, 97, 116, 32] from rfl, show bs (⟨#[10]⟩ : ByteArray) = [10] from rfl]
                clear k_n
                go_wp2_with fail
                go_roundw
                case rel => exact ⟨k + 1, dz, by omega, by go_num, rfl, hcc, by omega, HQ, HBR2.out⟩
                case measure => simp [intOf]; omega
            · have hkx : ¬ (k : Int) < (n3 : Int) := by omega
              have hp1 : 1 ≤ t.size := hpos (by omega)
              have ht3 : t.size ≤ 14000 := by omega
              have HQ3 : Hid (bs t = Strs.jt (LayT.strs (LS l ++ LP l ++ l.sections.map (secLine l)))) := by rw [Hid, HE.out, List.take_of_length_le (by have := HE3.out; omega)]
              go_wp2_with fail
              go_loopw [3, 8] (fun x i wr => ∃ (k : Nat) (t : ByteArray), k ≤ n4 ∧ i = .int .i64 k ∧ x = .string t ∧ t.size ≤ 14000 + k * 120 ∧ 1 ≤ t.size ∧ Hid (bs t = Strs.jt (LayT.strs (LS l ++ LP l ++ l.sections.map (secLine l) ++ (l.links.take k).map (linkLine l)))) ∧ Below w1.heap.size w1 wr) (fun _ i _ => n4 - (intOf i).toNat)
              case atStart => exact ⟨0, t, Nat.zero_le _, rfl, rfl, by omega, hp1, by rw [Hid, HQ3.out]; simp, HBR.out⟩
              case round =>
                clear hkx hlt ht ht3 hpos hp1 HBR HBW hbr hzr hk
                obtain ⟨k, t, hk, rfl, rfl, ht, hp1, HE, hbr⟩ := hrel
                obtain ⟨wf, rfl⟩ : ∃ wf : World, wf = wr := ⟨_, rfl⟩
                have HBR := Lib.hid hbr
                have hzr := hbr.size
                have HBW := Lib.hid (HB1.out.trans (hbr.mono HB1.out.size))
                clear c0 c1' c2' c3'
                obtain ⟨c0, c1', c2', c3'⟩ := HK.out wf HBW.out
                by_cases hlt : k < n4
                · obtain ⟨ad, kk, rfl, hab, hk2, x0, x1, x2, x3, x4, x5⟩ := loadLnk (HLW.out.grow HBW.out HBW.out.size).lnk hlt
                  have hin := HVAL.out.lnk kk (List.mem_of_getElem? hk2)
                  obtain ⟨ka, kae, kb, kbe, kpt, kps⟩ := kk
                  obtain ⟨g1, g2, g3, g4, g5, g6, g7, g8, g9, g10, g11, g12, -⟩ := LayT.inr_range hin
                  simp only at g1 g2 g3 g4 g5 g6 g7 g8 g9 g10 g11 g12 x0 x1 x2 x3 x4 x5
                  obtain ⟨qa, rfl⟩ : ∃ q : Nat, ka = q := ⟨ka.toNat, by omega⟩
                  obtain ⟨qb, rfl⟩ : ∃ q : Nat, kb = q := ⟨kb.toNat, by omega⟩
                  obtain ⟨pa, rfl⟩ : ∃ q : Nat, kae = q := ⟨kae.toNat, by omega⟩
                  obtain ⟨pb, rfl⟩ : ∃ q : Nat, kbe = q := ⟨kbe.toNat, by omega⟩
                  have hkx : (k : Int) < (n4 : Int) := by omega
                  have hqa : qa < n3 := by have := HE3.out; omega
                  have hqb : qb < n3 := by have := HE3.out; omega
                  have hpp : kpt < n2 := by have := HE2.out; omega
                  have hpa : pa ≤ 1 := by omega
                  have hpb : pb ≤ 1 := by omega
                  obtain ⟨W2, hW2⟩ : ∃ W2, wf.alloc (.cells #[.int .i64 (qa : Nat), .int .i64 (pa : Nat), .int .i64 (qb : Nat), .int .i64 (pb : Nat), .int .i64 kpt, .int .i64 kps] 64) = W2 := ⟨_, rfl⟩
                  have hb2 : Below wf.heap.size wf W2 := by rw [← hW2]; exact (Below.refl _ _).alloc (Nat.le_refl _) _
                  have hz2 : wf.heap.size < W2.heap.size := by rw [← hW2]; simp
                  have HE6 : Hid (Row6 W2 wf.heap.size ⟨qa, pa, qb, pb, kpt, kps⟩) := by rw [Hid, ← hW2]; unfold Row6; simp
                  have HBR1 := Lib.hid (hbr.trans (hb2.mono hzr))
                  have HBW2 := Lib.hid (HB1.out.trans (HBR1.out.mono HB1.out.size))
                  have hRL := HLW.out.grow HBW2.out HBW2.out.size
                  obtain ⟨ad3, sa, rfl, hab3, hsa, w0, -⟩ := loadSec hRL.sec hqa
                  obtain ⟨ad4, sb, hA4, hab4, hsb, w1', -⟩ := loadSec hRL.sec hqb
                  cases hA4
                  have hla : (str sa.name).size ≤ 12 := by rw [size_str]; exact nameErr_len (done := []) (HVAL.out.sec sa (List.mem_of_getElem? hsa)).1
                  have hlb : (str sb.name).size ≤ 12 := by rw [size_str]; exact nameErr_len (done := []) (HVAL.out.sec sb (List.mem_of_getElem? hsb)).1
                  obtain ⟨na, hna⟩ : ∃ t, str sa.name = t := ⟨_, rfl⟩
                  obtain ⟨nb, hnb⟩ : ∃ t, str sb.name = t := ⟨_, rfl⟩
                  rw [hna] at w0 hla
                  rw [hnb] at w1' hlb
                  obtain ⟨ea, hea, sea⟩ : ∃ e : ByteArray, (ByteArray.mk #[65, 66]).extract pa (pa + 1) = e ∧ e.size = 1 := ⟨_, rfl, letter pa hpa⟩
                  obtain ⟨eb, heb, seb⟩ : ∃ e : ByteArray, (ByteArray.mk #[65, 66]).extract pb (pb + 1) = e ∧ e.size = 1 := ⟨_, rfl, letter pb hpb⟩
                  have zea : ea.size ≤ 1 ∧ 1 ≤ ea.size := by omega
                  have zeb : eb.size ≤ 1 ∧ 1 ≤ eb.size := by omega
                  have i1 : (0 : Int) ≤ qa := by omega
                  have i2 : (qa : Int) < (n3 : Int) := by omega
                  have i3 : (0 : Int) ≤ qb := by omega
                  have i4 : (qb : Int) < (n3 : Int) := by omega
                  have j1 : (0 : Int) ≤ pa := by omega
                  have j2 : (pa : Int) ≤ (pa : Int) + 1 := by omega
                  have j3 : (pa : Int) + 1 ≤ 2 := by omega
                  have j4 : (0 : Int) ≤ pb := by omega
                  have j5 : (pb : Int) ≤ (pb : Int) + 1 := by omega
                  have j6 : (pb : Int) + 1 ≤ 2 := by omega
                  have j7 : (0 : Int) ≤ (pa : Int) + 1 := by omega
                  have j8 : (0 : Int) ≤ (pb : Int) + 1 := by omega
                  have HS4 := Lib.hid hk2
                  have HNA : Hid (nameOf l (qa : Int) = sa.name) := by rw [Hid, nameOf, Int.toNat_natCast]; simp [hsa]
                  have HNB : Hid (nameOf l (qb : Int) = sb.name) := by rw [Hid, nameOf, Int.toNat_natCast]; simp [hsb]
                  have HBA : Hid (bs ea = endBs (pa : Int)) := by rw [Hid, ← hea]; exact letter_is pa hpa
                  have HBB : Hid (bs eb = endBs (pb : Int)) := by rw [Hid, ← heb]; exact letter_is pb hpb
                  have HCA : Hid (bs na = sa.name) := by rw [Hid, ← hna, bs_str]
                  have HCB : Hid (bs nb = sb.name) := by rw [Hid, ← hnb, bs_str]
                  clear hk2 hin hsa hsb hbr hb2 hna hnb hRL sea seb
                  go_upto_region 24 with fail
                  try rw [hW2]
                  clear hW2 x0 x1 x2 x3 x4 x5 c0 c1' c2' c3'
                  obtain ⟨c0, c1', c2', c3'⟩ := HK.out W2 HBW2.out
                  obtain ⟨y0, y1, y2, y3, y4, y5⟩ := HE6.out
                  simp only at y0 y1 y2 y3 y4 y5
                  have k_a : (⟨#[108, 105, 110, 107, 32]⟩ : ByteArray).size ≤ 5 ∧ 5 ≤ (⟨#[108, 105, 110, 107, 32]⟩ : ByteArray).size := by decide
                  have k_b : (⟨#[32]⟩ : ByteArray).size ≤ 1 ∧ 1 ≤ (⟨#[32]⟩ : ByteArray).size := by decide
                  have hl_d1 : (⟨#[108, 105, 110, 107, 32]⟩ : ByteArray).size + (na : ByteArray).size ≤ 9223372036854775807 := by omega
                  obtain ⟨d1, h_d1, s_d1⟩ : ∃ c : ByteArray, (⟨#[108, 105, 110, 107, 32]⟩ : ByteArray) ++ (na : ByteArray) = c ∧ c.size = (⟨#[108, 105, 110, 107, 32]⟩ : ByteArray).size + (na : ByteArray).size := ⟨_, rfl, ByteArray.size_append⟩
                  have z_d1 := Lib.hid s_d1
                  have u_d1 : d1.size ≤ 17 := by omega
                  have v_d1 : 1 ≤ d1.size := by omega
                  clear s_d1
                  have hl_d2 : (d1 : ByteArray).size + (⟨#[32]⟩ : ByteArray).size ≤ 9223372036854775807 := by omega
                  obtain ⟨d2, h_d2, s_d2⟩ : ∃ c : ByteArray, (d1 : ByteArray) ++ (⟨#[32]⟩ : ByteArray) = c ∧ c.size = (d1 : ByteArray).size + (⟨#[32]⟩ : ByteArray).size := ⟨_, rfl, ByteArray.size_append⟩
                  have z_d2 := Lib.hid s_d2
                  have u_d2 : d2.size ≤ 18 := by omega
                  have v_d2 : 1 ≤ d2.size := by omega
                  clear s_d2
                  have hl_d3 : (d2 : ByteArray).size + (ea : ByteArray).size ≤ 9223372036854775807 := by omega
                  obtain ⟨d3, h_d3, s_d3⟩ : ∃ c : ByteArray, (d2 : ByteArray) ++ (ea : ByteArray) = c ∧ c.size = (d2 : ByteArray).size + (ea : ByteArray).size := ⟨_, rfl, ByteArray.size_append⟩
                  have z_d3 := Lib.hid s_d3
                  have u_d3 : d3.size ≤ 19 := by omega
                  have v_d3 : 1 ≤ d3.size := by omega
                  clear s_d3
                  have hl_d4 : (d3 : ByteArray).size + (⟨#[32]⟩ : ByteArray).size ≤ 9223372036854775807 := by omega
                  obtain ⟨d4, h_d4, s_d4⟩ : ∃ c : ByteArray, (d3 : ByteArray) ++ (⟨#[32]⟩ : ByteArray) = c ∧ c.size = (d3 : ByteArray).size + (⟨#[32]⟩ : ByteArray).size := ⟨_, rfl, ByteArray.size_append⟩
                  have z_d4 := Lib.hid s_d4
                  have u_d4 : d4.size ≤ 20 := by omega
                  have v_d4 : 1 ≤ d4.size := by omega
                  clear s_d4
                  have hl_d5 : (d4 : ByteArray).size + (nb : ByteArray).size ≤ 9223372036854775807 := by omega
                  obtain ⟨d5, h_d5, s_d5⟩ : ∃ c : ByteArray, (d4 : ByteArray) ++ (nb : ByteArray) = c ∧ c.size = (d4 : ByteArray).size + (nb : ByteArray).size := ⟨_, rfl, ByteArray.size_append⟩
                  have z_d5 := Lib.hid s_d5
                  have u_d5 : d5.size ≤ 32 := by omega
                  have v_d5 : 1 ≤ d5.size := by omega
                  clear s_d5
                  have hl_d6 : (d5 : ByteArray).size + (⟨#[32]⟩ : ByteArray).size ≤ 9223372036854775807 := by omega
                  obtain ⟨d6, h_d6, s_d6⟩ : ∃ c : ByteArray, (d5 : ByteArray) ++ (⟨#[32]⟩ : ByteArray) = c ∧ c.size = (d5 : ByteArray).size + (⟨#[32]⟩ : ByteArray).size := ⟨_, rfl, ByteArray.size_append⟩
                  have z_d6 := Lib.hid s_d6
                  have u_d6 : d6.size ≤ 33 := by omega
                  have v_d6 : 1 ≤ d6.size := by omega
                  clear s_d6
                  have hl_d7 : (d6 : ByteArray).size + (eb : ByteArray).size ≤ 9223372036854775807 := by omega
                  obtain ⟨d7, h_d7, s_d7⟩ : ∃ c : ByteArray, (d6 : ByteArray) ++ (eb : ByteArray) = c ∧ c.size = (d6 : ByteArray).size + (eb : ByteArray).size := ⟨_, rfl, ByteArray.size_append⟩
                  have z_d7 := Lib.hid s_d7
                  have u_d7 : d7.size ≤ 34 := by omega
                  have v_d7 : 1 ≤ d7.size := by omega
                  clear s_d7
                  have hl_d8 : (t : ByteArray).size + (d7 : ByteArray).size ≤ 9223372036854775807 := by omega
                  obtain ⟨d8, h_d8, s_d8⟩ : ∃ c : ByteArray, (t : ByteArray) ++ (d7 : ByteArray) = c ∧ c.size = (t : ByteArray).size + (d7 : ByteArray).size := ⟨_, rfl, ByteArray.size_append⟩
                  have z_d8 := Lib.hid s_d8
                  have u_d8 : d8.size ≤ 200000 := by omega
                  have v_d8 : 1 ≤ d8.size := by omega
                  clear s_d8
                  clear k_a k_b
                  have hd8 : d8.size ≤ 14000 + k * 120 + 37 ∧ 1 ≤ d8.size := by have := z_d8.out; omega
                  have hwa : IntKind.i64.wrap ((pa : Int) + 1) = (pa : Int) + 1 := IntWalk.i64_in _ (by omega)
                  have hwb : IntKind.i64.wrap ((pb : Int) + 1) = (pb : Int) + 1 := IntWalk.i64_in _ (by omega)
                  have hta : ((pa : Int) + 1).toNat = pa + 1 := by omega
                  have htb : ((pb : Int) + 1).toNat = pb + 1 := by omega
                  go_quiet (fail)
                  generalize hW3 : W2.drewN _ = W3
                  clear hwa hwb hta htb hea heb
                  have HBR2 : Hid (Below w1.heap.size w1 W3) := by rw [Hid, ← hW3]; exact Mem.below_draws HBR1.out _
                  have hb3 : Below W2.heap.size W2 W3 := by rw [← hW3]; exact Mem.below_draws (Below.refl _ _) _
                  have HE7 := Lib.hid (⟨(hb3.cell (p := ⟨wf.heap.size, 4, none⟩) hz2).trans y4, (hb3.cell (p := ⟨wf.heap.size, 5, none⟩) hz2).trans y5⟩ : _ ∧ _)
                  have hz3 := hb3.size
                  have HBW3 := Lib.hid (HB1.out.trans (HBR2.out.mono HB1.out.size))
                  clear hW3 hb3 y0 y1 y2 y3 y4 y5 c0 c1' c2' c3' w0 w1'
                  obtain ⟨y4, y5⟩ := HE7.out
                  obtain ⟨c0, c1', c2', c3'⟩ := HK.out W3 HBW3.out
                  by_cases hpt : 0 ≤ kpt
                  · obtain ⟨q, rfl⟩ : ∃ q : Nat, kpt = q := ⟨kpt.toNat, by omega⟩
                    have hqlt : q < n2 := by omega
                    obtain ⟨ad1, nm, rfl, hab1, hnm, p0⟩ := loadS (HLW.out.grow HBW3.out HBW3.out.size).pt hqlt
                    have hnl : (str nm).size ≤ 12 := by rw [size_str]; exact nameErr_len (done := []) (HVAL.out.pt nm (List.mem_of_getElem? hnm))
                    have hqx : (q : Int) < (n2 : Int) := by omega
                    have hq0 : (0 : Int) ≤ q := by omega
                    have q1 : (str (dec kps)).size ≤ 20 := by rw [size_str]; exact dec_len _ (by omega) (by omega)
                    have HLL : Hid (linkLine l ⟨qa, pa, qb, pb, q, kps⟩ = [kwLink, sa.name, endBs pa, sb.name, endBs pb, nm, dec kps]) := by
                      rw [Hid, linkLine, if_pos hpt, HNA.out, HNB.out]
                      simp [hnm]
                    clear hnm
                    have k_b : (⟨#[32]⟩ : ByteArray).size ≤ 1 ∧ 1 ≤ (⟨#[32]⟩ : ByteArray).size := by decide
                    have hl_f1 : (⟨#[32]⟩ : ByteArray).size + (str nm : ByteArray).size ≤ 9223372036854775807 := by omega
                    obtain ⟨f1, h_f1, s_f1⟩ : ∃ c : ByteArray, (⟨#[32]⟩ : ByteArray) ++ (str nm : ByteArray) = c ∧ c.size = (⟨#[32]⟩ : ByteArray).size + (str nm : ByteArray).size := ⟨_, rfl, ByteArray.size_append⟩
                    have z_f1 := Lib.hid s_f1
                    have u_f1 : f1.size ≤ 13 := by omega
                    have v_f1 : 1 ≤ f1.size := by omega
                    clear s_f1
                    have hl_f2 : (f1 : ByteArray).size + (⟨#[32]⟩ : ByteArray).size ≤ 9223372036854775807 := by omega
                    obtain ⟨f2, h_f2, s_f2⟩ : ∃ c : ByteArray, (f1 : ByteArray) ++ (⟨#[32]⟩ : ByteArray) = c ∧ c.size = (f1 : ByteArray).size + (⟨#[32]⟩ : ByteArray).size := ⟨_, rfl, ByteArray.size_append⟩
                    have z_f2 := Lib.hid s_f2
                    have u_f2 : f2.size ≤ 14 := by omega
                    have v_f2 : 1 ≤ f2.size := by omega
                    clear s_f2
                    have hl_f3 : (f2 : ByteArray).size + (str (dec kps) : ByteArray).size ≤ 9223372036854775807 := by omega
                    obtain ⟨f3, h_f3, s_f3⟩ : ∃ c : ByteArray, (f2 : ByteArray) ++ (str (dec kps) : ByteArray) = c ∧ c.size = (f2 : ByteArray).size + (str (dec kps) : ByteArray).size := ⟨_, rfl, ByteArray.size_append⟩
                    have z_f3 := Lib.hid s_f3
                    have u_f3 : f3.size ≤ 34 := by omega
                    have v_f3 : 1 ≤ f3.size := by omega
                    clear s_f3
                    have hl_f4 : (d8 : ByteArray).size + (f3 : ByteArray).size ≤ 9223372036854775807 := by omega
                    obtain ⟨f4, h_f4, s_f4⟩ : ∃ c : ByteArray, (d8 : ByteArray) ++ (f3 : ByteArray) = c ∧ c.size = (d8 : ByteArray).size + (f3 : ByteArray).size := ⟨_, rfl, ByteArray.size_append⟩
                    have z_f4 := Lib.hid s_f4
                    have u_f4 : f4.size ≤ 300000 := by omega
                    have v_f4 : 1 ≤ f4.size := by omega
                    clear s_f4
                    clear k_b
                    go_upto_region 26 with fail
                    go_quiet ((go_at_call 54; refine Calls.quiet_of_same (dec_q _ _ _ ?_ ?_) <;> omega))
                    generalize hW4 : W3.drewN _ = W4
                    have HBR4 : Hid (Below w1.heap.size w1 W4) := by rw [Hid, ← hW4]; exact Mem.below_draws HBR2.out _
                    clear hW4 y4 y5 c0 c1' c2' c3' p0
                    have k_n : (⟨#[10]⟩ : ByteArray).size ≤ 1 ∧ 1 ≤ (⟨#[10]⟩ : ByteArray).size := by decide
                    have hl_dz : (f4 : ByteArray).size + (⟨#[10]⟩ : ByteArray).size ≤ 9223372036854775807 := by omega
                    obtain ⟨dz, h_dz, s_dz⟩ : ∃ c : ByteArray, (f4 : ByteArray) ++ (⟨#[10]⟩ : ByteArray) = c ∧ c.size = (f4 : ByteArray).size + (⟨#[10]⟩ : ByteArray).size := ⟨_, rfl, ByteArray.size_append⟩
                    have z_dz := Lib.hid s_dz
                    have u_dz : dz.size ≤ 400000 := by omega
                    have v_dz : 1 ≤ dz.size := by omega
                    clear s_dz
                    have hcc : dz.size ≤ 14000 + (k + 1) * 120 := by have := z_dz.out; have := z_f4.out; omega
                    have HQ : Hid (bs dz = Strs.jt (LayT.strs (LS l ++ LP l ++ l.sections.map (secLine l) ++ (l.links.take (k + 1)).map (linkLine l)))) := by
                      rw [Hid, PNames.take_succ HS4.out, List.map_append, ← List.append_assoc, List.map_cons, List.map_nil, jt_snoc, ← HE.out, HLL.out, ← h_dz, bs_append, ← h_f4, bs_append, ← h_f3, bs_append, ← h_f2, bs_append, ← h_f1, bs_append, ← h_d8, bs_append, ← h_d7, bs_append, ← h_d6, bs_append, ← h_d5, bs_append, ← h_d4, bs_append, ← h_d3, bs_append, ← h_d2, bs_append, ← h_d1, bs_append, HBA.out, HBB.out, HCA.out, HCB.out]
                      simp [lt, Strs.sj, bs_str, kwLink, show bs (⟨#[108, 105, 110, 107, 32]⟩ : ByteArray) = [108, 105, 110, 107, 32] from rfl, show bs (⟨#[32]⟩ : ByteArray) = [32] from rfl, show bs (⟨#[10]⟩ : ByteArray) = [10] from rfl]
                    clear k_n
                    go_wp2_with fail
                    go_roundw
                    case rel => exact ⟨k + 1, dz, by omega, by go_num, rfl, hcc, by omega, HQ, HBR4.out⟩
                    case measure => simp [intOf]; omega
                  · have hneg : kpt < 0 := by omega
                    have HLL : Hid (linkLine l ⟨qa, pa, qb, pb, kpt, kps⟩ = [kwLink, sa.name, endBs pa, sb.name, endBs pb]) := by
                      rw [Hid, linkLine, if_neg hpt, HNA.out, HNB.out]; rfl
                    have k_n : (⟨#[10]⟩ : ByteArray).size ≤ 1 ∧ 1 ≤ (⟨#[10]⟩ : ByteArray).size := by decide
                    have hl_dz : (d8 : ByteArray).size + (⟨#[10]⟩ : ByteArray).size ≤ 9223372036854775807 := by omega
                    obtain ⟨dz, h_dz, s_dz⟩ : ∃ c : ByteArray, (d8 : ByteArray) ++ (⟨#[10]⟩ : ByteArray) = c ∧ c.size = (d8 : ByteArray).size + (⟨#[10]⟩ : ByteArray).size := ⟨_, rfl, ByteArray.size_append⟩
                    have z_dz := Lib.hid s_dz
                    have u_dz : dz.size ≤ 400000 := by omega
                    have v_dz : 1 ≤ dz.size := by omega
                    clear s_dz
                    have hcc : dz.size ≤ 14000 + (k + 1) * 120 := by have := z_dz.out;  omega
                    have HQ : Hid (bs dz = Strs.jt (LayT.strs (LS l ++ LP l ++ l.sections.map (secLine l) ++ (l.links.take (k + 1)).map (linkLine l)))) := by
                      rw [Hid, PNames.take_succ HS4.out, List.map_append, ← List.append_assoc, List.map_cons, List.map_nil, jt_snoc, ← HE.out, HLL.out, ← h_dz, bs_append, ← h_d8, bs_append, ← h_d7, bs_append, ← h_d6, bs_append, ← h_d5, bs_append, ← h_d4, bs_append, ← h_d3, bs_append, ← h_d2, bs_append, ← h_d1, bs_append, HBA.out, HBB.out, HCA.out, HCB.out]
                      simp [lt, Strs.sj, bs_str, kwLink, show bs (⟨#[108, 105, 110, 107, 32]⟩ : ByteArray) = [108, 105, 110, 107, 32] from rfl, show bs (⟨#[32]⟩ : ByteArray) = [32] from rfl, show bs (⟨#[10]⟩ : ByteArray) = [10] from rfl]
                    clear k_n
                    go_wp2_with fail
                    go_roundw
                    case rel => exact ⟨k + 1, dz, by omega, by go_num, rfl, hcc, by omega, HQ, HBR2.out⟩
                    case measure => simp [intOf]; omega
                · have hkx : ¬ (k : Int) < (n4 : Int) := by omega
                  have HBE := Lib.hid (HB.out.trans (HBW.out.mono (by omega)))
                  have ht9 : t.size ≤ 1000000 := by omega
                  have HQ4 : Hid (bs t = format l) := by rw [Hid, HE.out, HFM.out, lines_eq, List.take_of_length_le (by have := HE4.out; omega)]
                  clear hbr
                  go_wp2_with fail
                  go_ret
                  exact ⟨t, rfl, HQ4.out, hp1, ht9, HBE.out⟩
end Go.Proofs.YtkfobijgjdgbgaaDoor.RFmt
