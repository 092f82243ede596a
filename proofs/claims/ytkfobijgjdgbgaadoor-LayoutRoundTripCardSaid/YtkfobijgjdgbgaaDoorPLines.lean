/-
  Contract of the program's function that divides a text into lines of words.
-/
import Derived.Test.YtkfobijgjdgbgaaDoorOf
namespace Go.Proofs.YtkfobijgjdgbgaaDoor.PLines
open Go.ChangeShapes Go.WideShapes Go.ChangeAt Go.RowKit Wd Small Lin Mem Bytes Of
set_option linter.unusedVariables false

theorem info33 : (Tryd.prog.info? 71).map (fun i => (i.zero, i.size, i.bytes)) = some (some (.slice none 0 0), 1, 24) := by kernel_rfl

/-- what a call leaves that answers the lines of a text -/
def LinesPost (l : Bs) (w : World) (e : Ending) (w' : World) : Prop := ∃ A n c, e = .returned (.tuple #[.slice A n c, .int .i64 (linesOf l).2.1, .int .i64 (linesOf l).2.2]) ∧ OwnL w' w.heap.size (.slice A n c) n (linesOf l).1 ∧ Below w.heap.size w w'

/-- the text up to a line feed -/
theorem p_nl (s : ByteArray) (m : Int) (w : World) (hs : s.size ≤ 65536) (hm : w.cell? ⟨0, 0, none⟩ = some (.int .i64 m)) :
    Calls Tryd.prog 67 #[.string s, .string ⟨#[10]⟩] w fun e w' => ∃ (a b : ByteArray) (f : Bool) (n : Nat), e = .returned (.tuple #[.string a, .string b, .bool f]) ∧ w' = w.drewN n ∧ a.size ≤ 65536 ∧ b.size ≤ 65536 ∧ split (bs s) = bs a :: (if f then split (bs b) else []) ∧ (f = true → b.size < s.size) := by
  refine (Tryd.strings_Cut s ⟨#[10]⟩ m w (by omega) hm).mono ?_
  rintro e w' ⟨rfl, n, rfl⟩
  have hc : Lib.cut s.data.toList [10] = _ := cut_one 10 (bs s)
  have hl := bs_length s
  have h1 : ((bs s).takeWhile (· != 10)).length ≤ (bs s).length := List.Sublist.length_le (List.takeWhile_sublist _)
  have h2 : ((bs s).dropWhile (· != 10)).length ≤ (bs s).length := List.Sublist.length_le (List.dropWhile_sublist _)
  refine ⟨_, _, _, n, rfl, rfl, ?_, ?_, ?_, ?_⟩
  · show (str (Lib.cut s.data.toList [10]).1).size ≤ 65536
    rw [size_str, hc]; simp only; omega
  · show (str (Lib.cut s.data.toList [10]).2.1).size ≤ 65536
    rw [size_str, hc]; simp only [List.length_drop]; omega
  · show split (bs s) = (Lib.cut s.data.toList [10]).1 :: (if (Lib.cut s.data.toList [10]).2.2 = true then split (Lib.cut s.data.toList [10]).2.1 else [])
    rw [hc]
    exact split_eq (bs s)
  · show (Lib.cut s.data.toList [10]).2.2 = true → (str (Lib.cut s.data.toList [10]).2.1).size < s.size
    rw [size_str, hc]
    simp only [List.length_drop]
    intro hcon
    have : 0 < (bs s).length := by
      cases hb : bs s with
      | nil => rw [hb] at hcon; simp at hcon
      | cons _ _ => simp
    omega

theorem new_one (w : World) (v : Value) (e : TypeId) : ∀ (j : Nat) (u : Value), [v][j]? = some u → (w.alloc (.cells #[v] e)).cell? ((⟨w.heap.size, 0, none⟩ : Addr).add j) = some u := by
  intro j u hu
  match j, hu with
  | 0, hu => simp at hu; subst hu; simp [Addr.add]
theorem one_one (A : Option Addr) (n c : Nat) : ∀ u ∈ [Value.slice A n c], u.oneCell' = true := by
  intro u hu
  simp only [List.mem_cons, List.not_mem_nil, or_false] at hu
  subst hu; rfl
/-- behind the append of one line to a list of the call's own -/
theorem appendedL {B cc n : Nat} {w w1 w2 : World} {v : Value} {T : List (List W)} {L : List W} {A A1 : Option Addr} {c1 : Nat} {us : List Value} {o : Obj} (hbw : Below B w w1) (hB : B ≤ w1.heap.size) (hl : T.length = n) (hown : w1.ownsRow B 71 1 (.slice A n cc) n us) (hR : Mem.Rows w1 B us T)
    (hL : Own w1 B (.slice A1 L.length c1) L.length L) (hown' : w2.ownsRow B 71 1 v (n + 1) (us ++ [.slice A1 L.length c1])) (hgrow : (w1.alloc o).grownBy w2 (Value.slice A n cc).ownBlock) :
    ∃ A' c', v = .slice A' (n + 1) c' ∧ OwnL w2 B (.slice A' (n + 1) c') (n + 1) (T ++ [L]) ∧ Below B w w2 := by
  have hk : ∀ u M, Row w1 B u M → Row w2 B u M := fun u M hr => Own.kept (Own.alloc hr o) (hown.alloc o) hgrow
  have h : OwnL w2 B v (n + 1) (T ++ [L]) := ⟨_, by simp [hl], hown', Rows.snoc (hk _ _ hL) (Rows.imp hk hR)⟩
  obtain ⟨A', c', rfl, _⟩ := h.form
  exact ⟨A', c', rfl, h, (hbw.alloc hB _).grown hgrow (by simp; omega) (fun k hk => (hown.lt k hk).1)⟩

/-- what is left of the loop: the rest's length, while there is more -/
def left (r m : Value) : Nat := match m with
  | .bool true => (match r with | .string s => s.size + 1 | _ => 0)
  | _ => 0
theorem left_more (s : ByteArray) : left (.string s) (.bool true) = s.size + 1 := rfl
theorem left_done (s : ByteArray) : left (.string s) (.bool false) = 0 := rfl
theorem left_lt {b t : ByteArray} {f : Bool} (h : f = true → b.size < t.size) : left (.string b) (.bool f) < left (.string t) (.bool true) := by
  rw [left_more]
  cases f with
  | false => rw [left_done]; omega
  | true => rw [left_more]; have := h rfl; omega

set_option maxRecDepth 100000 in
set_option maxHeartbeats 1000000 in
theorem p_lines (s : ByteArray) (m : Int) (w : World) (hs : s.size ≤ 9223372036854775807) (hm : w.cell? ⟨0, 0, none⟩ = some (.int .i64 m)) : Calls Tryd.prog 34 #[.string s] w (LinesPost (bs s) w) := by
  obtain ⟨i0, hi, hz0, hz1, hz2⟩ := info_parts info33
  have h0 : 0 < w.heap.size := World.block_lt_of_cell? w _ hm
  by_cases hbig : 65536 < s.size
  · have HB : Hid (linesOf (bs s) = ([], 0, 7)) := by rw [Hid, linesOf, bs_length, if_pos hbig]
    go_enter Tryd.func34, Tryd.ntmps34
    go_wp2_with fail
    go_ret3
    exact ⟨none, 0, 0, by rw [HB.out]; rfl, by rw [HB.out]; exact OwnL.nil _ _, Below.refl _ _⟩
  · have HS : Hid (linesOf (bs s) = go [] 1 (split (bs s))) := by rw [Hid, linesOf, bs_length, if_neg hbig]
    go_enter Tryd.func34, Tryd.ntmps34
    go_wp2_with fail
    go_loopw [5, 6, 7, 8] (fun o r mo x wr => ∃ (q n cc : Nat) (A : Option Addr) (T : List (List W)) (t : ByteArray) (f : Bool), (f = true → q + t.size ≤ 65537) ∧ q ≤ 65538 ∧ 1 ≤ q ∧ n < q ∧ t.size ≤ 65536 ∧ x = .int .i64 q ∧ o = .slice A n cc ∧ r = .string t ∧ mo = .bool f ∧ OwnL wr w.heap.size (.slice A n cc) n T ∧ Hid (linesOf (bs s) = go T q (if f then split (bs t) else [])) ∧ Below w.heap.size w wr) (fun _ r mo _ _ => left r mo)
    case atStart => exact ⟨1, 0, 0, none, [], s, true, fun _ => by omega, by omega, by omega, by omega, by omega, rfl, rfl, rfl, rfl, OwnL.nil _ _, HS, Below.refl _ _⟩
    case round =>
      obtain ⟨q, n, cc, A, T, t, f, hq, hq2, hq1, hnq, ht, rfl, rfl, rfl, rfl, hO, HE, hbw⟩ := hrel
      clear HS
      have hz := hbw.size
      cases f with
      | false =>
        have HF : Hid (linesOf (bs s) = (T, 0, 0)) := HE.out
        clear HE
        go_wp2_with fail
        go_ret3
        exact ⟨A, n, cc, by rw [HF.out]; rfl, by rw [HF.out]; exact hO, hbw⟩
      | true =>
        have hq := hq rfl
        have hm1 := hbw.cell (p := ⟨0, 0, none⟩) h0 |>.trans hm
        go_wp2_with fail
        refine (p_nl t m _ ht hm1).mono ?_
        rintro e w1 ⟨a, b, f, nd, rfl, hw1, za, zb, hsp, hlt⟩
        have HE2 : Hid (linesOf (bs s) = go T q (bs a :: (if f then split (bs b) else []))) := by rw [Hid, HE.out, ← hsp]; rfl
        have hb0 : Below w.heap.size wr w1 := by rw [hw1]; exact Mem.below_draws (Below.refl _ _) _
        have hO1 : OwnL w1 w.heap.size (.slice A n cc) n T := by rw [hw1]; exact hO.drewN _
        have hm2 : w1.cell? ⟨0, 0, none⟩ = some (.int .i64 m) := by rw [hw1]; exact hm1
        have hbw1 := hbw.trans hb0
        have hz1' := hbw1.size
        clear HE hsp hw1 hO hb0 hm1
        go_wp2_with fail
        refine (of_any a q m _ za (by omega) (by omega) hm2).mono ?_
        rintro e w2 ⟨A1, n1, c1, rfl, hO2, hb2⟩
        have hO3 := hO1.below hb2 (Nat.le_refl _)
        have hO4 := hO2.base_ hz1'
        have hbw2 := hbw1.trans (hb2.mono hz1')
        have hz2' := hbw2.size
        clear hO1 hO2 hb2 hm2
        by_cases he : lineErr q (bs a) = 0
        · have HE3 : Hid (linesOf (bs s) = go (if (lineWords q (bs a)).length = 0 then T else T ++ [lineWords q (bs a)]) (q + 1) (if f then split (bs b) else [])) := by
            rw [Hid, HE2.out]; simp only [go, he, if_true]
          have hwd : lineOut q (bs a) = lineWords q (bs a) := by simp [lineOut, he]
          rw [hwd] at hO4
          have hlen := hO4.1
          rw [he]
          clear HE2 he hwd
          by_cases hn1 : n1 = 0
          · rw [hn1] at hlen
            rw [if_pos hlen] at HE3
            go_wp2_with fail
            go_roundw
            case rel => exact ⟨q + 1, n, cc, A, T, b, f, fun e => by have := hlt e; omega, by omega, by omega, by omega, zb, by go_num, rfl, rfl, rfl, hO3, HE3, hbw2⟩
            case measure => exact left_lt hlt
          · rw [if_neg (by omega)] at HE3
            generalize lineWords q (bs a) = L at *
            subst hlen
            obtain ⟨us, hl, hown, hR⟩ := hO3
            go_wp2_with (at_builtin; refine wpList_append_own _ rfl (.tmp 38) (.tmp 40) 66 rfl w.heap.size 71 i0 _ 1 24 Tryd.underlying66 hi hz0 hz1 hz2 rfl (by omega) (.slice A n cc) n us rfl (hown.alloc _) ⟨w2.heap.size, 0, none⟩ 1 1 [.slice A1 L.length c1] rfl rfl (new_one _ _ _) (one_one _ _ _) (by unfold maxLen; omega) (by omega) (by simp; omega) ?_)
            intro v w3 hown' hgrow _
            obtain ⟨A', c', rfl, hO', hb'⟩ := appendedL hbw2 hz2' hl hown hR hO4 hown' hgrow
            clear hown hown' hgrow hR hO4
            go_wp2
            go_roundw
            case rel => exact ⟨q + 1, n + 1, c', A', _, b, f, fun e => by have := hlt e; omega, by omega, by omega, by omega, zb, by go_num, rfl, rfl, rfl, hO', HE3, hb'⟩
            case measure => exact left_lt hlt
        · have HE3 : Hid (linesOf (bs s) = ([], (q : Int), lineErr q (bs a))) := by
            rw [Hid, HE2.out]; simp only [go, he, if_false]
          have hne : (lineErr q (bs a) == 0) = false := by rw [beq_eq_false_iff_ne]; exact he
          have hne2 : (lineErr q (bs a) != 0) = true := by rw [bne_iff_ne]; exact he
          clear HE2 he
          go_wp2_with fail
          go_ret3
          exact ⟨none, 0, 0, by rw [HE3.out]; rfl, by rw [HE3.out]; exact OwnL.nil _ _, hbw2⟩

end Go.Proofs.YtkfobijgjdgbgaaDoor.PLines
