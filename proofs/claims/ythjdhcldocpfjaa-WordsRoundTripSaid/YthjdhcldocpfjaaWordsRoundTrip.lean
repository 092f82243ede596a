/-
  It is proved that railplanlaw3.WordsRoundTrip returns true and changes nothing. Conditions: none.
-/
import Derived.Test.YthjdhcldocpfjaaFrame
import Derived.Test.YthjdhcldocpfjaaPJoin
import Derived.Test.YthjdhcldocpfjaaCmt
import Derived.Test.YthjdhcldocpfjaaMade
import Derived.Test.YthjdhcldocpfjaaBack
import Derived.ProofKit
import Derived.OpenShut
import Derived.Lib.OthersKept
import Derived.Laws.Concat
namespace Go.Proofs.Ythjdhcldocpfjaa.wordsRoundTrip
open Go.ChangeShapes Go.WideShapes Go.ChangeAt Go.ChangeMaps Go.RowKit Wd Mem Aids
set_option linter.unusedVariables false

theorem own : ownKnob Try.prog.godebug = none := by kernel_rfl

open Strs Go.Proofs.Ythjdhcldocpfjaa.Made Back
theorem info9 : (Try.prog.info? 9).map (fun i => (i.zero, i.size, i.bytes)) = some (some (.string ByteArray.empty), 1, 16) := by kernel_rfl
theorem info39 : (Try.prog.info? 39).map (fun i => (i.zero, i.size, i.bytes)) = some (some (.slice none 0 0), 1, 24) := by kernel_rfl
def Good (X : List ByteArray) : Prop := AllFine X ∧ 1 ≤ X.length ∧ X.length ≤ 64
/-- what the list of lists holds behind k words -/
def Head (w wr : World) (k : Nat) (v : Value) : Prop :=
  (k = 0 ∧ v = .slice none 0 0) ∨ (0 < k ∧ ∃ Bq us u M L, St wr w.heap.size Bq v us u M L ∧ (∀ X ∈ M, Good X) ∧ Good L ∧ us.length + 1 ≤ k ∧ L.length ≤ k ∧ wtL M + wt L + 1 ≤ 9 * k)
def tbl : Array Value := #[.string ⟨#[120]⟩, .string ⟨#[45, 49]⟩, .string ⟨#[46, 46]⟩, .string ⟨#[126, 125]⟩, .string ⟨#[78, 97, 109, 101, 95, 49]⟩, .string ⟨#[33, 34, 36]⟩]
theorem tbl_at (q : Nat) (h : q < 6) : ∃ V : ByteArray, tbl[q]? = some (.string V) ∧ V.size ≤ 6 ∧ Cmt.Fine (bs V) := by
  match q, h with
  | 0, _ => exact ⟨_, rfl, by decide, by decide, by decide⟩
  | 1, _ => exact ⟨_, rfl, by decide, by decide, by decide⟩
  | 2, _ => exact ⟨_, rfl, by decide, by decide, by decide⟩
  | 3, _ => exact ⟨_, rfl, by decide, by decide, by decide⟩
  | 4, _ => exact ⟨_, rfl, by decide, by decide, by decide⟩
  | 5, _ => exact ⟨_, rfl, by decide, by decide, by decide⟩
  | i + 6, h => exact absurd h (by omega)
theorem one_cell (x : Value) (hx : x.oneCell' = true) : ∀ u ∈ [x], u.oneCell' = true := by
  intro u hu
  simp only [List.mem_cons, List.not_mem_nil, or_false] at hu
  subst hu; exact hx
theorem head_grid {w wr : World} {k : Nat} {v : Value} (h : Head w wr k v) (hk : k ≤ 60) : ∃ A n c LL, v = .slice A n c ∧ Grid wr wr.heap.size A n LL ∧ n ≤ 60 ∧ Hid (∀ X ∈ LL, Good X) ∧ wtL LL ≤ 600 := by
  rcases h with ⟨_, rfl⟩ | ⟨_, Bq, us, u, M, L, hS, hM, hL, hus, hLk, hwt⟩
  · exact ⟨none, 0, 0, [], rfl, ⟨rfl, fun j X hX => by simp at hX⟩, by omega, nofun, by simp [wtL]⟩
  · obtain ⟨g, c, rfl, _, _⟩ := hS.form
    refine ⟨_, _, c, M ++ [L], rfl, hS.grid, by omega, fun X hX => ?_, by rw [wtL_snoc]; omega⟩
    rw [List.mem_append] at hX
    rcases hX with hX | hX
    · exact hM X hX
    · simp at hX; subst hX; exact hL
set_option maxRecDepth 100000 in
set_option maxHeartbeats 1600000 in
theorem walk (A0 : Option Addr) (n0 c0 : Nat) (hn0 : n0 ≤ c0) (hc0 : c0 ≤ 9223372036854775807) (a1 : Int) (w1 : (Lit.int .u8 a1).wf = true) (w : World) (hB0 : Aids.Byts w A0 n0) (m : Int) (hm : w.cell? ⟨0, 0, none⟩ = some (.int .i64 m)) :
    Calls Try.prog 12 #[.slice A0 n0 c0, .int .u8 a1] w (Yes w) := by
  obtain ⟨i9, hi9, hz90, hz91, hz92⟩ := info_parts info9
  obtain ⟨i39, hi39, hz390, hz391, hz392⟩ := info_parts info39
  have b1 := Frame.bounds_u8 w1
  have ht7 : a1.tmod 7 = a1 % 7 := Int.tmod_eq_emod_of_nonneg b1.1
  obtain ⟨cc, hcc, hcc7⟩ : ∃ cc : Nat, a1 % 7 = cc ∧ cc < 7 := ⟨(a1 % 7).toNat, by omega, by omega⟩
  rw [hcc] at ht7
  go_enter Try.func12, Try.ntmps12
  go_wp2_with fail
  go_loopw [5, 6] (fun v i wr => ∃ k : Nat, k ≤ n0 ∧ k ≤ 60 ∧ i = .int .i64 k ∧ Head w wr k v ∧ Below w.heap.size w wr) (fun _ i _ => n0 - (intOf i).toNat)
  case atStart => exact ⟨0, by omega, by omega, rfl, .inl ⟨rfl, rfl⟩, Below.refl _ _⟩
  case round =>
    obtain ⟨k, hk, hk60, rfl, hH, hbr⟩ := hrel
    have hzr := hbr.size
    by_cases hmore : k < n0 ∧ k < 60
    · obtain ⟨hlt, h60⟩ := hmore
      obtain ⟨ad, b, rfl, hb1, hb2⟩ := (hB0.below hbr) k hlt
      have hb256 := b.toNat_lt
      have hmod : ((b.toNat : Int)).tmod 6 = ((b.toNat % 6 : Nat) : Int) := by rw [Int.tmod_eq_emod_of_nonneg (by omega)]; rfl
      have hq6 : b.toNat % 6 < 6 := by omega
      generalize b.toNat % 6 = q at *
      obtain ⟨V, hlit, hV6, hVF⟩ := tbl_at q hq6
      have hcell : (wr.alloc (.cells tbl 9)).cell? ⟨wr.heap.size, q, none⟩ = some (.string V) :=
        (cell_of_row _ wr.heap.size q _ 9 (0, 0) (heap_alloc_new wr _)).trans hlit
      have hb3 : (wr.alloc (.cells tbl 9)).cell? (ad.add k) = some (.int .u8 b.toNat) :=
        (((Below.refl wr.heap.size wr).alloc (Nat.le_refl _) _).cell (by rw [Mem.block_add]; exact hb1)).trans hb2
      have hbX : Below w.heap.size w (wr.alloc (.cells tbl 9)) := hbr.alloc hzr _
      have hzX := hbX.size
      have hVF2 := Lib.hid hVF
      clear hVF
      unfold tbl at hcell hb3 hlit hbX hzX
      rcases hH with ⟨rfl, rfl⟩ | ⟨hk0, Bq, us, u, M, L, hS, hM, hL, hus, hLk, hwt⟩
      · -- the first word
        have hb3' : (wr.alloc (.cells #[.string ⟨#[120]⟩, .string ⟨#[45, 49]⟩, .string ⟨#[46, 46]⟩, .string ⟨#[126, 125]⟩, .string ⟨#[78, 97, 109, 101, 95, 49]⟩, .string ⟨#[33, 34, 36]⟩] 9)).cell? ad = some (.int .u8 b.toNat) := by simpa [Addr.add] using hb3
        go_wp2_with (at_builtin; refine wpList_append_own _ rfl (.tmp 38) (.tmp 39) 46 rfl w.heap.size 39 i39 _ 1 24 Try.underlying46 hi39 hz390 hz391 hz392 rfl (by omega) (.slice none 0 0) 0 [] rfl (World.ownsRow_nil _ _ _ _) ⟨wr.heap.size + 1, 0, none⟩ 1 1 [.slice none 0 0] rfl rfl (by have := Made.new_one (wr.alloc (.cells #[.string ⟨#[120]⟩, .string ⟨#[45, 49]⟩, .string ⟨#[46, 46]⟩, .string ⟨#[126, 125]⟩, .string ⟨#[78, 97, 109, 101, 95, 49]⟩, .string ⟨#[33, 34, 36]⟩] 9)) (.slice none 0 0) 39; simpa using this) (one_cell _ rfl) (by unfold maxLen; omega) (by omega) (by simp; omega) ?_)
        intro v wl hownl hgrowl _
        have hbw : Below w.heap.size w wl := (hbX.alloc hzX _).grown hgrowl (by simp; omega) (fun j hj => by simp [Value.ownBlock] at hj)
        obtain ⟨B0, us0, u0, M0, L0, hSt, HE⟩ : ∃ B0 us0 u0 M0 L0, St wl w.heap.size B0 v us0 u0 M0 L0 ∧ Hid (us0 = [] ∧ M0 = [] ∧ L0 = []) := ⟨_, _, _, _, _, St.first hbw.size (by simpa using hownl), rfl, rfl, rfl⟩
        have hus0 : us0.length ≤ 1 := by rw [HE.out.1]; simp
        have hL0 : L0.length ≤ 1 := by rw [HE.out.2.2]; simp
        clear hcell hb3 hb3' hlit hownl hgrowl
        have hg0 := hSt.form
        obtain ⟨g, cv, rfl, q1, q2⟩ := hg0
        obtain ⟨Au, cu, rfl, q3, q4⟩ := hSt.lastForm
        obtain ⟨x0, x1, x2, x3⟩ := hSt.cell
        have hlast := hSt.last
        have hzw := hbw.size
        have hle1 := hSt.le1
        have hle2 := hSt.le2
        go_wp2_with (at_builtin; refine wpList_append_own _ rfl (.tmp 50) (.tmp 52) 39 rfl B0 9 i9 _ 1 16 Try.underlying39 hi9 hz90 hz91 hz92 rfl (by omega) (.slice Au L0.length cu) L0.length (sv L0) rfl (hlast.alloc _) ⟨wl.heap.size, 0, none⟩ 1 1 [.string V] rfl rfl (Made.new_one _ _ _) (one_cell _ rfl) (by unfold maxLen; omega) (by omega) (by simp; omega) ?_)
        intro u' w2 hown' hgrow _
        have hmid := hSt.mid hgrow
        obtain ⟨y0, y1⟩ := hmid
        have hS2 := hSt.word hown' hgrow
        have hbw2 : Below w.heap.size w w2 := (hbw.alloc hzw _).grown hgrow (by simp; omega) (fun j hj => Nat.le_trans hle1 (block_ge hlast j hj).1)
        have hbw3 := hbw2.setCell (p := ⟨g, us0.length, none⟩) x2 u'
        obtain ⟨Au', cu', rfl, _, _⟩ : ∃ A' c', u' = .slice A' (L0.length + 1) c' ∧ True ∧ True := by
          rcases hown'.2 with ⟨_, e⟩ | ⟨g', cap, cur, rfl, _⟩
          · omega
          · exact ⟨_, _, rfl, trivial, trivial⟩
        clear hSt hown' hgrow hlast
        go_wp2_with fail
        go_roundw
        case rel => exact ⟨1, by omega, by omega, by go_num, .inr ⟨by omega, B0, us0, _, M0, L0 ++ [V], hS2, by rw [HE.out.2.1]; exact nofun, by rw [HE.out.2.2]; exact ⟨by intro x hx; simp at hx; subst hx; exact hVF2.out, by simp, by simp⟩, by rw [HE.out.1]; simp, by rw [HE.out.2.2]; simp, by rw [HE.out.2.1, HE.out.2.2]; simp [wtL, wt]; omega⟩, hbw3⟩
        case measure => simp [intOf]; omega
      · have hSX := hS.alloc (.cells #[.string ⟨#[120]⟩, .string ⟨#[45, 49]⟩, .string ⟨#[46, 46]⟩, .string ⟨#[126, 125]⟩, .string ⟨#[78, 97, 109, 101, 95, 49]⟩, .string ⟨#[33, 34, 36]⟩] 9)
        clear hS
        by_cases hnew : k % (1 + cc) = 0
        · have hkm : (k : Int) % (1 + (cc : Int)) = 0 := by exact_mod_cast hnew
          obtain ⟨g0, cv0, rfl, q10, q20⟩ := hSX.form
          have hout := hSX.outer
          go_wp2_with (at_builtin; refine wpList_append_own _ rfl (.tmp 38) (.tmp 39) 46 rfl w.heap.size 39 i39 _ 1 24 Try.underlying46 hi39 hz390 hz391 hz392 rfl (by omega) (.slice (some ⟨g0, 0, none⟩) (us.length + 1) cv0) (us.length + 1) (us ++ [u]) rfl (hout.alloc _) ⟨wr.heap.size + 1, 0, none⟩ 1 1 [.slice none 0 0] rfl rfl (by have := Made.new_one (wr.alloc (.cells #[.string ⟨#[120]⟩, .string ⟨#[45, 49]⟩, .string ⟨#[46, 46]⟩, .string ⟨#[126, 125]⟩, .string ⟨#[78, 97, 109, 101, 95, 49]⟩, .string ⟨#[33, 34, 36]⟩] 9)) (.slice none 0 0) 39; simpa using this) (one_cell _ rfl) (by unfold maxLen; omega) (by omega) (by simp; omega) ?_)
          intro v wl hownl hgrowl _
          have hbw : Below w.heap.size w wl := (hbX.alloc hzX _).grown hgrowl (by simp; omega) (fun j hj => (block_ge hout j hj).1)
          obtain ⟨B0, us0, u0, M0, L0, hSt, hus0, HE⟩ : ∃ B0 us0 u0 M0 L0, St wl w.heap.size B0 v us0 u0 M0 L0 ∧ us0.length ≤ us.length + 1 ∧ Hid (M0 = M ++ [L] ∧ L0 = []) := ⟨_, _, _, _, _, hSX.line (by simpa using hownl) hgrowl, by simp, rfl, rfl⟩
          have hL0 : L0.length ≤ 1 := by rw [HE.out.2]; simp
          clear hcell hb3 hlit hownl hgrowl hSX hout
          have hg0 := hSt.form
          obtain ⟨g, cv, rfl, q1, q2⟩ := hg0
          obtain ⟨Au, cu, rfl, q3, q4⟩ := hSt.lastForm
          obtain ⟨x0, x1, x2, x3⟩ := hSt.cell
          have hlast := hSt.last
          have hzw := hbw.size
          have hle1 := hSt.le1
          have hle2 := hSt.le2
          go_wp2_with (at_builtin; refine wpList_append_own _ rfl (.tmp 50) (.tmp 52) 39 rfl B0 9 i9 _ 1 16 Try.underlying39 hi9 hz90 hz91 hz92 rfl (by omega) (.slice Au L0.length cu) L0.length (sv L0) rfl (hlast.alloc _) ⟨wl.heap.size, 0, none⟩ 1 1 [.string V] rfl rfl (Made.new_one _ _ _) (one_cell _ rfl) (by unfold maxLen; omega) (by omega) (by simp; omega) ?_)
          intro u' w2 hown' hgrow _
          have hmid := hSt.mid hgrow
          obtain ⟨y0, y1⟩ := hmid
          have hS2 := hSt.word hown' hgrow
          have hbw2 : Below w.heap.size w w2 := (hbw.alloc hzw _).grown hgrow (by simp; omega) (fun j hj => Nat.le_trans hle1 (block_ge hlast j hj).1)
          have hbw3 := hbw2.setCell (p := ⟨g, us0.length, none⟩) x2 u'
          obtain ⟨Au', cu', rfl, _, _⟩ : ∃ A' c', u' = .slice A' (L0.length + 1) c' ∧ True ∧ True := by
            rcases hown'.2 with ⟨_, e⟩ | ⟨g', cap, cur, rfl, _⟩
            · omega
            · exact ⟨_, _, rfl, trivial, trivial⟩
          clear hSt hown' hgrow hlast
          go_wp2_with fail
          go_roundw
          case rel => exact ⟨k + 1, by omega, by omega, by go_num, .inr ⟨by omega, B0, us0, _, M0, L0 ++ [V], hS2, by rw [HE.out.1]; intro X hX; rw [List.mem_append] at hX; rcases hX with hX | hX; exact hM X hX; simp at hX; subst hX; exact hL, by rw [HE.out.2]; exact ⟨by intro x hx; simp at hx; subst hx; exact hVF2.out, by simp, by simp⟩, by omega, by rw [HE.out.2]; simp, by rw [HE.out.1, HE.out.2, wtL_snoc]; simp [wt]; omega⟩, hbw3⟩
          case measure => simp [intOf]; omega
        · have hkm : ((k : Int) % (1 + (cc : Int)) == 0) = false := by rw [beq_eq_false_iff_ne]; exact_mod_cast hnew
          have hSt := hSX
          have hbw := hbX
          have hle3 : Bq ≤ wr.heap.size + 1 := by have := hSX.le2; simpa using this
          clear hSX
          have hg0 := hSt.form
          obtain ⟨g, cv, rfl, q1, q2⟩ := hg0
          obtain ⟨Au, cu, rfl, q3, q4⟩ := hSt.lastForm
          obtain ⟨x0, x1, x2, x3⟩ := hSt.cell
          have hlast := hSt.last
          have hzw := hbw.size
          have hle1 := hSt.le1
          have hle2 := hSt.le2
          go_wp2_with (at_builtin; refine wpList_append_own _ rfl (.tmp 50) (.tmp 52) 39 rfl Bq 9 i9 _ 1 16 Try.underlying39 hi9 hz90 hz91 hz92 rfl (by omega) (.slice Au L.length cu) L.length (sv L) rfl (hlast.alloc _) ⟨(wr.heap.size + 1), 0, none⟩ 1 1 [.string V] rfl rfl (by have := Made.new_one (wr.alloc (.cells #[.string ⟨#[120]⟩, .string ⟨#[45, 49]⟩, .string ⟨#[46, 46]⟩, .string ⟨#[126, 125]⟩, .string ⟨#[78, 97, 109, 101, 95, 49]⟩, .string ⟨#[33, 34, 36]⟩] 9)) (.string V) 9; simpa using this) (one_cell _ rfl) (by unfold maxLen; omega) (by omega) (by simp; omega) ?_)
          intro u' w2 hown' hgrow _
          have hmid := hSt.mid hgrow
          obtain ⟨y0, y1⟩ := hmid
          have hS2 := hSt.word hown' hgrow
          have hbw2 : Below w.heap.size w w2 := (hbw.alloc hzw _).grown hgrow (by simp; omega) (fun j hj => Nat.le_trans hle1 (block_ge hlast j hj).1)
          have hbw3 := hbw2.setCell (p := ⟨g, us.length, none⟩) x2 u'
          obtain ⟨Au', cu', rfl, _, _⟩ : ∃ A' c', u' = .slice A' (L.length + 1) c' ∧ True ∧ True := by
            rcases hown'.2 with ⟨_, e⟩ | ⟨g', cap, cur, rfl, _⟩
            · omega
            · exact ⟨_, _, rfl, trivial, trivial⟩
          clear hSt hown' hgrow hlast
          go_wp2_with fail
          go_roundw
          case rel => exact ⟨k + 1, by omega, by omega, by go_num, .inr ⟨by omega, Bq, us, _, M, L ++ [V], hS2, hM, ⟨by intro x hx; rw [List.mem_append] at hx; rcases hx with hx | hx; exact hL.1 x hx; simp at hx; subst hx; exact hVF2.out, by rw [List.length_append]; simp, by rw [List.length_append]; simp; omega⟩, by omega, by rw [List.length_append]; simp; omega, by rw [wt_snoc]; omega⟩, hbw3⟩
          case measure => simp [intOf]; omega
    · obtain ⟨A, n, c, LL, rfl, hG, hn60, HGd, hw600⟩ := head_grid hH hk60
      by_cases hlt : k < n0
      · have h60 : ¬ k < 60 := fun h => hmore ⟨hlt, h⟩
        go_wp2_with fail
        refine (PJoin.p_join A n c LL _ hG (by omega) (by omega)).mono ?_
        rintro e w1 ⟨rfl, hb1⟩
        have hmx := keep_cell hbr hm
        have hmy := keep_cell hb1 hmx
        have hjs : (str (joinT LL)).size ≤ 600 := by
          rw [size_str, join_fine LL HGd.out]
          have := jt_len LL; omega
        have hlin : Lin.linesOf (bs (str (joinT LL))) = (tl 1 LL, 0, 0) := by rw [bs_str]; exact lines_join LL HGd.out (by omega)
        go_wp2_with fail
        refine (PLines.p_lines _ m _ (by omega) hmy).mono ?_
        rintro e w2 ⟨A2, n2, c2, rfl, hO, hb2⟩
        rw [hlin] at hO ⊢
        have hmz := keep_cell hb2 hmy
        have hn2 : n2 = n := by obtain ⟨us, h, _⟩ := hO; rw [← h, tl_len]; exact hG.1
        subst hn2
        go_wp2_with fail
        refine (awake_any m _ hmz).mono ?_
        rintro e w3 ⟨rfl, hb3⟩
        have hO3 := hO.below hb3 (Nat.le_refl _)
        have hG3 := ((hG.below hb1).below (hb2.mono hb1.size)).below (hb3.mono (Nat.le_trans hb1.size hb2.size))
        have hbz : Below w.heap.size w w3 := ((hbr.trans (hb1.mono hzr)).trans (hb2.mono (Nat.le_trans hzr hb1.size))).trans (hb3.mono (Nat.le_trans hzr (Nat.le_trans hb1.size hb2.size)))
        clear hO hG hlin hm hmx hmy hmz hb1 hb2 hb3 hjs
        go_wp2_with fail
        go_loopw [77] (fun i wq => ∃ j : Nat, j ≤ n2 ∧ i = .int .i64 j ∧ ∃ nd, wq = w3.drewN nd) (fun i _ => n2 - (intOf i).toNat)
        case atStart => exact ⟨0, by omega, rfl, 0, rfl⟩
        case round =>
          obtain ⟨j, hj, rfl, nd, rfl⟩ := hrel
          by_cases hjn : j < n2
          · obtain ⟨ad1, L1, B1, b1', rfl, hab1, hL1, x0, r1, q1, q2⟩ := hO3.load hjn
            obtain ⟨ad2, L2, B2, b2', rfl, hab2, hL2, y0, r2, q3, q4⟩ := hG3.load hjn
            have hsw : L1 = sw (1 + (j : Int)) 0 L2 := by
              rw [tl_get, hL2] at hL1
              exact (Option.some.inj hL1).symm
            have hlen : L1.length = L2.length := by rw [hsw, sw_len]
            have h64 : L2.length ≤ 64 := (HGd.out L2 (List.mem_of_getElem? hL2)).2.2
            rw [hlen] at x0 r1
            have HSW := Lib.hid hsw
            clear hO3 hG3 hL1 hL2 hsw hlen q1
            generalize hz : L2.length = z at *
            have hz2 : ∀ i, i < z → ∃ s, L2[i]? = some s := fun i hi => ⟨_, List.getElem?_eq_getElem (by omega)⟩
            have HZ2 := Lib.hid hz2
            clear hz2 hz
            go_wp2_with fail
            go_quiet (fail)
            go_wp2_with fail
            go_loopw [96] (fun i wq => ∃ t : Nat, t ≤ z ∧ i = .int .i64 t ∧ ∃ nd, wq = w3.drewN nd) (fun i _ => z - (intOf i).toNat)
            case atStart => exact ⟨0, by omega, rfl, _, rfl⟩
            case round =>
              obtain ⟨t, ht, rfl, nd2, rfl⟩ := hrel
              by_cases htz : t < z
              · obtain ⟨s, hs⟩ := HZ2.out t htz
                obtain ⟨cl, hcl⟩ := sw_get (1 + (j : Int)) L2 0 t s hs
                obtain ⟨e1, p1, rfl, _, hp1, t0, t1, t2⟩ := r1.load htz
                obtain ⟨e2, s2, rfl, _, hs2, u0⟩ := r2.load htz
                rw [HSW.out, hcl] at hp1
                cases hp1
                rw [hs] at hs2
                cases hs2
                simp only [str_bs] at t0
                have t1' : w3.cell? ⟨(e1.add (t * 3)).block, (e1.add (t * 3)).off + 1, none⟩ = some (.int .i64 ((j : Int) + 1)) := by rw [Int.add_comm]; exact t1
                clear r1 r2 hs hcl t1 t2 HSW HZ2
                go_wp2_with fail
                go_quiet (fail)
                go_wp2_with fail
                go_roundw
                case rel => exact ⟨t + 1, by omega, by go_num, _, rfl⟩
                case measure => simp [intOf]; omega
              · clear r1 r2
                go_wp2_with fail
                go_roundw
                case rel => exact ⟨j + 1, by omega, by go_num, _, rfl⟩
                case measure => simp [intOf]; omega
          · clear hO3 hG3
            go_wp2_with fail
            go_ret
            exact ⟨rfl, Mem.below_draws hbz nd⟩
      · clear hmore
        go_wp2_with fail
        refine (PJoin.p_join A n c LL _ hG (by omega) (by omega)).mono ?_
        rintro e w1 ⟨rfl, hb1⟩
        have hmx := keep_cell hbr hm
        have hmy := keep_cell hb1 hmx
        have hjs : (str (joinT LL)).size ≤ 600 := by
          rw [size_str, join_fine LL HGd.out]
          have := jt_len LL; omega
        have hlin : Lin.linesOf (bs (str (joinT LL))) = (tl 1 LL, 0, 0) := by rw [bs_str]; exact lines_join LL HGd.out (by omega)
        go_wp2_with fail
        refine (PLines.p_lines _ m _ (by omega) hmy).mono ?_
        rintro e w2 ⟨A2, n2, c2, rfl, hO, hb2⟩
        rw [hlin] at hO ⊢
        have hmz := keep_cell hb2 hmy
        have hn2 : n2 = n := by obtain ⟨us, h, _⟩ := hO; rw [← h, tl_len]; exact hG.1
        subst hn2
        go_wp2_with fail
        refine (awake_any m _ hmz).mono ?_
        rintro e w3 ⟨rfl, hb3⟩
        have hO3 := hO.below hb3 (Nat.le_refl _)
        have hG3 := ((hG.below hb1).below (hb2.mono hb1.size)).below (hb3.mono (Nat.le_trans hb1.size hb2.size))
        have hbz : Below w.heap.size w w3 := ((hbr.trans (hb1.mono hzr)).trans (hb2.mono (Nat.le_trans hzr hb1.size))).trans (hb3.mono (Nat.le_trans hzr (Nat.le_trans hb1.size hb2.size)))
        clear hO hG hlin hm hmx hmy hmz hb1 hb2 hb3 hjs
        go_wp2_with fail
        go_loopw [77] (fun i wq => ∃ j : Nat, j ≤ n2 ∧ i = .int .i64 j ∧ ∃ nd, wq = w3.drewN nd) (fun i _ => n2 - (intOf i).toNat)
        case atStart => exact ⟨0, by omega, rfl, 0, rfl⟩
        case round =>
          obtain ⟨j, hj, rfl, nd, rfl⟩ := hrel
          by_cases hjn : j < n2
          · obtain ⟨ad1, L1, B1, b1', rfl, hab1, hL1, x0, r1, q1, q2⟩ := hO3.load hjn
            obtain ⟨ad2, L2, B2, b2', rfl, hab2, hL2, y0, r2, q3, q4⟩ := hG3.load hjn
            have hsw : L1 = sw (1 + (j : Int)) 0 L2 := by
              rw [tl_get, hL2] at hL1
              exact (Option.some.inj hL1).symm
            have hlen : L1.length = L2.length := by rw [hsw, sw_len]
            have h64 : L2.length ≤ 64 := (HGd.out L2 (List.mem_of_getElem? hL2)).2.2
            rw [hlen] at x0 r1
            have HSW := Lib.hid hsw
            clear hO3 hG3 hL1 hL2 hsw hlen q1
            generalize hz : L2.length = z at *
            have hz2 : ∀ i, i < z → ∃ s, L2[i]? = some s := fun i hi => ⟨_, List.getElem?_eq_getElem (by omega)⟩
            have HZ2 := Lib.hid hz2
            clear hz2 hz
            go_wp2_with fail
            go_quiet (fail)
            go_wp2_with fail
            go_loopw [96] (fun i wq => ∃ t : Nat, t ≤ z ∧ i = .int .i64 t ∧ ∃ nd, wq = w3.drewN nd) (fun i _ => z - (intOf i).toNat)
            case atStart => exact ⟨0, by omega, rfl, _, rfl⟩
            case round =>
              obtain ⟨t, ht, rfl, nd2, rfl⟩ := hrel
              by_cases htz : t < z
              · obtain ⟨s, hs⟩ := HZ2.out t htz
                obtain ⟨cl, hcl⟩ := sw_get (1 + (j : Int)) L2 0 t s hs
                obtain ⟨e1, p1, rfl, _, hp1, t0, t1, t2⟩ := r1.load htz
                obtain ⟨e2, s2, rfl, _, hs2, u0⟩ := r2.load htz
                rw [HSW.out, hcl] at hp1
                cases hp1
                rw [hs] at hs2
                cases hs2
                simp only [str_bs] at t0
                have t1' : w3.cell? ⟨(e1.add (t * 3)).block, (e1.add (t * 3)).off + 1, none⟩ = some (.int .i64 ((j : Int) + 1)) := by rw [Int.add_comm]; exact t1
                clear r1 r2 hs hcl t1 t2 HSW HZ2
                go_wp2_with fail
                go_quiet (fail)
                go_wp2_with fail
                go_roundw
                case rel => exact ⟨t + 1, by omega, by go_num, _, rfl⟩
                case measure => simp [intOf]; omega
              · clear r1 r2
                go_wp2_with fail
                go_roundw
                case rel => exact ⟨j + 1, by omega, by go_num, _, rfl⟩
                case measure => simp [intOf]; omega
          · clear hO3 hG3
            go_wp2_with fail
            go_ret
            exact ⟨rfl, Mem.below_draws hbz nd⟩

theorem readable : ∀ t ∈ Try.f12.params.toList, Try.prog.readableRec t = true ∧ t < Try.prog.types.size := by
  rw [Try.params12]
  exact Frame.rrs _ rfl

set_option maxRecDepth 100000 in
theorem lifted (os : Os) (started : os.Started) (H : Type) (enc : TypeId × Value → H) :
    ReturnsInHanded {} Try.checked os 12 .any (Rows.wordsRoundTripSpec.pre6 enc Try.prog Try.f12 Rows.wordsRoundTripRow.domain false) (Rows.wordsRoundTripSpec.post enc Try.prog Try.f12 false true false false) := by
  refine returnsInHanded_of_change_shaped (C := Try.checked) own started (by kernel_rfl) Try.func12
    (ChangeSpec.witness6 (enc := enc) (C := Try.checked) false ⟨#[], #[.slice none 0 0, .int .u8 0], []⟩ 8 (by kernel_rfl) (by kernel_rfl) (by kernel_rfl) (by kernel_rfl)) ?_
  intro W base args ds gs before hval0 hW hcnd _ hsh _
  obtain ⟨m, hm⟩ := Frame.cell W hsh
  have hval : ∀ (j : Nat) t v, Try.f12.params[j]? = some t → args[j]? = some v → Value.okWide Try.prog W .any base t v := hval0
  have hW' := hW
  obtain ⟨p, q, hA0, hV, rfl, hfz, hnd⟩ := hW
  have hA : DataW.TrodAll enc Try.prog W 0 (fun _ => true) true Try.f12.params.toList args.toList ds p := hA0
  rw [Try.params12] at hA hval
  obtain ⟨v0, vs0, d0, ds0, p0, q0, hargs, rfl, rfl, h0, r0⟩ := trodAll_cons hA
  obtain ⟨v1, vs1, d1, ds1, p1, q1, rfl, rfl, rfl, h1, r1⟩ := trodAll_cons r0
  obtain ⟨rfl, rfl, rfl⟩ := trodAll_nil r1
  obtain rfl : args = #[v0, v1] := by cases args; simp_all
  obtain ⟨rfl, rfl⟩ := trodVars_none hV
  obtain ⟨A0, n0, c0, rfl, hB0, hn0, hc0⟩ := Frame.arg_bytes (hval 0 35 v0 rfl rfl) h0
  obtain ⟨a1, rfl, _, _, w1⟩ := open_int Try.underlying5 (hval 1 5 v1 rfl rfl) h1
  clear hA0 hval0
  refine (walk A0 n0 c0 hn0 hc0 a1 w1 W hB0 m hm).mono fun e W' ⟨he, hg⟩ => ?_
  subst he
  exact ⟨_, rfl, Frame.post_law (t4 := 4) Frame.laid readable Try.underlying4 rfl rfl rfl rfl rfl rfl hW' hg⟩

theorem over : Rows.wordsRoundTripRow.holds Try.pinned (OpenSpec.ofChange Rows.wordsRoundTripSpec) :=
  OpenClaim.holds_of_wide 12 Try.f12 rfl rfl rfl rfl rfl rfl rfl ⟨rfl, rfl, rfl, rfl, rfl⟩ rfl rfl rfl rfl rfl (by kernel_rfl) Try.func12 (by kernel_rfl)
    (of_decide_eq_true (by kernel_rfl)) (by unfold Func.isWrapper; first | (rw [if_pos (by decide +kernel)]; kernel_rfl) | (rw [if_neg (by decide +kernel)]; exact ⟨rfl, rfl⟩))
    (fun os started H enc _ => lifted os started H enc)

theorem proved : Rows.WordsRoundTripSaid :=
  over
#print axioms proved
end Go.Proofs.Ythjdhcldocpfjaa.wordsRoundTrip
