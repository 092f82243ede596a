/-
  It is proved that railplanlaw3.WordsJoins returns true and changes nothing. Condition: the arguments hold together at most 1048576 values and letters.
-/
import Derived.Test.YthjdhcldocpfjaaFrame
import Derived.Test.YthjdhcldocpfjaaPJoin
import Derived.Test.YthjdhcldocpfjaaRJoin
import Derived.Test.YthjdhcldocpfjaaMade
import Derived.Test.YthjdhcldocpfjaaArgs
import Derived.Test.YthjdhcldocpfjaaBack
import Derived.ProofKit
import Derived.OpenShut
import Derived.JoinedCond
namespace Go.Proofs.Ythjdhcldocpfjaa.wordsJoins
open Go.ChangeShapes Go.WideShapes Go.ChangeAt Go.ChangeMaps Go.RowKit Wd Mem Aids
set_option linter.unusedVariables false

theorem own : ownKnob Try.prog.godebug = none := by kernel_rfl

open Strs Go.Proofs.Ythjdhcldocpfjaa.Made
theorem info39 : (Try.prog.info? 39).map (fun i => (i.zero, i.size, i.bytes)) = some (some (.slice none 0 0), 1, 24) := by kernel_rfl
theorem one_cell (x : Value) (hx : x.oneCell' = true) : ∀ u ∈ [x], u.oneCell' = true := by
  intro u hu
  simp only [List.mem_cons, List.not_mem_nil, or_false] at hu
  subst hu; exact hx
theorem own_below {w w' : World} {B size n : Nat} {e : TypeId} {v : Value} {xs : List Value} (h : w.ownsRow B e size v n xs) (hb : Below w.heap.size w w') : w'.ownsRow B e size v n xs :=
  h.kept (row := none) ⟨hb.os, hb.tape, hb.output, hb.size, fun k hk _ => hb.block k hk⟩ (by
    cases hv : v.ownBlock with
    | none => exact .inl rfl
    | some g => exact .inr (by simp))
theorem grid_of {w : World} {B Bq k c : Nat} {A : Option Addr} {us : List Value} {M : List (List ByteArray)} (h : w.ownsRow B 39 1 (.slice A k c) k us) (hO : Olds w B Bq us M) : Grid w w.heap.size A k M := by
  have hlen := hO.len
  have hk : us.length = k := by have := h.1; simpa using this
  refine ⟨by omega, fun j X hX => ?_⟩
  have hj : j < k := by have := (List.getElem?_eq_some_iff.1 hX).1; omega
  rcases h.2 with ⟨_, e⟩ | ⟨g, cap, cur, e, _, hh, _⟩
  · omega
  · have hA : A = some ⟨g, 0, none⟩ := by injection e
    subst hA
    obtain ⟨y, hy, ho⟩ := hO.get hX
    obtain ⟨A1, c1, rfl, q1, q2⟩ := own_form ho.1
    exact ⟨_, A1, c1, rfl, lt_of_block hh, h.cells (g := g) rfl j _ hy, row_of_own ho.1, q1, by unfold maxLen at q2; omega⟩
theorem new_row (w : World) (a b : ByteArray) (B : Nat) (hB : B ≤ w.heap.size) : (w.alloc (.cells #[.string a, .string b] 9)).ownsRow B 9 1 (.slice (some ⟨w.heap.size, 0, none⟩) 2 2) 2 (sv [a, b]) :=
  ⟨rfl, .inr ⟨w.heap.size, 2, #[.string a, .string b], rfl, hB, heap_alloc_new w _, Nat.le_refl _, by unfold maxLen; omega, rfl, rfl⟩⟩
set_option maxRecDepth 100000 in
set_option maxHeartbeats 1600000 in
theorem walk (A0 : Option Addr) (n0 c0 : Nat) (LL0 : List (List ByteArray)) (hn0 : n0 ≤ 9223372036854775807) (A1 : Option Addr) (n1 c1 : Nat) (hn1 : n1 ≤ c1) (hc1 : c1 ≤ 9223372036854775807) (w : World) (hG0 : Strs.Grid w w.heap.size A0 n0 LL0) (hB1 : Aids.Byts w A1 n1) (m : Int) (hm : w.cell? ⟨0, 0, none⟩ = some (.int .i64 m)) (y0 : Strs.wtL LL0 ≤ 1048576) :
    Calls Try.prog 11 #[.slice A0 n0 c0, .slice A1 n1 c1] w (Yes w) := by
  obtain ⟨i39, hi39, hz390, hz391, hz392⟩ := info_parts info39
  go_enter Try.func11, Try.ntmps11
  go_wp2_with fail
  go_loopw [5, 6] (fun v i wr => ∃ (k : Nat) (us : List Value) (M : List (List ByteArray)), k ≤ n1 ∧ k ≤ 20 ∧ i = .int .i64 k ∧ wr.ownsRow w.heap.size 39 1 v k us ∧ Olds wr w.heap.size wr.heap.size us M ∧ M.length = k ∧ wtL M ≤ 2000 * k ∧ Below w.heap.size w wr) (fun _ i _ => n1 - (intOf i).toNat)
  case atStart =>
    refine ⟨0, [], [], by omega, by omega, rfl, ⟨rfl, .inr ⟨w.heap.size, 0, #[], rfl, Nat.le_refl _, heap_alloc_new w _, Nat.le_refl _, Nat.zero_le _, rfl, rfl⟩⟩, trivial, rfl, by simp [wtL], (Below.refl _ _).alloc (Nat.le_refl _) _⟩
  case round =>
    obtain ⟨k, us, M, hk, hk20, rfl, hown, hO, hML, hwt, hbr⟩ := hrel
    have hzr := hbr.size
    have hus : us.length = k := by have := hown.1; simpa using this
    by_cases hmore : k < n1 ∧ k < 20
    · obtain ⟨hlt, h20⟩ := hmore
      have hBr := hB1.below hbr
      obtain ⟨ad, b, rfl, hb1, hb2⟩ := hBr k hlt
      have hmin : min ((k : Int) + 1) (n1 : Int) = (k : Int) + 1 := by omega
      have hck : ¬ c1 = k := by omega
      have hBk : Byts wr (some (ad.add k)) 1 := by
        intro j hj
        obtain rfl : j = 0 := by omega
        exact ⟨ad.add k, b, rfl, by rw [Mem.block_add]; exact hb1, by rw [show (ad.add k).add 0 = ad.add k from by simp [Addr.add]]; exact hb2⟩
      go_wp2_with fail
      refine (pieces_any _ 1 _ _ (by omega) hBk).mono ?_
      rintro e w1 ⟨t, rfl, ht, hb1⟩
      obtain ⟨A5, c5, hv5⟩ : ∃ A c, u5 = .slice A k c := by
        rcases hown.2 with ⟨e, e2⟩ | ⟨g, cap, cur, e, _⟩
        · subst e2; exact ⟨none, 0, e⟩
        · exact ⟨_, cap, e⟩
      subst hv5
      have hown1 := own_below hown hb1
      have hO1 : Olds w1 w.heap.size w1.heap.size us M := hO.imp fun u L hr => ⟨own_below hr.1 hb1, fun g e => Nat.lt_of_lt_of_le (hr.2 g e) hb1.size⟩
      have hbw1 := hbr.trans (hb1.mono hzr)
      have hz1' := hbw1.size
      have sb : (ByteArray.mk #[98]).size = 1 := rfl
      obtain ⟨S, hS, zS⟩ : ∃ S, (⟨#[98]⟩ : ByteArray) ++ t = S ∧ S.size ≤ 1041 := ⟨_, rfl, by rw [ByteArray.size_append]; omega⟩
      have g1 : (ByteArray.mk #[98]).size + t.size ≤ 9223372036854775807 := by omega
      have hrow := new_row w1 ⟨#[97]⟩ S w.heap.size hz1'
      clear hB1 hBr hBk hb2 hown hO
      go_wp2_with (at_builtin; refine wpList_append_own _ rfl (.tmp 18) (.tmp 30) 46 rfl w.heap.size 39 i39 _ 1 24 Try.underlying46 hi39 hz390 hz391 hz392 rfl (by omega) (.slice A5 k c5) k us rfl ((hown1.alloc _).alloc _) ⟨w1.heap.size + 1, 0, none⟩ 1 1 [.slice (some ⟨w1.heap.size, 0, none⟩) 2 2] rfl rfl (by have := Made.new_one (w1.alloc (.cells #[.string ⟨#[97]⟩, .string S] 9)) (.slice (some ⟨w1.heap.size, 0, none⟩) 2 2) 39; simpa using this) (one_cell _ rfl) (by unfold maxLen; omega) (by omega) (by simp; omega) ?_)
      intro v w3 hown' hgrow _
      have houter := (hown1.alloc (.cells #[.string ⟨#[97]⟩, .string S] 9)).alloc (.cells #[.slice (some ⟨w1.heap.size, 0, none⟩) 2 2] 39)
      have hz3 : w1.heap.size + 2 ≤ w3.heap.size := by have := hgrow.size; simp at this; omega
      have hO3 : Olds w3 w.heap.size w3.heap.size us M := hO1.imp fun u L hr =>
        ⟨inner_kept ((hr.1.alloc _).alloc _) houter hgrow, fun g e => by have := hr.2 g e; omega⟩
      have hnew : Old w3 w.heap.size w3.heap.size (.slice (some ⟨w1.heap.size, 0, none⟩) 2 2) [⟨#[97]⟩, S] :=
        ⟨inner_kept (hrow.alloc _) houter hgrow, fun g e => by simp [Value.ownBlock] at e; omega⟩
      have hO4 := hO3.snoc hnew
      have hbw3 : Below w.heap.size w w3 := ((hbw1.alloc hz1' _).alloc (by simp; omega) _).grown hgrow (by simp; omega) (fun j hj => (block_ge houter j hj).1)
      have hwt2 : wtL (M ++ [[⟨#[97]⟩, S]]) ≤ 2000 * (k + 1) := by
        rw [Back.wtL_snoc]
        have : (ByteArray.mk #[97]).size = 1 := rfl
        simp only [wt]; omega
      clear hown1 hO1 hrow hgrow houter hO3 hnew
      go_wp2_with fail
      go_roundw
      case rel => exact ⟨k + 1, _, _, by omega, by omega, by go_num, hown', hO4, by rw [List.length_append, hML]; rfl, hwt2, hbw3⟩
      case measure => simp [intOf]; omega
    · by_cases hlt : k < n1
      · have h20 : ¬ k < 20 := fun h => hmore ⟨hlt, h⟩
        go_wp2_with fail
        obtain ⟨A5, c5, hv5⟩ : ∃ A c, u5 = .slice A k c := by
          rcases hown.2 with ⟨e, e2⟩ | ⟨g, cap, cur, e, _⟩
          · subst e2; exact ⟨none, 0, e⟩
          · exact ⟨_, cap, e⟩
        subst hv5
        have hGm := grid_of hown hO
        have hmr := keep_cell hbr hm
        have hG0r := (hG0.below hbr).more hzr
        clear hown hO hB1
        refine (awake_any m _ hmr).mono ?_
        rintro e w1 ⟨rfl, hb1⟩
        have hG1 := (hG0r.below hb1).more hb1.size
        have hM1 := (hGm.below hb1).more hb1.size
        have hbw1 := hbr.trans (hb1.mono hzr)
        clear hG0r hGm hmr hG0 hm
        go_wp2_with fail
        refine (PJoin.p_join A0 n0 c0 LL0 _ hG1 hn0 (by omega)).mono ?_
        rintro e w2 ⟨rfl, hb2⟩
        have hG2 := (hG1.below hb2).more hb2.size
        have hM2 := (hM1.below hb2).more hb2.size
        have hbw2 := hbw1.trans (hb2.mono hbw1.size)
        clear hG1 hM1
        go_wp2_with fail
        refine (RJoin.r_join A0 n0 c0 LL0 _ hG2 hn0 (by omega)).mono ?_
        rintro e w' ⟨rfl, rfl⟩
        go_wp2_with fail
        refine (PJoin.p_join A5 k c5 M _ hM2 (by omega) (by omega)).mono ?_
        rintro e w3 ⟨rfl, hb3⟩
        have hM3 := (hM2.below hb3).more hb3.size
        have hbw3 := hbw2.trans (hb3.mono hbw2.size)
        clear hG2 hM2
        go_wp2_with fail
        refine (RJoin.r_join A5 k c5 M _ hM3 (by omega) (by omega)).mono ?_
        rintro e w' ⟨rfl, rfl⟩
        go_wp2_with fail
        go_ret
        exact ⟨Small.retb (by simp), hbw3⟩
      · clear hmore
        go_wp2_with fail
        obtain ⟨A5, c5, hv5⟩ : ∃ A c, u5 = .slice A k c := by
          rcases hown.2 with ⟨e, e2⟩ | ⟨g, cap, cur, e, _⟩
          · subst e2; exact ⟨none, 0, e⟩
          · exact ⟨_, cap, e⟩
        subst hv5
        have hGm := grid_of hown hO
        have hmr := keep_cell hbr hm
        have hG0r := (hG0.below hbr).more hzr
        clear hown hO hB1
        refine (awake_any m _ hmr).mono ?_
        rintro e w1 ⟨rfl, hb1⟩
        have hG1 := (hG0r.below hb1).more hb1.size
        have hM1 := (hGm.below hb1).more hb1.size
        have hbw1 := hbr.trans (hb1.mono hzr)
        clear hG0r hGm hmr hG0 hm
        go_wp2_with fail
        refine (PJoin.p_join A0 n0 c0 LL0 _ hG1 hn0 (by omega)).mono ?_
        rintro e w2 ⟨rfl, hb2⟩
        have hG2 := (hG1.below hb2).more hb2.size
        have hM2 := (hM1.below hb2).more hb2.size
        have hbw2 := hbw1.trans (hb2.mono hbw1.size)
        clear hG1 hM1
        go_wp2_with fail
        refine (RJoin.r_join A0 n0 c0 LL0 _ hG2 hn0 (by omega)).mono ?_
        rintro e w' ⟨rfl, rfl⟩
        go_wp2_with fail
        refine (PJoin.p_join A5 k c5 M _ hM2 (by omega) (by omega)).mono ?_
        rintro e w3 ⟨rfl, hb3⟩
        have hM3 := (hM2.below hb3).more hb3.size
        have hbw3 := hbw2.trans (hb3.mono hbw2.size)
        clear hG2 hM2
        go_wp2_with fail
        refine (RJoin.r_join A5 k c5 M _ hM3 (by omega) (by omega)).mono ?_
        rintro e w' ⟨rfl, rfl⟩
        go_wp2_with fail
        go_ret
        exact ⟨Small.retb (by simp), hbw3⟩

theorem readable : ∀ t ∈ Try.f11.params.toList, Try.prog.readableRec t = true ∧ t < Try.prog.types.size := by
  rw [Try.params11]
  exact Frame.rrs _ rfl

set_option maxRecDepth 100000 in
theorem lifted (os : Os) (started : os.Started) (H : Type) (enc : TypeId × Value → H) (F : Stop.Interp) :
    ReturnsInHanded {} Try.checked os 11 .any ((Rows.OpenSpec.upto Rows.wordsJoinsSpec).pre6 enc Try.prog Try.f11 Rows.wordsJoinsUptoRow.domain false) (((Rows.OpenSpec.upto Rows.wordsJoinsSpec).at F).post enc Try.prog Try.f11 false true false false) := by
  refine returnsInHanded_of_calls (C := Try.checked) (f := 11) own started (by kernel_rfl)
    (OpenSpec.witness (enc := enc) (C := Try.checked) (f := 11) (fn := Try.f11) (conds := Rows.wordsJoinsUptoRow.domain) (apart := false) (s := Rows.OpenSpec.upto Rows.wordsJoinsSpec) (k := Rows.uptoSmall) rfl false ⟨#[], #[.slice none 0 0, .slice none 0 0], []⟩ 8 (by kernel_rfl) (by kernel_rfl) (by kernel_rfl)
      (x := ([.nil, .nil], [], [])) (by kernel_rfl) rfl (by kernel_rfl)) ?_
  intro w0 tape i _ hsh _ hok hpre hholds
  obtain ⟨_, _, _, fn', hfn', _, _, _, _, hval0⟩ := hok
  have efn : fn' = Try.f11 := Option.some.inj (hfn'.symm.trans Try.func11)
  subst efn
  obtain ⟨ds, gs, before, hw0, hcnd, hk⟩ := (OpenSpec.pre_some (s := Rows.OpenSpec.upto Rows.wordsJoinsSpec) (k := Rows.uptoSmall) rfl _ _ _ _).1 hpre.1
  have hW0 := DataW.Whole.of_heap (w' := w0.forCall tape i) (by rfl) hw0
  obtain ⟨m, hm⟩ := Frame.cell _ hsh
  generalize w0.forCall tape i = W at *
  generalize i.args = args at *
  have hval : ∀ (j : Nat) t v, Try.f11.params[j]? = some t → args[j]? = some v → Value.okWide Try.prog W .any _ t v := hval0
  have hW : DataW.Whole enc Try.prog Try.f11.params.toList Rows.wordsJoinsSpec.vars false W args.toList ds gs before := hW0
  have hW' := hW
  obtain ⟨p, q, hA0, hV, rfl, hfz, hnd⟩ := hW
  have hA : DataW.TrodAll enc Try.prog W 0 (fun _ => true) true Try.f11.params.toList args.toList ds p := hA0
  rw [Try.params11] at hA hval
  obtain ⟨v0, vs0, d0, ds0, p0, q0, hargs, rfl, rfl, h0, r0⟩ := trodAll_cons hA
  obtain ⟨v1, vs1, d1, ds1, p1, q1, rfl, rfl, rfl, h1, r1⟩ := trodAll_cons r0
  obtain ⟨rfl, rfl, rfl⟩ := trodAll_nil r1
  obtain rfl : args = #[v0, v1] := by cases args; simp_all
  obtain ⟨rfl, rfl⟩ := trodVars_none hV
  obtain ⟨A0, n0, c0, LL0, rfl, hG0, hn0, hwt0⟩ := Args.arg_grid (hval 0 46 v0 rfl rfl) h0
  obtain ⟨A1, n1, c1, rfl, hB1, hn1, hc1⟩ := Frame.arg_bytes (hval 1 35 v1 rfl rfl) h1
  have hbulk : Rows.uptoBulkAll _ ≤ 1048576 := of_decide_eq_true hk
  simp only [List.append_nil, Rows.uptoBulkAll] at hbulk
  clear hA0 hval0 hW0 hw0 hpre hk
  have hcall : Calls Try.prog 11 #[.slice A0 n0 c0, .slice A1 n1 c1] W fun e W' => ∃ v, e = .returned v ∧ Rows.wordsJoinsSpec.post enc Try.prog Try.f11 false true false false W #[.slice A0 n0 c0, .slice A1 n1 c1] v W' := by
    refine (walk A0 n0 c0 LL0 hn0 A1 n1 c1 hn1 hc1 W hG0 hB1 m hm  (by omega)).mono fun e W' ⟨he, hg⟩ => ?_
    subst he
    exact ⟨_, rfl, Frame.post_law (t4 := 4) Frame.laid readable Try.underlying4 rfl rfl rfl rfl rfl rfl hW' hg⟩
  refine hcall.mono fun e W' ⟨v, he, hp⟩ => ?_
  subst he
  exact ChangeSpec.post_blind hp

theorem over : Rows.wordsJoinsUptoRow.holds Try.pinned (Rows.OpenSpec.upto Rows.wordsJoinsSpec) :=
  OpenClaim.holds_of_cond 11 Try.f11 rfl rfl rfl rfl rfl rfl rfl ⟨rfl, rfl, rfl, rfl, rfl⟩ rfl rfl rfl rfl rfl (by kernel_rfl) Try.func11 (by kernel_rfl)
    (of_decide_eq_true (by kernel_rfl)) (by unfold Func.isWrapper; first | (rw [if_pos (by decide +kernel)]; kernel_rfl) | (rw [if_neg (by decide +kernel)]; exact ⟨rfl, rfl⟩))
    (fun os started H enc _ F => lifted os started H enc F)

theorem proved : Rows.WordsJoinsUptoSaid :=
  over
#print axioms proved
end Go.Proofs.Ythjdhcldocpfjaa.wordsJoins
