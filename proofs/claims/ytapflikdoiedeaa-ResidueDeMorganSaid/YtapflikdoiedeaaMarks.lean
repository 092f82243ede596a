/-
  Contract of the document's own function that marks the residues of a set.
-/
import Derived.Test.YtapflikdoiedeaaErrs
import Derived.Deep.OwnRows
namespace Go.Proofs.Ytapflikdoiedeaa.Marks
open Go.ChangeShapes Go.WideShapes Go.ChangeAt Go.RowKit Plain Mem Nums Valid Errs
set_option linter.unusedVariables false

theorem info4 : (Try.prog.info? 4).map (fun i => (i.zero, i.size, i.bytes)) = some (some (.bool false), 1, 1) := by kernel_rfl

/-- block g is a row of n marks, that of i is f i -/
def Row (w : World) (g n : Nat) (f : Int → Bool) : Prop := w.rowIs g 4 n (fun i => .bool (f i))
section
variable {w w' : World} {g n : Nat} {f f' : Int → Bool}
theorem Row.cell (h : Row w g n f) {i : Nat} (hi : i < n) : w.cell? ⟨g, i, none⟩ = some (.bool (f i)) := World.rowIs.cell h hi
theorem Row.frozen (h : Row w g n f) (i : Nat) : w.frozen? ⟨g, i, none⟩ = false := World.rowIs.frozen h i
theorem Row.lt (h : Row w g n f) : g < w.heap.size := World.rowIs.lt h
theorem Row.congr (h : Row w g n f) (e : ∀ i : Nat, i < n → f i = f' i) : Row w g n f' := World.rowIs.congr h fun i hi => by rw [e i hi]
theorem Row.set_ (h : Row w g n f) (i : Nat) (b : Bool) : Row (w.setCell ⟨g, i, none⟩ (.bool b)) g n (fun j => if j = (i : Int) then b else f j) := by
  refine World.rowIs.congr (World.rowIs.set h i (.bool b)) fun j hj => ?_
  by_cases e : j = i
  · subst e; simp
  · have : ¬ (j : Int) = (i : Int) := by omega
    simp [e, this]
theorem Row.other (h : Row w g n f) {a : Addr} (ha : g ≠ a.block) (v : Value) : Row (w.setCell a v) g n f := World.rowIs.setOther h ha v
theorem Row.alloc (h : Row w g n f) (o : Obj) : Row (w.alloc o) g n f := World.rowIs.alloc h o
theorem Row.drewN (h : Row w g n f) (k : Nat) : Row (w.drewN k) g n f := h
theorem Row.below {B : Nat} (h : Row w g n f) (hb : Below B w w') (hg : g < B) : Row w' g n f := World.rowIs.of_block h (hb.block g hg)
theorem Row.made (w : World) (n : Nat) : Row (w.alloc (.cells (madeCells #[.bool false] n) 4)) w.heap.size n (fun _ => false) := World.rowIs_made w _ n 4
end

theorem take_mem (L : List Sp) (k : Nat) (p : Sp) (x : Int) (h : L[k]? = some p) : mem (L.take (k + 1)) x = (mem (L.take k) x || (decide (p.1 ≤ x) && decide (x < p.2))) := by
  have hk : k < L.length := (List.getElem?_eq_some_iff.1 h).1
  have e : L[k] = p := (List.getElem?_eq_some_iff.1 h).2
  rw [List.take_succ_eq_append_getElem hk, mem_append, mem_one, e]

theorem vf_get (a t : Int) (L : List Sp) (k : Nat) (p : Sp) (h : vf a t L = true) (hp : L[k]? = some p) : a ≤ p.1 ∧ p.1 < p.2 ∧ p.2 ≤ t := by
  induction L generalizing a k with
  | nil => simp at hp
  | cons q r ih =>
    rw [vf_cons] at h
    cases k with
    | zero => simp at hp; subst hp; exact ⟨h.1, h.2.1, h.2.2.1⟩
    | succ k =>
      have := ih (q.2 + 1) k h.2.2.2 (by simpa using hp)
      omega

theorem marks_any (t : Nat) (A : Option Addr) (n c : Nat) (L : List Sp) (w : World) (ht : t ≤ 7200) (hS : Spans w w.heap.size A n L) (hn : n ≤ 9223372036854775807) (hv : vf 0 t L = true) :
    Calls Try.prog 54 #[.int .i64 (t : Int), .slice A n c] w fun e w' => e = .returned (.slice (some ⟨w.heap.size, 0, none⟩) t t) ∧ Row w' w.heap.size t (mem L) ∧ Below w.heap.size w w' := by
  have HV := Lib.hid hv
  clear hv
  have hmk := run_make_row' (P := Try.prog) 62 4 (.bool false) 1 Try.underlying62 info4 rfl .i64 .i64 t (by omega) (by omega)
  go_enter Try.func54, Try.ntmps54
  go_wp2
  go_loopw [6] (fun i wr => ∃ (k : Nat), k ≤ n ∧ i = .int .i64 k ∧ Row wr w.heap.size t (mem (L.take k)) ∧ Below w.heap.size w wr) (fun i _ => n - (intOf i).toNat)
  case atStart => exact ⟨0, Nat.zero_le _, rfl, (Row.made w t).congr fun i _ => rfl, (Below.refl _ _).alloc (Nat.le_refl _) _⟩
  case round =>
    obtain ⟨k, hk, rfl, hR, hbw⟩ := hrel
    obtain ⟨wo, rfl⟩ : ∃ wo : World, wo = wr := ⟨_, rfl⟩
    have hz := hbw.size
    by_cases hlt : k < n
    · obtain ⟨ad, p, rfl, hab, hp, c0, c1⟩ := (hS.below hbw).load hlt
      have hpv := vf_get 0 t L k p HV.out hp
      have HT := Lib.hid (fun x => take_mem L k p x hp)
      have HS := Lib.hid hS
      clear hp hS
      obtain ⟨p1, p2⟩ := p
      simp only at hpv c0 c1 HT
      obtain ⟨q1, rfl⟩ : ∃ q1 : Nat, p1 = (q1 : Int) := ⟨p1.toNat, by omega⟩
      obtain ⟨q2, rfl⟩ : ∃ q2 : Nat, p2 = (q2 : Int) := ⟨p2.toNat, by omega⟩
      go_wp2
      go_loopw [7] (fun x wr => ∃ (y : Nat), q1 ≤ y ∧ y ≤ q2 ∧ x = .int .i64 y ∧ Row wr w.heap.size t (fun i => mem (L.take k) i || (decide ((q1 : Int) ≤ i) && decide (i < (y : Int)))) ∧ Below w.heap.size wo wr) (fun x _ => q2 - (intOf x).toNat)
      case atStart => exact ⟨q1, Nat.le_refl _, by omega, rfl, hR.congr fun i _ => by rw [Bool.eq_iff_iff]; simp; intro; omega, Below.refl _ _⟩
      case round =>
        obtain ⟨y, hy1, hy2, rfl, hRy, hbi⟩ := hrel
        have d1 : wr.cell? ⟨(ad.add (k * 2)).block, (ad.add (k * 2)).off + 1, none⟩ = some (.int .i64 q2) := (hbi.cell (by rw [Mem.block_add]; exact hab)).trans c1
        by_cases hyl : y < q2
        · have e1 := hRy.cell (i := y) (by omega)
          have e2 := hRy.frozen y
          have N := hRy.set_ y true
          have HN := Lib.hid N
          clear N
          go_wp2
          go_roundw
          case rel => exact ⟨y + 1, by omega, by omega, by go_num, HN.out.congr fun i hi => by
            rw [Bool.eq_iff_iff]
            by_cases e : i = y
            · subst e; simp; omega
            · have e' : ¬ (i : Int) = (y : Int) := by omega
              have e3 : i < y ↔ (i : Int) < (y : Int) + 1 := by omega
              simp [e', e3], hbi.setCell (Nat.le_refl _) _⟩
          case measure => simp [intOf]; omega
        · have F : Hid (Row wr w.heap.size t (mem (L.take (k + 1)))) := hRy.congr fun i hi => by
            rw [HT.out i]
            have : y = q2 := by omega
            subst this
            rfl
          clear hRy
          go_wp2
          go_roundw
          case rel => exact ⟨k + 1, by omega, by go_num, F.out, hbw.trans hbi⟩
          case measure => simp [intOf]; omega
    · have F : Hid (Row wo w.heap.size t (mem L)) := hR.congr fun i hi => by rw [List.take_of_length_le (by have := hS.1; omega)]
      clear hR hS
      go_wp2
      go_ret
      exact ⟨rfl, F.out, hbw⟩

end Go.Proofs.Ytapflikdoiedeaa.Marks
