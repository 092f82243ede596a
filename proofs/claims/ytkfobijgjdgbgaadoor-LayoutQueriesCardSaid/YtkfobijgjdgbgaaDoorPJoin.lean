/-
  Contract of the program's function that joins lists of words.
-/
import Derived.Test.YtkfobijgjdgbgaaDoorStrs
import Derived.Test.YtkfobijgjdgbgaaDoorBuild
import Derived.Test.YtkfobijgjdgbgaaDoorShelf
namespace Go.Proofs.YtkfobijgjdgbgaaDoor.PJoin
open Go.ChangeShapes Go.WideShapes Go.ChangeAt Go.RowKit Wd Small Lin Mem Bytes Strs
set_option linter.unusedVariables false

theorem cells_append (a b : Bs) : Lib.byteCells a ++ Lib.byteCells b = Lib.byteCells (a ++ b) := (Lib.byteCells_append a b).symm
theorem cells_str (s : ByteArray) : Lib.strCells s = Lib.byteCells (bs s) := rfl
theorem cells_one (c : UInt8) : [Value.int .u8 (c.toNat : Int)] = Lib.byteCells [c] := rfl

set_option maxRecDepth 100000 in
set_option maxHeartbeats 1000000 in
theorem p_join (A : Option Addr) (n c : Nat) (LL : List (List ByteArray)) (w : World) (hG : Grid w w.heap.size A n LL) (hn : n ≤ 9223372036854775807) (hN : wtL LL ≤ 140737488355328) :
    Calls Tryd.prog 40 #[.slice A n c] w fun e w' => e = .returned (.string (str (joinT LL))) ∧ Below w.heap.size w w' := by
  go_enter Tryd.func40, Tryd.ntmps40
  go_wp2_with fail
  have HS := Lib.hid (Todo.start LL 140737488355328 hN)
  have hI0 := Lib.fresh_isBuilder 128 5 w
  have hlen0 := hG.1
  go_loopw [10] (fun x wr => ∃ (k : Nat) (acc : Bs), k ≤ n ∧ x = .int .i64 k ∧ Lib.IsBuilder 128 5 w.heap.size w.heap.size (Lib.byteCells acc) wr ∧ Hid (Todo (joinT LL) acc (LL.drop k) 140737488355328) ∧ Below w.heap.size w wr) (fun x _ => n - (intOf x).toNat)
  case atStart => exact ⟨0, [], by omega, rfl, hI0, HS, (Below.refl _ _).alloc (Nat.le_refl _) _⟩
  case round =>
    obtain ⟨k, acc, hk, rfl, hI, HL, hbw⟩ := hrel
    clear HS hI0
    have hz := hbw.size
    by_cases hlt : k < n
    · obtain ⟨ad, L, A1, c1, rfl, hab, hLk, c0, hR, hl1, hl2⟩ := (hG.below hbw).load hlt
      have hd := drop_at hLk
      rw [hd] at HL
      have hR0 : Row w w.heap.size A1 L.length L := by
        obtain ⟨ad', A', c', e, _, x0, x1, _, _⟩ := hG.2 k L hLk
        cases e
        have hcc := (hbw.cell (p := ad.add k) (by rw [Mem.block_add]; exact hab)).symm.trans c0
        rw [x0] at hcc
        cases hcc
        exact x1
      clear hd hLk hR
      by_cases hok : 1 ≤ L.length ∧ L.length ≤ 64
      · have HI := Lib.hid (HL.out.inside hok.1 hok.2)
        have o1 : ((L.length : Int) == 0) = false := by rw [beq_eq_false_iff_ne]; omega
        have o2 : (L.length : Int) ≤ 64 := by omega
        clear HL hok
        go_wp2_with fail
        go_loopw [24] (fun y wx => ∃ (i : Nat) (acc' : Bs), i ≤ L.length ∧ y = .int .i64 i ∧ Lib.IsBuilder 128 5 w.heap.size w.heap.size (Lib.byteCells acc') wx ∧ Hid (TodoIn (joinT LL) acc' (decide (i = 0)) (L.drop i) (LL.drop (k + 1)) 140737488355328) ∧ Below w.heap.size w wx) (fun y _ => L.length - (intOf y).toNat)
        case atStart => exact ⟨0, acc, by omega, rfl, hI, HI, hbw⟩
        case round =>
          obtain ⟨i, acc', hi, rfl, hJ, HJ, hbx⟩ := hrel
          clear HI hI
          have hzx := hbx.size
          by_cases hil : i < L.length
          · obtain ⟨ad1, s, rfl, hab1, hLi, d0⟩ := (hR0.below hbx).load hil
            have hd := drop_at hLi
            rw [hd] at HJ
            have hsz : acc'.length + s.size + 2 ≤ 140737488355328 := by
              have := HJ.out.2
              simp only [wt] at this
              omega
            have hjl : (Lib.byteCells acc').length = acc'.length := Lib.byteCells_length _
            clear hd hLi
            cases hw : isWord (bs s) with
            | false =>
              have HT := Lib.hid (HJ.out.bad hw)
              go_wp2_with (go_at_call 74; refine (p_isWord s _ (by omega)).mono ?_; rintro e w' ⟨rfl, rfl⟩; rw [hw])
              go_ret
              exact ⟨by rw [HT.out]; rfl, hbx⟩
            | true =>
              by_cases hi0 : i = 0
              · subst hi0
                have HN := HJ.out.next hw
                simp only [decide_true, if_true, List.nil_append] at HN
                have HN := Lib.hid HN
                have d0' : wr.cell? ad1 = some (.string s) := by simpa [Addr.add] using d0
                go_wp2_with (go_at_call 74; refine (p_isWord s _ (by omega)).mono ?_; rintro e w' ⟨rfl, rfl⟩; rw [hw])
                refine (Build.write_string w.heap.size w.heap.size _ s _ hJ (by omega) (by omega)).mono ?_
                rintro e w2 ⟨rfl, hJ2, hb2⟩
                rw [cells_str, cells_append] at hJ2
                go_wp2_with fail
                go_roundw
                case rel => exact ⟨1, acc' ++ bs s, by omega, by go_num, hJ2, HN, hbx.trans hb2⟩
                case measure => simp [intOf]; omega
              · have HN := HJ.out.next hw
                rw [decide_eq_false hi0] at HN
                simp only [Bool.false_eq_true, if_false] at HN
                have HN := Lib.hid HN
                have hip : (0 : Int) < i := by omega
                go_wp2_with (go_at_call 74; refine (p_isWord s _ (by omega)).mono ?_; rintro e w' ⟨rfl, rfl⟩; rw [hw])
                refine (Build.write_byte w.heap.size w.heap.size _ 32 _ hJ (by omega) (by omega)).mono ?_
                rintro e w2 ⟨rfl, hJ2, hb2⟩
                rw [show [Value.int .u8 (32 : Int)] = Lib.byteCells [32] from rfl, cells_append] at hJ2
                have hbx2 := hbx.trans hb2
                have hzx2 := hbx2.size
                have hjl2 : (Lib.byteCells (acc' ++ [32])).length = acc'.length + 1 := by rw [Lib.byteCells_length]; simp
                go_wp2_with fail
                refine (Build.write_string w.heap.size w.heap.size _ s _ hJ2 (by omega) (by omega)).mono ?_
                rintro e w3 ⟨rfl, hJ3, hb3⟩
                rw [cells_str, cells_append, List.append_assoc] at hJ3
                go_wp2_with fail
                go_roundw
                case rel => exact ⟨i + 1, acc' ++ ([32] ++ bs s), by omega, by go_num, hJ3, by rw [decide_eq_false (by omega)]; exact HN, hbx2.trans hb3⟩
                case measure => simp [intOf]; omega
          · have hd : L.drop i = [] := List.drop_eq_nil_of_le (by omega)
            rw [hd] at HJ
            have HD := Lib.hid HJ.out.done
            have hsz : acc'.length + 1 ≤ 140737488355328 := by
              have := HJ.out.2
              simp only [wt] at this
              omega
            have hjl : (Lib.byteCells acc').length = acc'.length := Lib.byteCells_length _
            clear hd HJ
            go_wp2_with fail
            refine (Build.write_byte w.heap.size w.heap.size _ 10 _ hJ (by omega) (by omega)).mono ?_
            rintro e w2 ⟨rfl, hJ2, hb2⟩
            rw [show [Value.int .u8 (10 : Int)] = Lib.byteCells [10] from rfl, cells_append] at hJ2
            go_wp2_with fail
            go_roundw
            case rel => exact ⟨k + 1, acc' ++ [10], by omega, by go_num, hJ2, HD, hbx.trans hb2⟩
            case measure => simp [intOf]; omega
      · have HT := Lib.hid (HL.out.bad hok)
        by_cases hz0 : L.length = 0
        · have o1 : ((L.length : Int) == 0) = true := by rw [beq_iff_eq]; omega
          go_wp2_with fail
          go_ret
          exact ⟨by rw [HT.out]; rfl, hbw⟩
        · have o1 : ((L.length : Int) == 0) = false := by rw [beq_eq_false_iff_ne]; omega
          have o2 : (64 : Int) < L.length := by omega
          go_wp2_with fail
          go_ret
          exact ⟨by rw [HT.out]; rfl, hbw⟩
    · have hd : LL.drop k = [] := List.drop_eq_nil_of_le (by omega)
      rw [hd] at HL
      have HT := Lib.hid HL.out.done
      clear hd HL
      go_wp2_with fail
      refine (Tryd.Builder_String_any w.heap.size w.heap.size acc _ hI (by omega)).mono ?_
      rintro e w2 ⟨rfl, hb2⟩
      go_wp2_with fail
      go_ret
      exact ⟨by rw [HT.out]; rfl, hbw.trans hb2⟩
end Go.Proofs.YtkfobijgjdgbgaaDoor.PJoin
