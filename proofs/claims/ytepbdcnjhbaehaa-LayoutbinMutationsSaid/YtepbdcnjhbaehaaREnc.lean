/-
  Contracts of the document's Encode and of what it writes.
-/
import Derived.Test.YtepbdcnjhbaehaaEncA
import Derived.Test.YtepbdcnjhbaehaaRCheck
import Derived.Laws.IdiomStrings
import Derived.Laws.Concat
import Derived.BigRegion
import Derived.Test.YtepbdcnjhbaehaaMan
namespace Go.Proofs.Ytepbdcnjhbaehaa.REnc
open Go.ChangeShapes Go.WideShapes Go.ChangeAt Go.RowKit Wd Bin Lay LayT Recs Wnum Weach Crc CrcP PNames PSecs Enc RCheck Man
set_option linter.unusedVariables false

theorem str_append (a b : Bs) : str a ++ str b = str (a ++ b) := bs_ext (by rw [bs_append, bs_str, bs_str, bs_str])
theorem val_u64 {a b : Int} (h : a = b) : Value.int .u64 a = .int .u64 b := by rw [h]
theorem next_byte (v k : Nat) : ((v / 256 ^ k : Nat) : Int) / 256 = ((v / 256 ^ (k + 1) : Nat) : Int) := by
  rw [Nat.pow_succ, ← Nat.div_div_eq_div_mul]; omega
theorem low_byte (v : Nat) : (v : Int) % 256 = ((UInt8.ofNat v).toNat : Int) := by rw [byte_toNat]; omega
theorem conv_bytes (X : Int) (b : UInt8) (h : X = (b.toNat : Int)) (wx : World) :
    (convert 36 9 (.slice (some ⟨wx.heap.size, 0, none⟩) 1 1)).run Try.prog (wx.alloc (.cells #[.int .u8 X] 5)) = .ok (.string (str [b])) (wx.alloc (.cells #[.int .u8 X] 5)) := by
  subst h
  exact run_convert_bytes_back (P := Try.prog) _ 36 9 5 ⟨wx.heap.size, 0, none⟩ 1 [b] Try.underlying36 Try.underlying5 Try.underlying9 (fun j hj => by
    obtain rfl : j = 0 := by simpa using hj
    simp [Addr.add])

set_option maxHeartbeats 1000000 in
theorem little_any (v n : Nat) (w : World) (hn : n ≤ 8) (hv : v < 18446744073709551616) : Calls Try.prog 39 #[.int .u64 v, .int .i64 n] w fun e w' => e = .returned (.string (str (le n v))) ∧ Below w.heap.size w w' := by
  go_enter Try.func39, Try.ntmps39
  go_wp2
  have HE0 : Hid (str (le 0 v) = ⟨#[]⟩) := rfl
  go_loopw [0, 5, 6] (fun x s i wr => ∃ k : Nat, k ≤ n ∧ i = .int .i64 k ∧ x = .int .u64 (v / 256 ^ k : Nat) ∧ s = .string (str (le k v)) ∧ Below w.heap.size w wr) (fun _ _ i _ => n - (intOf i).toNat)
  case atStart => exact ⟨0, Nat.zero_le _, rfl, by simp, by rw [HE0.out], Below.refl _ _⟩
  case round =>
    obtain ⟨k, hk, rfl, rfl, rfl, hbw⟩ := hrel
    clear HE0
    by_cases hlt : k < n
    · have hkn : (k : Int) < (n : Int) := by omega
      have HX := Lib.hid (low_byte (v / 256 ^ k))
      have hcv := conv_bytes _ _ (low_byte (v / 256 ^ k))
      have HN := Lib.hid (next_byte v k)
      have HS : Hid (str (le k v) ++ str [UInt8.ofNat (v / 256 ^ k)] = str (le (k + 1) v)) := by rw [Hid, str_append, ← le_snoc]
      have hz1 : (str (le k v)).size = k := by rw [size_str, le_length]
      have hz2 : (str [UInt8.ofNat (v / 256 ^ k)]).size = 1 := rfl
      have hsz : (str (le k v)).size + (str [UInt8.ofNat (v / 256 ^ k)]).size ≤ 9223372036854775807 := by omega
      have hvk : v / 256 ^ k < 18446744073709551616 := Nat.lt_of_le_of_lt (Nat.div_le_self _ _) hv
      obtain ⟨sk, hsk⟩ : ∃ s, str (le k v) = s := ⟨_, rfl⟩
      obtain ⟨sb, hsb⟩ : ∃ s, str [UInt8.ofNat (v / 256 ^ k)] = s := ⟨_, rfl⟩
      obtain ⟨m, hm⟩ : ∃ m, v / 256 ^ k = m := ⟨_, rfl⟩
      rw [hsk, hsb] at HS hsz
      rw [hsb] at hcv
      rw [hm] at hcv HN hvk
      clear hz1 hz2 HX
      rw [hm, hsk]
      have HSK := Lib.hid hsk
      have HM := Lib.hid hm
      clear hsk hsb hm
      go_wp2
      go_roundw
      case rel => exact ⟨k + 1, by omega, by go_num, val_u64 HN.out, by rw [HS.out], hbw.trans (((Below.refl _ _).alloc (Nat.le_refl _) _).mono hbw.size)⟩
      case measure => simp [intOf]; omega
    · obtain rfl : k = n := by omega
      go_wp2
      go_ret
      exact ⟨rfl, hbw⟩
theorem little_eq (x : Int) (v n : Nat) (w : World) (hx : x = (v : Int)) (hn : n ≤ 8) (hv : v < 18446744073709551616) : Calls Try.prog 39 #[.int .u64 x, .int .i64 n] w fun e w' => e = .returned (.string (str (le n v))) ∧ Below w.heap.size w w' := by
  subst hx; exact little_any v n w hn hv

set_option maxHeartbeats 1000000 in
theorem short_any (s : ByteArray) (w : World) (hs : s.size ≤ 9223372036854775000) : Calls Try.prog 38 #[.string s] w fun e w' => e = .returned (.string (str (nm (bs s)))) ∧ Below w.heap.size w w' := by
  have HE : Hid (str (le 1 s.size) ++ s = str (nm (bs s))) := bs_ext (by rw [bs_append, bs_str, bs_str]; unfold nm; rw [bs_length])
  obtain ⟨d, hd⟩ : ∃ d, str (le 1 s.size) = d := ⟨_, rfl⟩
  have hz : d.size + s.size ≤ 9223372036854775807 := by rw [← hd, size_str, le_length]; omega
  have HL := Lib.hid (fun (x : Int) (wx : World) (hx : x = (s.size : Int)) => little_eq x s.size 1 wx hx (by omega) (by omega))
  rw [hd] at HE HL
  clear hd
  go_enter Try.func38, Try.ntmps38
  go_wp2_with fail
  refine (HL.out _ _ (by omega)).mono ?_
  rintro e w1 ⟨rfl, hb1⟩
  have HB := Lib.hid hb1
  clear hb1 HL
  go_wp2_with fail
  go_ret
  exact ⟨by rw [HE.out]; rfl, HB.out⟩

/-- the bytes of a slice of two -/
theorem conv_two (X Y : Int) (a b : UInt8) (h : X = (a.toNat : Int)) (h2 : Y = (b.toNat : Int)) (g : Nat) (wx : World) (c0 : wx.cell? ⟨g, 0, none⟩ = some (.int .u8 X)) (c1 : wx.cell? ⟨g, 1, none⟩ = some (.int .u8 Y)) :
    (convert 36 9 (.slice (some ⟨g, 0, none⟩) 2 2)).run Try.prog wx = .ok (.string (str [a, b])) wx := by
  subst h; subst h2
  exact run_convert_bytes_back (P := Try.prog) _ 36 9 5 ⟨g, 0, none⟩ 2 [a, b] Try.underlying36 Try.underlying5 Try.underlying9 (fun j hj => by
    match j, hj with
    | 0, _ => simpa [Addr.add] using c0
    | 1, _ => simpa [Addr.add] using c1)
theorem conv_four (X Y Z V : Int) (a b c d : UInt8) (h : X = (a.toNat : Int)) (h2 : Y = (b.toNat : Int)) (h3 : Z = (c.toNat : Int)) (h4 : V = (d.toNat : Int)) (wx : World) :
    (convert 36 9 (.slice (some ⟨wx.heap.size, 0, none⟩) 4 4)).run Try.prog (wx.alloc (.cells #[.int .u8 X, .int .u8 Y, .int .u8 Z, .int .u8 V] 5)) = .ok (.string (str [a, b, c, d])) (wx.alloc (.cells #[.int .u8 X, .int .u8 Y, .int .u8 Z, .int .u8 V] 5)) := by
  subst h; subst h2; subst h3; subst h4
  exact run_convert_bytes_back (P := Try.prog) _ 36 9 5 ⟨wx.heap.size, 0, none⟩ 4 [a, b, c, d] Try.underlying36 Try.underlying5 Try.underlying9 (fun j hj => by
    match j, hj with
    | 0, _ => simp [Addr.add]
    | 1, _ => simp [Addr.add]
    | 2, _ => simp [Addr.add]
    | 3, _ => simp [Addr.add])
theorem low_int (x : Int) (h : 0 ≤ x) : x % 256 = ((UInt8.ofNat x.toNat).toNat : Int) := by rw [byte_toNat]; omega
/-! ### Encode -/

theorem wpAnyH_mono {P : Program} {md : Region.Mode} {ops : Array Oper} {Q : Exit → Act → World → Prop} {S S' : World → Prop} (hS : ∀ w, S' w → S w) : ∀ (fuel : Nat) (listed : Array Bool) (a : Act) (w : World), wpAnyH P md ops Q S' fuel listed a w → wpAnyH P md ops Q S fuel listed a w
  | 0, _, _, _, h => h
  | fuel + 1, _, _, _, h => ⟨h.1, fun i hi => wpOp_mono (fun a' w' h' => ⟨hS _ h'.1, wpAnyH_mono hS fuel _ a' w' h'.2⟩) (h.2 i hi)⟩
theorem small_byte {v : Nat} (h : v < 256) : (v : Int) = ((UInt8.ofNat v).toNat : Int) := by rw [byte_toNat, Nat.mod_eq_of_lt h]
theorem small_eq {x y : Int} (e : x = y) (h : 0 ≤ y) (h2 : y < 256) : x = ((UInt8.ofNat y.toNat).toNat : Int) := by rw [byte_toNat]; omega
theorem small_int {x : Int} (h : 0 ≤ x) (h2 : x < 256) : x = ((UInt8.ofNat x.toNat).toNat : Int) := by rw [byte_toNat]; omega

set_option maxRecDepth 100000 in
set_option maxHeartbeats 8000000 in
theorem r_encode (v : LV) (l : Lay) (w : World) (hR : RdL w w.heap.size v l) : Calls Try.prog 20 #[v.val] w (EncPost l w) := by
  obtain ⟨W, hW⟩ : ∃ W, w.alloc (.cells #[.slice v.A1 v.n1 v.c1, .slice v.A2 v.n2 v.c2, .slice v.A3 v.n3 v.c3, .slice v.A4 v.n4 v.c4] 29) = W := ⟨_, rfl⟩
  have hbW : Below w.heap.size w W := by rw [← hW]; exact (Below.refl _ _).alloc (Nat.le_refl _) _
  have hzW : W.heap.size = w.heap.size + 1 := by rw [← hW]; simp
  have hg : W.heap[w.heap.size]? = some (.cells #[.slice v.A1 v.n1 v.c1, .slice v.A2 v.n2 v.c2, .slice v.A3 v.n3 v.c3, .slice v.A4 v.n4 v.c4] 29 (0, 0)) := by rw [← hW]; exact heap_alloc_new _ _
  have HRW := Lib.hid (hR.grow hbW hbW.size)
  have HC : Hid (∀ wx, Below W.heap.size W wx → wx.cell? ⟨w.heap.size, 0, none⟩ = some (.slice v.A1 v.n1 v.c1) ∧ wx.cell? ⟨w.heap.size, 1, none⟩ = some (.slice v.A2 v.n2 v.c2) ∧ wx.cell? ⟨w.heap.size, 2, none⟩ = some (.slice v.A3 v.n3 v.c3) ∧ wx.cell? ⟨w.heap.size, 3, none⟩ = some (.slice v.A4 v.n4 v.c4)) := fun wx hx => by
    have := (hx.block w.heap.size (by omega)).trans hg
    simp [World.cell?, this]
  have HCK := Lib.hid (r_check v l W HRW.out)
  have HB0 := Lib.hid hbW
  have HZ := Lib.hid hzW
  clear hR hbW hzW hg
  obtain ⟨A1, n1, c1, A2, n2, c2, A3, n3, c3, A4, n4, c4⟩ := v
  simp only [LV.val] at *
  go_enter Try.func20, Try.ntmps20
  go_upto_region 1 with fail
  try rw [hW]
  clear hW
  obtain ⟨k0, k1, k2, k3⟩ := HC.out W (Below.refl _ _)
  go_wp2_with fail
  refine HCK.out.mono ?_
  rintro e w1 ⟨rfl, hb1⟩
  have HB1 := Lib.hid (HB0.out.trans (hb1.mono HB0.out.size))
  have hz1 := hb1.size
  have HC1 : Hid (∀ wx, Below w1.heap.size w1 wx → wx.cell? ⟨w.heap.size, 0, none⟩ = some (.slice A1 n1 c1) ∧ wx.cell? ⟨w.heap.size, 1, none⟩ = some (.slice A2 n2 c2) ∧ wx.cell? ⟨w.heap.size, 2, none⟩ = some (.slice A3 n3 c3) ∧ wx.cell? ⟨w.heap.size, 3, none⟩ = some (.slice A4 n4 c4)) := by
    have h1 := Lib.hid hb1
    exact fun wx hx => HC.out wx (h1.out.trans (hx.mono hz1))
  have HR1 : Hid (∀ wx, Below w1.heap.size w1 wx → RdL wx w1.heap.size ⟨A1, n1, c1, A2, n2, c2, A3, n3, c3, A4, n4, c4⟩ l) := by
    have h1 := HRW.out.grow hb1 hz1
    exact fun wx hx => h1.below hx
  have HW1 : Hid (∀ wx, Below w1.heap.size w1 wx → Below w.heap.size w wx) := fun wx hx => HB1.out.trans (hx.mono HB1.out.size)
  have hwz1 : w.heap.size < w1.heap.size := by have := HZ.out; omega
  clear k0 k1 k2 k3 hb1 HRW HCK HB0 HC hz1
  by_cases hv : check l = 0
  · have HT : Hid (encT l = enc l) := by rw [Hid, encT, if_pos hv]
    have HE : Hid (encE l = 0) := by rw [Hid, encE, if_pos hv]
    have hval := valid_of hv
    obtain ⟨z1, z2, z3, z4⟩ := sizes_of hv
    have q1 := (HR1.out w1 (Below.refl _ _)).st.1
    have q2 := (HR1.out w1 (Below.refl _ _)).pt.1
    have q3 := (HR1.out w1 (Below.refl _ _)).sec.1
    have q4 := (HR1.out w1 (Below.refl _ _)).lnk.1
    simp only at q1 q2 q3 q4
    have g1 : ∀ a ∈ l.stations, (nm a).length ≤ 13 := fun a ha => by rw [nm_len]; have := name_le (hval.st a ha); omega
    have g2 : ∀ a ∈ l.points, (nm a).length ≤ 13 := fun a ha => by rw [nm_len]; have := name_le (hval.pt a ha); omega
    have g3 : ∀ a ∈ l.sections, (encSec a).length ≤ 20 := fun a ha => by rw [sec_len]; have := name_le (hval.sec a ha).1; omega
    have g4 : ∀ a ∈ l.links, (encLnk a).length ≤ 4 := fun a ha => by rw [lnk_len]; omega
    have f1 := flat_all nm 13 l.stations g1
    have f2 := flat_all nm 13 l.points g2
    have f3 := flat_all encSec 20 l.sections g3
    have f4 := flat_all encLnk 4 l.links g4
    have hcs : (counts l).length = 4 := by unfold counts; simp only [List.length_append, le_length]
    have hsl : sig.length = 4 := rfl
    have hcn : str (counts l) = str [UInt8.ofNat n1, UInt8.ofNat n2, UInt8.ofNat n3, UInt8.ofNat n4] := by rw [← q1, ← q2, ← q3, ← q4]; rfl
    have HV := Lib.hid hval
    have G1 := Lib.hid g1
    have G2 := Lib.hid g2
    have G3 := Lib.hid g3
    have G4 := Lib.hid g4
    have hcv := conv_four (n1 : Int) (n2 : Int) (n3 : Int) (n4 : Int) _ _ _ _ (small_byte (v := n1) (by omega)) (small_byte (v := n2) (by omega)) (small_byte (v := n3) (by omega)) (small_byte (v := n4) (by omega))
    rw [← hcn] at hcv
    have HS0 : Hid ((⟨#[82, 80, 76, 49]⟩ : ByteArray) ++ str (counts l) = str (sig ++ counts l)) := str_append sig (counts l)
    have hs0 : (⟨#[82, 80, 76, 49]⟩ : ByteArray).size + (str (counts l)).size ≤ 9223372036854775807 := by rw [size_str, hcs]; decide
    obtain ⟨C0, hC0⟩ : ∃ C, str (counts l) = C := ⟨_, rfl⟩
    rw [hC0] at hcv HS0 hs0
    have HPA1 : Hid (sig ++ counts l = sig ++ counts l ++ (l.stations.take 0).flatMap nm) := by simp [Hid]
    have ht : (check l == 0) = true := by simpa using hv
    have htn : (check l != 0) = false := by simpa using hv
    clear hval g1 g2 g3 g4 hcn hC0 hv
    obtain ⟨k0, k1, k2, k3⟩ := HC1.out w1 (Below.refl _ _)
    go_wp2_with fail
    clear hcv hs0 ht htn k0 k1 k2 k3
    go_loopw [4, 5] (fun x i wr => ∃ k : Nat, k ≤ n1 ∧ i = .int .i64 k ∧ x = .string (str (sig ++ counts l ++ (l.stations.take k).flatMap nm)) ∧ Below w1.heap.size w1 wr) (fun _ i _ => n1 - (intOf i).toNat)
    case atStart => exact ⟨0, Nat.zero_le _, rfl, by first | rw [HS0.out, ← HPA1.out] | rw [← HPA1.out, HD.out], (Below.refl _ _).alloc (Nat.le_refl _) _⟩
    case round =>
      obtain ⟨k, hk, rfl, rfl, hbw⟩ := hrel
      have hz := hbw.size
      obtain ⟨k0, k1, k2, k3⟩ := HC1.out _ hbw
      by_cases hlt : k < n1
      · obtain ⟨ad, s, rfl, hab, hsk, d0⟩ := loadS (HR1.out _ hbw).st hlt
        have hkn : (k : Int) < (n1 : Int) := by omega
        have hfl := flat_le nm 13 l.stations k G1.out
        have HTK := Lib.hid (take_flat nm hsk)
        have hsl' := G1.out s (List.mem_of_getElem? hsk)
        rw [nm_len] at hsl'
        have hpl : (sig ++ counts l ++ (l.stations.take k).flatMap nm).length ≤ 100000 := by simp only [List.length_append, hsl]; omega
        have HSX : Hid (str (sig ++ counts l ++ (l.stations.take k).flatMap nm) ++ str (nm s) = str (sig ++ counts l ++ (l.stations.take (k + 1)).flatMap nm)) := by rw [Hid, str_append, HTK.out, ← List.append_assoc]
        have HN := Lib.hid (fun wx => short_any (str s) wx (by rw [size_str]; omega))
        rw [bs_str] at HN
        have hsz : (str (sig ++ counts l ++ (l.stations.take k).flatMap nm)).size + (str (nm s)).size ≤ 9223372036854775807 := by rw [size_str, size_str, nm_len]; omega
        obtain ⟨X, hX⟩ : ∃ X, str (sig ++ counts l ++ (l.stations.take k).flatMap nm) = X := ⟨_, rfl⟩
        obtain ⟨Y, hY⟩ : ∃ Y, str (nm s) = Y := ⟨_, rfl⟩
        rw [hX] at HSX hsz ⊢
        rw [hY] at HSX hsz HN
        clear hsk hfl hsl' hpl hX hY HTK
        go_wp2_with fail
        refine (HN.out _).mono ?_
        rintro e w5 ⟨rfl, hb5⟩
        have HB5 := Lib.hid (hbw.trans (hb5.mono hz))
        clear HN hb5 k0 k1 k2 k3 d0
        go_wp2_with fail
        go_roundw
        case rel => exact ⟨k + 1, by omega, by go_num, by rw [HSX.out], HB5.out⟩
        case measure => simp [intOf]; omega
      · have hkn : ¬ (k : Int) < (n1 : Int) := by omega
        have HXX : Hid (str (sig ++ counts l ++ (l.stations.take k).flatMap nm) = str (sig ++ counts l ++ l.stations.flatMap nm)) := by
          have : l.stations.take k = l.stations := List.take_of_length_le (by omega)
          rw [Hid, this]
        have HBW := Lib.hid hbw
        rw [HXX.out]
        try clear HD
        obtain ⟨D, hD⟩ : ∃ D, str (sig ++ counts l ++ l.stations.flatMap nm) = D := ⟨_, rfl⟩
        rw [hD]
        have HD := Lib.hid hD
        clear hbw HXX hD
        have HPA2 : Hid (sig ++ counts l ++ l.stations.flatMap nm = sig ++ counts l ++ l.stations.flatMap nm ++ (l.points.take 0).flatMap nm) := by simp [Hid]
        have hslx := hsl
        go_wp2_with fail
        clear k0 k1 k2 k3
        go_loopw [4, 6] (fun x i wr => ∃ k : Nat, k ≤ n2 ∧ i = .int .i64 k ∧ x = .string (str (sig ++ counts l ++ l.stations.flatMap nm ++ (l.points.take k).flatMap nm)) ∧ Below w1.heap.size w1 wr) (fun _ i _ => n2 - (intOf i).toNat)
        case atStart => exact ⟨0, Nat.zero_le _, rfl, by first | rw [HS0.out, ← HPA2.out] | rw [← HPA2.out, HD.out], HBW.out⟩
        case round =>
          obtain ⟨k, hk, rfl, rfl, hbw⟩ := hrel
          have hz := hbw.size
          obtain ⟨k0, k1, k2, k3⟩ := HC1.out _ hbw
          by_cases hlt : k < n2
          · obtain ⟨ad, s, rfl, hab, hsk, d0⟩ := loadS (HR1.out _ hbw).pt hlt
            have hkn : (k : Int) < (n2 : Int) := by omega
            have hfl := flat_le nm 13 l.points k G2.out
            have HTK := Lib.hid (take_flat nm hsk)
            have hsl' := G2.out s (List.mem_of_getElem? hsk)
            rw [nm_len] at hsl'
            have hpl : (sig ++ counts l ++ l.stations.flatMap nm ++ (l.points.take k).flatMap nm).length ≤ 100000 := by simp only [List.length_append, hsl]; omega
            have HSX : Hid (str (sig ++ counts l ++ l.stations.flatMap nm ++ (l.points.take k).flatMap nm) ++ str (nm s) = str (sig ++ counts l ++ l.stations.flatMap nm ++ (l.points.take (k + 1)).flatMap nm)) := by rw [Hid, str_append, HTK.out, ← List.append_assoc]
            have HN := Lib.hid (fun wx => short_any (str s) wx (by rw [size_str]; omega))
            rw [bs_str] at HN
            have hsz : (str (sig ++ counts l ++ l.stations.flatMap nm ++ (l.points.take k).flatMap nm)).size + (str (nm s)).size ≤ 9223372036854775807 := by rw [size_str, size_str, nm_len]; omega
            obtain ⟨X, hX⟩ : ∃ X, str (sig ++ counts l ++ l.stations.flatMap nm ++ (l.points.take k).flatMap nm) = X := ⟨_, rfl⟩
            obtain ⟨Y, hY⟩ : ∃ Y, str (nm s) = Y := ⟨_, rfl⟩
            rw [hX] at HSX hsz ⊢
            rw [hY] at HSX hsz HN
            clear hsk hfl hsl' hpl hX hY HTK
            go_wp2_with fail
            refine (HN.out _).mono ?_
            rintro e w5 ⟨rfl, hb5⟩
            have HB5 := Lib.hid (hbw.trans (hb5.mono hz))
            clear HN hb5 k0 k1 k2 k3 d0
            go_wp2_with fail
            go_roundw
            case rel => exact ⟨k + 1, by omega, by go_num, by rw [HSX.out], HB5.out⟩
            case measure => simp [intOf]; omega
          · have hkn : ¬ (k : Int) < (n2 : Int) := by omega
            have HXX : Hid (str (sig ++ counts l ++ l.stations.flatMap nm ++ (l.points.take k).flatMap nm) = str (sig ++ counts l ++ l.stations.flatMap nm ++ l.points.flatMap nm)) := by
              have : l.points.take k = l.points := List.take_of_length_le (by omega)
              rw [Hid, this]
            have HBW := Lib.hid hbw
            rw [HXX.out]
            try clear HD
            obtain ⟨D, hD⟩ : ∃ D, str (sig ++ counts l ++ l.stations.flatMap nm ++ l.points.flatMap nm) = D := ⟨_, rfl⟩
            rw [hD]
            have HD := Lib.hid hD
            clear hbw HXX hD
            have HPA3 : Hid (sig ++ counts l ++ l.stations.flatMap nm ++ l.points.flatMap nm = sig ++ counts l ++ l.stations.flatMap nm ++ l.points.flatMap nm ++ (l.sections.take 0).flatMap encSec) := by simp [Hid]
            go_wp2_with fail
            clear k0 k1 k2 k3
            go_loopw [4, 7] (fun x i wr => ∃ k : Nat, k ≤ n3 ∧ i = .int .i64 k ∧ x = .string (str (sig ++ counts l ++ l.stations.flatMap nm ++ l.points.flatMap nm ++ (l.sections.take k).flatMap encSec)) ∧ Below w1.heap.size w1 wr) (fun _ i _ => n3 - (intOf i).toNat)
            case atStart => exact ⟨0, Nat.zero_le _, rfl, by rw [← HPA3.out, HD.out], HBW.out⟩
            case round =>
              obtain ⟨k, hk, rfl, rfl, hbw⟩ := hrel
              have hz := hbw.size
              obtain ⟨k0, k1, k2, k3⟩ := HC1.out _ hbw
              by_cases hlt : k < n3
              · obtain ⟨ad, s, rfl, hab, hsk, d0, d1, d2, d3, d4⟩ := loadSec (HR1.out _ hbw).sec hlt
                have hkn : (k : Int) < (n3 : Int) := by omega
                have hfl := flat_le encSec 20 l.sections k G3.out
                have HTK := Lib.hid (take_flat encSec hsk)
                have hsn := name_le (HV.out.sec s (List.mem_of_getElem? hsk)).1
                obtain ⟨r1, r2, r3, r4, r5, r6, r7, r8⟩ := sec_range (HV.out.sec s (List.mem_of_getElem? hsk)).2
                have hpl : (sig ++ counts l ++ l.stations.flatMap nm ++ l.points.flatMap nm ++ (l.sections.take k).flatMap encSec).length ≤ 100000 := by simp only [List.length_append, hsl]; omega
                obtain ⟨nm', ln, li, gr, st⟩ := s
                simp only at d0 d1 d2 d3 d4 hsn r1 r2 r3 r4 r5 r6 r7 r8
                obtain ⟨W5, hW5⟩ : ∃ W5, wr.alloc (.cells #[.string (str nm'), .int .i64 ln, .int .i64 li, .int .i64 gr, .int .i64 st] 66) = W5 := ⟨_, rfl⟩
                have hb5 : Below wr.heap.size wr W5 := by rw [← hW5]; exact (Below.refl _ _).alloc (Nat.le_refl _) _
                have hz5 : wr.heap.size < W5.heap.size := by rw [← hW5]; simp
                have hg5 : W5.heap[wr.heap.size]? = some (.cells #[.string (str nm'), .int .i64 ln, .int .i64 li, .int .i64 gr, .int .i64 st] 66 (0, 0)) := by rw [← hW5]; exact heap_alloc_new _ _
                have KA : Hid (∀ w', Below W5.heap.size W5 w' → w'.cell? ⟨wr.heap.size, 0, none⟩ = some (.string (str nm')) ∧ w'.cell? ⟨wr.heap.size, 1, none⟩ = some (.int .i64 ln) ∧ w'.cell? ⟨wr.heap.size, 2, none⟩ = some (.int .i64 li) ∧ w'.cell? ⟨wr.heap.size, 3, none⟩ = some (.int .i64 gr) ∧ w'.cell? ⟨wr.heap.size, 4, none⟩ = some (.int .i64 st)) := fun wx hx => by
                  have := (hx.block wr.heap.size hz5).trans hg5
                  simp [World.cell?, this]
                have HB5 := Lib.hid (hbw.trans (hb5.mono hz))
                have HN1 := Lib.hid (fun wx => short_any (str nm') wx (by rw [size_str]; omega))
                rw [bs_str] at HN1
                have HN2 : Hid (∀ wx, Calls Try.prog 39 #[.int .u64 ln, .int .i64 2] wx fun e w' => e = .returned (.string (str (le 2 ln.toNat))) ∧ Below wx.heap.size wx w') := fun wx => little_eq ln ln.toNat 2 wx (by omega) (by omega) (by omega)
                have HN3 : Hid (∀ wx, Calls Try.prog 39 #[.int .u64 li, .int .i64 3] wx fun e w' => e = .returned (.string (str (le 3 li.toNat))) ∧ Below wx.heap.size wx w') := fun wx => little_eq li li.toNat 3 wx (by omega) (by omega) (by omega)
                have HCV := Lib.hid (fun g wx => conv_two (gr + 40) (st + 1) _ _ (small_int (by omega) (by omega)) (small_int (by omega) (by omega)) g wx)
                have HSX : Hid (str (sig ++ counts l ++ l.stations.flatMap nm ++ l.points.flatMap nm ++ (l.sections.take k).flatMap encSec) ++ (str (nm nm') ++ str (le 2 ln.toNat) ++ str (le 3 li.toNat) ++ str [UInt8.ofNat (gr + 40).toNat, UInt8.ofNat (st + 1).toNat]) = str (sig ++ counts l ++ l.stations.flatMap nm ++ l.points.flatMap nm ++ (l.sections.take (k + 1)).flatMap encSec)) := by
                  rw [Hid, HTK.out]
                  simp only [str_append]
                  congr 1
                  unfold encSec
                  simp only [le, List.append_assoc, List.cons_append, List.nil_append]
                have sX : (str (sig ++ counts l ++ l.stations.flatMap nm ++ l.points.flatMap nm ++ (l.sections.take k).flatMap encSec)).size ≤ 100000 := by rw [size_str]; exact hpl
                have sY1 : (str (nm nm')).size ≤ 13 := by rw [size_str, nm_len]; omega
                have sY2 : (str (le 2 ln.toNat)).size ≤ 2 := by rw [size_str, le_length]; omega
                have sY3 : (str (le 3 li.toNat)).size ≤ 3 := by rw [size_str, le_length]; omega
                have sY4 : (str [UInt8.ofNat (gr + 40).toNat, UInt8.ofNat (st + 1).toNat]).size ≤ 2 := Nat.le_refl 2
                obtain ⟨X, hX⟩ : ∃ X, str (sig ++ counts l ++ l.stations.flatMap nm ++ l.points.flatMap nm ++ (l.sections.take k).flatMap encSec) = X := ⟨_, rfl⟩
                obtain ⟨Y1, hY1⟩ : ∃ Y, str (nm nm') = Y := ⟨_, rfl⟩
                obtain ⟨Y2, hY2⟩ : ∃ Y, str (le 2 ln.toNat) = Y := ⟨_, rfl⟩
                obtain ⟨Y3, hY3⟩ : ∃ Y, str (le 3 li.toNat) = Y := ⟨_, rfl⟩
                obtain ⟨Y4, hY4⟩ : ∃ Y, str [UInt8.ofNat (gr + 40).toNat, UInt8.ofNat (st + 1).toNat] = Y := ⟨_, rfl⟩
                rw [hX] at HSX sX ⊢
                rw [hY1] at HSX sY1 HN1
                rw [hY2] at HSX sY2 HN2
                rw [hY3] at HSX sY3 HN3
                rw [hY4] at HSX sY4 HCV
                have hl_P2 : Y1.size + Y2.size ≤ 9223372036854775807 := by omega
                have hn_P2 : ¬ 9223372036854775807 < Y1.size + Y2.size := by omega
                obtain ⟨P2, h_P2, s_P2⟩ : ∃ c : ByteArray, Y1 ++ Y2 = c ∧ c.size ≤ 15 := ⟨_, rfl, by rw [ByteArray.size_append]; omega⟩
                have hl_P3 : P2.size + Y3.size ≤ 9223372036854775807 := by omega
                have hn_P3 : ¬ 9223372036854775807 < P2.size + Y3.size := by omega
                obtain ⟨P3, h_P3, s_P3⟩ : ∃ c : ByteArray, P2 ++ Y3 = c ∧ c.size ≤ 18 := ⟨_, rfl, by rw [ByteArray.size_append]; omega⟩
                have hl_P4 : P3.size + Y4.size ≤ 9223372036854775807 := by omega
                have hn_P4 : ¬ 9223372036854775807 < P3.size + Y4.size := by omega
                obtain ⟨P4, h_P4, s_P4⟩ : ∃ c : ByteArray, P3 ++ Y4 = c ∧ c.size ≤ 20 := ⟨_, rfl, by rw [ByteArray.size_append]; omega⟩
                have hl_Z : X.size + P4.size ≤ 9223372036854775807 := by omega
                have hn_Z : ¬ 9223372036854775807 < X.size + P4.size := by omega
                obtain ⟨Z, h_Z, s_Z⟩ : ∃ c : ByteArray, X ++ P4 = c ∧ c.size ≤ 200000 := ⟨_, rfl, by rw [ByteArray.size_append]; omega⟩
                rw [h_P2, h_P3, h_P4, h_Z] at HSX
                have hw1 : IntKind.i64.wrap (gr + 40) = gr + 40 := IntWalk.i64_in _ (by omega)
                have hw2 : IntKind.i64.wrap (st + 1) = st + 1 := IntWalk.i64_in _ (by omega)
                have hu1 : IntKind.u64.wrap ln = ln := by rw [IntKind.wrap_u64]; omega
                have hu2 : IntKind.u64.wrap li = li := by rw [IntKind.wrap_u64]; omega
                have hu3 : IntKind.u8.wrap (gr + 40) = gr + 40 := by rw [IntKind.wrap_u8]; omega
                have hu4 : IntKind.u8.wrap (st + 1) = st + 1 := by rw [IntKind.wrap_u8]; omega
                have hp1 : 0 ≤ gr + 40 := by omega
                have hp2 : gr + 40 ≤ 255 := by omega
                have hp3 : 0 ≤ st + 1 := by omega
                have hp4 : st + 1 ≤ 255 := by omega
                clear hsk hfl hpl hX hY1 hY2 hY3 hY4 HTK hb5 hz5 hg5 sX sY1 sY2 sY3 sY4 s_P2 s_P3 s_P4 s_Z hsn
                go_upto_region 16 with fail
                clear hW5 d0 d1 d2 d3 d4 k0 k1 k2 k3
                have HX0 : Hid (Below W5.heap.size W5 W5.drew) := (Below.refl _ _).drew
                refine wp_region_held_drew (S := fun w' => w'.cell? ⟨wr.heap.size, 0, none⟩ = some (.string (str nm')) ∧ w'.cell? ⟨wr.heap.size, 1, none⟩ = some (.int .i64 ln) ∧ w'.cell? ⟨wr.heap.size, 2, none⟩ = some (.int .i64 li) ∧ w'.cell? ⟨wr.heap.size, 3, none⟩ = some (.int .i64 gr) ∧ w'.cell? ⟨wr.heap.size, 4, none⟩ = some (.int .i64 st)) (by kernel_rfl) (KA.out _ HX0.out) (fun hHeld => ?_)
                generalize W5.drew = x0 at *
                refine take_yes 0 (some 75) (v := ?v0_1) rfl rfl (by kernel_rfl) (by kernel_rfl) (by kernel_rfl) (fun _ _ _ h => h) (by kernel_rfl) ?h0_1 (by assumption) ?_
                case h0_1 =>
                  intro w hSw
                  (try dsimp only at hSw)
                  (try go_split_ands)
                  go_simp
                  try with_reducible rfl
                (try simp only [Act.put, List.setIfInBounds_toArray, List.set_cons_zero, List.set_cons_succ])
                refine take_yes 1 (some 76) (v := ?v1_2) rfl rfl (by kernel_rfl) (by kernel_rfl) (by kernel_rfl) (fun _ _ _ h => h) (by kernel_rfl) ?h1_2 (by assumption) ?_
                case h1_2 =>
                  intro w hSw
                  (try dsimp only at hSw)
                  (try go_split_ands)
                  go_simp
                  try with_reducible rfl
                (try simp only [Act.put, List.setIfInBounds_toArray, List.set_cons_zero, List.set_cons_succ])
                refine take_yes 2 (some 77) (v := ?v2_3) rfl rfl (by kernel_rfl) (by kernel_rfl) (by kernel_rfl) (fun _ _ _ h => h) (by kernel_rfl) ?h2_3 (by assumption) ?_
                case h2_3 =>
                  intro w hSw
                  (try dsimp only at hSw)
                  (try go_split_ands)
                  go_simp
                  try with_reducible rfl
                (try simp only [Act.put, List.setIfInBounds_toArray, List.set_cons_zero, List.set_cons_succ])
                refine take_yes 4 (some 79) (v := ?v4_4) rfl rfl (by kernel_rfl) (by kernel_rfl) (by kernel_rfl) (fun _ _ _ h => h) (by kernel_rfl) ?h4_4 (by assumption) ?_
                case h4_4 =>
                  intro w hSw
                  (try dsimp only at hSw)
                  (try go_split_ands)
                  go_simp
                  try with_reducible rfl
                (try simp only [Act.put, List.setIfInBounds_toArray, List.set_cons_zero, List.set_cons_succ])
                refine take_yes 5 (some 80) (v := ?v5_5) rfl rfl (by kernel_rfl) (by kernel_rfl) (by kernel_rfl) (fun _ _ _ h => h) (by kernel_rfl) ?h5_5 (by assumption) ?_
                case h5_5 =>
                  intro w hSw
                  (try dsimp only at hSw)
                  (try go_split_ands)
                  go_simp
                  try with_reducible rfl
                (try simp only [Act.put, List.setIfInBounds_toArray, List.set_cons_zero, List.set_cons_succ])
                refine take_yes 6 (some 81) (v := ?v6_6) rfl rfl (by kernel_rfl) (by kernel_rfl) (by kernel_rfl) (fun _ _ _ h => h) (by kernel_rfl) ?h6_6 (by assumption) ?_
                case h6_6 =>
                  intro w hSw
                  (try dsimp only at hSw)
                  (try go_split_ands)
                  go_simp
                  try with_reducible rfl
                (try simp only [Act.put, List.setIfInBounds_toArray, List.set_cons_zero, List.set_cons_succ])
                refine take_yes 9 (some 84) (v := ?v9_7) rfl rfl (by kernel_rfl) (by kernel_rfl) (by kernel_rfl) (fun _ _ _ h => h) (by kernel_rfl) ?h9_7 (by assumption) ?_
                case h9_7 =>
                  intro w hSw
                  (try dsimp only at hSw)
                  (try go_split_ands)
                  go_simp
                  try with_reducible rfl
                (try simp only [Act.put, List.setIfInBounds_toArray, List.set_cons_zero, List.set_cons_succ])
                refine take_yes 10 (some 85) (v := ?v10_8) rfl rfl (by kernel_rfl) (by kernel_rfl) (by kernel_rfl) (fun _ _ _ h => h) (by kernel_rfl) ?h10_8 (by assumption) ?_
                case h10_8 =>
                  intro w hSw
                  (try dsimp only at hSw)
                  (try go_split_ands)
                  go_simp
                  try with_reducible rfl
                (try simp only [Act.put, List.setIfInBounds_toArray, List.set_cons_zero, List.set_cons_succ])
                refine take_yes 11 (some 86) (v := ?v11_9) rfl rfl (by kernel_rfl) (by kernel_rfl) (by kernel_rfl) (fun _ _ _ h => h) (by kernel_rfl) ?h11_9 (by assumption) ?_
                case h11_9 =>
                  intro w hSw
                  (try dsimp only at hSw)
                  (try go_split_ands)
                  go_simp
                  try with_reducible rfl
                (try simp only [Act.put, List.setIfInBounds_toArray, List.set_cons_zero, List.set_cons_succ])
                refine take_yes 14 (some 89) (v := ?v14_10) rfl rfl (by kernel_rfl) (by kernel_rfl) (by kernel_rfl) (fun _ _ _ h => h) (by kernel_rfl) ?h14_10 (by assumption) ?_
                case h14_10 =>
                  intro w hSw
                  (try dsimp only at hSw)
                  (try go_split_ands)
                  go_simp
                  try with_reducible rfl
                (try simp only [Act.put, List.setIfInBounds_toArray, List.set_cons_zero, List.set_cons_succ])
                refine take_yes 15 (some 90) (v := ?v15_11) rfl rfl (by kernel_rfl) (by kernel_rfl) (by kernel_rfl) (fun _ _ _ h => h) (by kernel_rfl) ?h15_11 (by assumption) ?_
                case h15_11 =>
                  intro w hSw
                  (try dsimp only at hSw)
                  (try go_split_ands)
                  go_simp
                  try with_reducible rfl
                (try simp only [Act.put, List.setIfInBounds_toArray, List.set_cons_zero, List.set_cons_succ])
                refine take_yes 16 (some 91) (v := ?v16_12) rfl rfl (by kernel_rfl) (by kernel_rfl) (by kernel_rfl) (fun _ _ _ h => h) (by kernel_rfl) ?h16_12 (by assumption) ?_
                case h16_12 =>
                  intro w hSw
                  (try dsimp only at hSw)
                  (try go_split_ands)
                  go_simp
                  try with_reducible rfl
                (try simp only [Act.put, List.setIfInBounds_toArray, List.set_cons_zero, List.set_cons_succ])
                refine take_yes 17 (some 92) (v := ?v17_13) rfl rfl (by kernel_rfl) (by kernel_rfl) (by kernel_rfl) (fun _ _ _ h => h) (by kernel_rfl) ?h17_13 (by assumption) ?_
                case h17_13 =>
                  intro w hSw
                  (try dsimp only at hSw)
                  (try go_split_ands)
                  go_simp
                  try with_reducible rfl
                (try simp only [Act.put, List.setIfInBounds_toArray, List.set_cons_zero, List.set_cons_succ])
                refine take_yes 18 (some 93) (v := ?v18_14) rfl rfl (by kernel_rfl) (by kernel_rfl) (by kernel_rfl) (fun _ _ _ h => h) (by kernel_rfl) ?h18_14 (by assumption) ?_
                case h18_14 =>
                  intro w hSw
                  (try dsimp only at hSw)
                  (try go_split_ands)
                  go_simp
                  try with_reducible rfl
                (try simp only [Act.put, List.setIfInBounds_toArray, List.set_cons_zero, List.set_cons_succ])
                refine take_yes 19 (some 94) (v := ?v19_15) rfl rfl (by kernel_rfl) (by kernel_rfl) (by kernel_rfl) (fun _ _ _ h => h) (by kernel_rfl) ?h19_15 (by assumption) ?_
                case h19_15 =>
                  intro w hSw
                  (try dsimp only at hSw)
                  (try go_split_ands)
                  go_simp
                  try with_reducible rfl
                (try simp only [Act.put, List.setIfInBounds_toArray, List.set_cons_zero, List.set_cons_succ])
                refine take_yes 20 (some 95) (v := ?v20_16) rfl rfl (by kernel_rfl) (by kernel_rfl) (by kernel_rfl) (fun _ _ _ h => h) (by kernel_rfl) ?h20_16 (by assumption) ?_
                case h20_16 =>
                  intro w hSw
                  (try dsimp only at hSw)
                  (try go_split_ands)
                  go_simp
                  try with_reducible rfl
                (try simp only [Act.put, List.setIfInBounds_toArray, List.set_cons_zero, List.set_cons_succ])
                refine take_yes 21 (some 96) (v := ?v21_17) rfl rfl (by kernel_rfl) (by kernel_rfl) (by kernel_rfl) (fun _ _ _ h => h) (by kernel_rfl) ?h21_17 (by assumption) ?_
                case h21_17 =>
                  intro w hSw
                  (try dsimp only at hSw)
                  (try go_split_ands)
                  go_simp
                  try with_reducible rfl
                (try simp only [Act.put, List.setIfInBounds_toArray, List.set_cons_zero, List.set_cons_succ])
                refine wpAnyH_ready (rs := [3, 22]) (by kernel_rfl) (by simp) ?_
                refine AllReadyH.cons rfl (fun K hK => ?_) (AllReadyH.cons rfl (fun K hK => ?_) AllReadyH.nil)
                · go_simp
                  go_at_call 38
                  (with_reducible refine (HN1.out _).mono ?_)
                  rintro e x1 ⟨rfl, hb1⟩
                  go_wp2_with fail
                  have HX1 : Hid (Below W5.heap.size W5 x1) := HX0.out.trans (hb1.mono HX0.out.size)
                  refine hK.out _ _ (KA.out _ HX1.out) (fun hHeld1 => ?_)
                  clear hK K hHeld hb1
                  (try simp only [Act.put, List.setIfInBounds_toArray, List.set_cons_zero, List.set_cons_succ])
                  refine wpAnyH_ready (rs := [7, 22]) (by kernel_rfl) (by simp) ?_
                  refine AllReadyH.cons rfl (fun K hK => ?_) (AllReadyH.cons rfl (fun K hK => ?_) AllReadyH.nil)
                  · go_simp
                    go_at_call 39
                    (with_reducible refine (HN2.out _).mono ?_)
                    rintro e x2 ⟨rfl, hb2⟩
                    go_wp2_with fail
                    have HX2 : Hid (Below W5.heap.size W5 x2) := HX1.out.trans (hb2.mono HX1.out.size)
                    refine hK.out _ _ (KA.out _ HX2.out) (fun hHeld2 => ?_)
                    clear hK K hHeld1 hb2
                    (try simp only [Act.put, List.setIfInBounds_toArray, List.set_cons_zero, List.set_cons_succ])
                    refine take_yes 8 (some 83) (v := ?v8_18) rfl rfl (by kernel_rfl) (by kernel_rfl) (by kernel_rfl) (fun _ _ _ h => h) (by kernel_rfl) ?h8_18 (by assumption) ?_
                    case h8_18 =>
                      intro w hSw
                      (try dsimp only at hSw)
                      (try go_split_ands)
                      go_simp
                      try with_reducible rfl
                    (try simp only [Act.put, List.setIfInBounds_toArray, List.set_cons_zero, List.set_cons_succ])
                    refine wpAnyH_ready (rs := [12, 22]) (by kernel_rfl) (by simp) ?_
                    refine AllReadyH.cons rfl (fun K hK => ?_) (AllReadyH.cons rfl (fun K hK => ?_) AllReadyH.nil)
                    · go_simp
                      go_at_call 39
                      (with_reducible refine (HN3.out _).mono ?_)
                      rintro e x3 ⟨rfl, hb3⟩
                      go_wp2_with fail
                      have HX3 : Hid (Below W5.heap.size W5 x3) := HX2.out.trans (hb3.mono HX2.out.size)
                      refine hK.out _ _ (KA.out _ HX3.out) (fun hHeld3 => ?_)
                      clear hK K hHeld2 hb3
                      (try simp only [Act.put, List.setIfInBounds_toArray, List.set_cons_zero, List.set_cons_succ])
                      refine take_yes 13 (some 88) (v := ?v13_19) rfl rfl (by kernel_rfl) (by kernel_rfl) (by kernel_rfl) (fun _ _ _ h => h) (by kernel_rfl) ?h13_19 (by assumption) ?_
                      case h13_19 =>
                        intro w hSw
                        (try dsimp only at hSw)
                        (try go_split_ands)
                        go_simp
                        try with_reducible rfl
                      (try simp only [Act.put, List.setIfInBounds_toArray, List.set_cons_zero, List.set_cons_succ])
                      refine wpAnyH_ready (rs := [22]) (by kernel_rfl) (by simp) ?_
                      refine AllReadyH.cons rfl (fun K hK => ?_) AllReadyH.nil
                      go_simp
                      have HX4 : Hid (Below W5.heap.size W5 (x3.alloc (.cells #[.int .u8 (gr + 40), .int .u8 (st + 1)] 5))) := HX3.out.alloc HX3.out.size _
                      refine hK.out _ _ (KA.out _ HX4.out) (fun hHeld4 => ?_)
                      clear hK K hHeld3
                      (try simp only [Act.put, List.setIfInBounds_toArray, List.set_cons_zero, List.set_cons_succ])
                      have hg4 : (x3.alloc (.cells #[.int .u8 (gr + 40), .int .u8 (st + 1)] 5)).heap[x3.heap.size]? = some (.cells #[.int .u8 (gr + 40), .int .u8 (st + 1)] 5 (0, 0)) := heap_alloc_new _ _
                      have hlt4 : x3.heap.size < (x3.alloc (.cells #[.int .u8 (gr + 40), .int .u8 (st + 1)] 5)).heap.size := by simp
                      generalize x3.alloc (.cells #[.int .u8 (gr + 40), .int .u8 (st + 1)] 5) = x4 at *
                      have KC4 : Hid (∀ w', Below x4.heap.size x4 w' → (convert 36 9 (.slice (some ⟨x3.heap.size, 0, none⟩) 2 2)).run Try.prog w' = .ok (.string Y4) w') := fun wx hx => by
                        have h := (hx.block x3.heap.size hlt4).trans hg4
                        exact HCV.out _ _ (by simp [World.cell?, h]) (by simp [World.cell?, h])
                      have HY4 : Hid (Below x4.heap.size x4 x4) := Below.refl _ _
                      clear hg4 hlt4
                      refine wpAnyH_mono (S' := fun w' => (w'.cell? ⟨wr.heap.size, 0, none⟩ = some (.string (str nm')) ∧ w'.cell? ⟨wr.heap.size, 1, none⟩ = some (.int .i64 ln) ∧ w'.cell? ⟨wr.heap.size, 2, none⟩ = some (.int .i64 li) ∧ w'.cell? ⟨wr.heap.size, 3, none⟩ = some (.int .i64 gr) ∧ w'.cell? ⟨wr.heap.size, 4, none⟩ = some (.int .i64 st)) ∧ (convert 36 9 (.slice (some ⟨x3.heap.size, 0, none⟩) 2 2)).run Try.prog w' = .ok (.string Y4) w') (fun _ h => h.1) _ _ _ _ ?_
                      have hHeldb4 : (x4.cell? ⟨wr.heap.size, 0, none⟩ = some (.string (str nm')) ∧ x4.cell? ⟨wr.heap.size, 1, none⟩ = some (.int .i64 ln) ∧ x4.cell? ⟨wr.heap.size, 2, none⟩ = some (.int .i64 li) ∧ x4.cell? ⟨wr.heap.size, 3, none⟩ = some (.int .i64 gr) ∧ x4.cell? ⟨wr.heap.size, 4, none⟩ = some (.int .i64 st)) ∧ (convert 36 9 (.slice (some ⟨x3.heap.size, 0, none⟩) 2 2)).run Try.prog x4 = .ok (.string Y4) x4 := ⟨hHeld4, KC4.out _ HY4.out⟩
                      clear hHeld4
                      refine take_yes 23 (some 98) (v := ?v23_20) rfl rfl (by kernel_rfl) (by kernel_rfl) (by kernel_rfl) (fun _ _ _ h => h) (by kernel_rfl) ?h23_20 (by assumption) ?_
                      case h23_20 =>
                        intro w hSw
                        (try dsimp only at hSw)
                        (try go_split_ands)
                        go_simp
                        try with_reducible rfl
                      (try simp only [Act.put, List.setIfInBounds_toArray, List.set_cons_zero, List.set_cons_succ])
                      refine take_yes 24 (some 99) (v := ?v24_21) rfl rfl (by kernel_rfl) (by kernel_rfl) (by kernel_rfl) (fun _ _ _ h => h) (by kernel_rfl) ?h24_21 (by assumption) ?_
                      case h24_21 =>
                        intro w hSw
                        (try dsimp only at hSw)
                        (try go_split_ands)
                        go_simp
                        try with_reducible rfl
                      (try simp only [Act.put, List.setIfInBounds_toArray, List.set_cons_zero, List.set_cons_succ])
                      refine take_yes 25 (some 100) (v := ?v25_22) rfl rfl (by kernel_rfl) (by kernel_rfl) (by kernel_rfl) (fun _ _ _ h => h) (by kernel_rfl) ?h25_22 (by assumption) ?_
                      case h25_22 =>
                        intro w hSw
                        (try dsimp only at hSw)
                        (try go_split_ands)
                        go_simp
                        try with_reducible rfl
                      (try simp only [Act.put, List.setIfInBounds_toArray, List.set_cons_zero, List.set_cons_succ])
                      refine take_yes 26 (some 4) (v := ?v26_23) rfl rfl (by kernel_rfl) (by kernel_rfl) (by kernel_rfl) (fun _ _ _ h => h) (by kernel_rfl) ?h26_23 (by assumption) ?_
                      case h26_23 =>
                        intro w hSw
                        (try dsimp only at hSw)
                        (try go_split_ands)
                        go_simp
                        try with_reducible rfl
                      (try simp only [Act.put, List.setIfInBounds_toArray, List.set_cons_zero, List.set_cons_succ])
                      refine wpAnyH_done (by kernel_rfl) ?_ _
                      have HBZ : Hid (Below w1.heap.size w1 x4) := HB5.out.trans (HX4.out.mono HB5.out.size)
                      go_wp2_with fail
                      go_roundw
                      case rel => exact ⟨k + 1, by omega, by go_num, by rw [HSX.out], HBZ.out⟩
                      case measure => simp [intOf]; omega
                    · go_simp
                      have HX5 : Hid (Below W5.heap.size W5 (x2.alloc (.cells #[.int .u8 (gr + 40), .int .u8 (st + 1)] 5))) := HX2.out.alloc HX2.out.size _
                      refine hK.out _ _ (KA.out _ HX5.out) (fun hHeld5 => ?_)
                      clear hK K hHeld2
                      (try simp only [Act.put, List.setIfInBounds_toArray, List.set_cons_zero, List.set_cons_succ])
                      have hg5 : (x2.alloc (.cells #[.int .u8 (gr + 40), .int .u8 (st + 1)] 5)).heap[x2.heap.size]? = some (.cells #[.int .u8 (gr + 40), .int .u8 (st + 1)] 5 (0, 0)) := heap_alloc_new _ _
                      have hlt5 : x2.heap.size < (x2.alloc (.cells #[.int .u8 (gr + 40), .int .u8 (st + 1)] 5)).heap.size := by simp
                      generalize x2.alloc (.cells #[.int .u8 (gr + 40), .int .u8 (st + 1)] 5) = x5 at *
                      have KC5 : Hid (∀ w', Below x5.heap.size x5 w' → (convert 36 9 (.slice (some ⟨x2.heap.size, 0, none⟩) 2 2)).run Try.prog w' = .ok (.string Y4) w') := fun wx hx => by
                        have h := (hx.block x2.heap.size hlt5).trans hg5
                        exact HCV.out _ _ (by simp [World.cell?, h]) (by simp [World.cell?, h])
                      have HY5 : Hid (Below x5.heap.size x5 x5) := Below.refl _ _
                      clear hg5 hlt5
                      refine wpAnyH_mono (S' := fun w' => (w'.cell? ⟨wr.heap.size, 0, none⟩ = some (.string (str nm')) ∧ w'.cell? ⟨wr.heap.size, 1, none⟩ = some (.int .i64 ln) ∧ w'.cell? ⟨wr.heap.size, 2, none⟩ = some (.int .i64 li) ∧ w'.cell? ⟨wr.heap.size, 3, none⟩ = some (.int .i64 gr) ∧ w'.cell? ⟨wr.heap.size, 4, none⟩ = some (.int .i64 st)) ∧ (convert 36 9 (.slice (some ⟨x2.heap.size, 0, none⟩) 2 2)).run Try.prog w' = .ok (.string Y4) w') (fun _ h => h.1) _ _ _ _ ?_
                      have hHeldb5 : (x5.cell? ⟨wr.heap.size, 0, none⟩ = some (.string (str nm')) ∧ x5.cell? ⟨wr.heap.size, 1, none⟩ = some (.int .i64 ln) ∧ x5.cell? ⟨wr.heap.size, 2, none⟩ = some (.int .i64 li) ∧ x5.cell? ⟨wr.heap.size, 3, none⟩ = some (.int .i64 gr) ∧ x5.cell? ⟨wr.heap.size, 4, none⟩ = some (.int .i64 st)) ∧ (convert 36 9 (.slice (some ⟨x2.heap.size, 0, none⟩) 2 2)).run Try.prog x5 = .ok (.string Y4) x5 := ⟨hHeld5, KC5.out _ HY5.out⟩
                      clear hHeld5
                      refine take_yes 23 (some 98) (v := ?v23_24) rfl rfl (by kernel_rfl) (by kernel_rfl) (by kernel_rfl) (fun _ _ _ h => h) (by kernel_rfl) ?h23_24 (by assumption) ?_
                      case h23_24 =>
                        intro w hSw
                        (try dsimp only at hSw)
                        (try go_split_ands)
                        go_simp
                        try with_reducible rfl
                      (try simp only [Act.put, List.setIfInBounds_toArray, List.set_cons_zero, List.set_cons_succ])
                      refine wpAnyH_ready (rs := [12]) (by kernel_rfl) (by simp) ?_
                      refine AllReadyH.cons rfl (fun K hK => ?_) AllReadyH.nil
                      go_simp
                      go_at_call 39
                      (with_reducible refine (HN3.out _).mono ?_)
                      rintro e x6 ⟨rfl, hb6⟩
                      go_wp2_with fail
                      have HX6 : Hid (Below W5.heap.size W5 x6) := HX5.out.trans (hb6.mono HX5.out.size)
                      have HY6 : Hid (Below x5.heap.size x5 x6) := HY5.out.trans (hb6.mono HY5.out.size)
                      refine hK.out _ _ (⟨KA.out _ HX6.out, KC5.out _ HY6.out⟩) (fun hHeld6 => ?_)
                      clear hK K hHeldb5 hb6
                      (try simp only [Act.put, List.setIfInBounds_toArray, List.set_cons_zero, List.set_cons_succ])
                      refine take_yes 13 (some 88) (v := ?v13_25) rfl rfl (by kernel_rfl) (by kernel_rfl) (by kernel_rfl) (fun _ _ _ h => h) (by kernel_rfl) ?h13_25 (by assumption) ?_
                      case h13_25 =>
                        intro w hSw
                        (try dsimp only at hSw)
                        (try go_split_ands)
                        go_simp
                        try with_reducible rfl
                      (try simp only [Act.put, List.setIfInBounds_toArray, List.set_cons_zero, List.set_cons_succ])
                      refine take_yes 24 (some 99) (v := ?v24_26) rfl rfl (by kernel_rfl) (by kernel_rfl) (by kernel_rfl) (fun _ _ _ h => h) (by kernel_rfl) ?h24_26 (by assumption) ?_
                      case h24_26 =>
                        intro w hSw
                        (try dsimp only at hSw)
                        (try go_split_ands)
                        go_simp
                        try with_reducible rfl
                      (try simp only [Act.put, List.setIfInBounds_toArray, List.set_cons_zero, List.set_cons_succ])
                      refine take_yes 25 (some 100) (v := ?v25_27) rfl rfl (by kernel_rfl) (by kernel_rfl) (by kernel_rfl) (fun _ _ _ h => h) (by kernel_rfl) ?h25_27 (by assumption) ?_
                      case h25_27 =>
                        intro w hSw
                        (try dsimp only at hSw)
                        (try go_split_ands)
                        go_simp
                        try with_reducible rfl
                      (try simp only [Act.put, List.setIfInBounds_toArray, List.set_cons_zero, List.set_cons_succ])
                      refine take_yes 26 (some 4) (v := ?v26_28) rfl rfl (by kernel_rfl) (by kernel_rfl) (by kernel_rfl) (fun _ _ _ h => h) (by kernel_rfl) ?h26_28 (by assumption) ?_
                      case h26_28 =>
                        intro w hSw
                        (try dsimp only at hSw)
                        (try go_split_ands)
                        go_simp
                        try with_reducible rfl
                      (try simp only [Act.put, List.setIfInBounds_toArray, List.set_cons_zero, List.set_cons_succ])
                      refine wpAnyH_done (by kernel_rfl) ?_ _
                      have HBZ : Hid (Below w1.heap.size w1 x6) := HB5.out.trans (HX6.out.mono HB5.out.size)
                      go_wp2_with fail
                      go_roundw
                      case rel => exact ⟨k + 1, by omega, by go_num, by rw [HSX.out], HBZ.out⟩
                      case measure => simp [intOf]; omega
                  · go_simp
                    have HX7 : Hid (Below W5.heap.size W5 (x1.alloc (.cells #[.int .u8 (gr + 40), .int .u8 (st + 1)] 5))) := HX1.out.alloc HX1.out.size _
                    refine hK.out _ _ (KA.out _ HX7.out) (fun hHeld7 => ?_)
                    clear hK K hHeld1
                    (try simp only [Act.put, List.setIfInBounds_toArray, List.set_cons_zero, List.set_cons_succ])
                    have hg7 : (x1.alloc (.cells #[.int .u8 (gr + 40), .int .u8 (st + 1)] 5)).heap[x1.heap.size]? = some (.cells #[.int .u8 (gr + 40), .int .u8 (st + 1)] 5 (0, 0)) := heap_alloc_new _ _
                    have hlt7 : x1.heap.size < (x1.alloc (.cells #[.int .u8 (gr + 40), .int .u8 (st + 1)] 5)).heap.size := by simp
                    generalize x1.alloc (.cells #[.int .u8 (gr + 40), .int .u8 (st + 1)] 5) = x7 at *
                    have KC7 : Hid (∀ w', Below x7.heap.size x7 w' → (convert 36 9 (.slice (some ⟨x1.heap.size, 0, none⟩) 2 2)).run Try.prog w' = .ok (.string Y4) w') := fun wx hx => by
                      have h := (hx.block x1.heap.size hlt7).trans hg7
                      exact HCV.out _ _ (by simp [World.cell?, h]) (by simp [World.cell?, h])
                    have HY7 : Hid (Below x7.heap.size x7 x7) := Below.refl _ _
                    clear hg7 hlt7
                    refine wpAnyH_mono (S' := fun w' => (w'.cell? ⟨wr.heap.size, 0, none⟩ = some (.string (str nm')) ∧ w'.cell? ⟨wr.heap.size, 1, none⟩ = some (.int .i64 ln) ∧ w'.cell? ⟨wr.heap.size, 2, none⟩ = some (.int .i64 li) ∧ w'.cell? ⟨wr.heap.size, 3, none⟩ = some (.int .i64 gr) ∧ w'.cell? ⟨wr.heap.size, 4, none⟩ = some (.int .i64 st)) ∧ (convert 36 9 (.slice (some ⟨x1.heap.size, 0, none⟩) 2 2)).run Try.prog w' = .ok (.string Y4) w') (fun _ h => h.1) _ _ _ _ ?_
                    have hHeldb7 : (x7.cell? ⟨wr.heap.size, 0, none⟩ = some (.string (str nm')) ∧ x7.cell? ⟨wr.heap.size, 1, none⟩ = some (.int .i64 ln) ∧ x7.cell? ⟨wr.heap.size, 2, none⟩ = some (.int .i64 li) ∧ x7.cell? ⟨wr.heap.size, 3, none⟩ = some (.int .i64 gr) ∧ x7.cell? ⟨wr.heap.size, 4, none⟩ = some (.int .i64 st)) ∧ (convert 36 9 (.slice (some ⟨x1.heap.size, 0, none⟩) 2 2)).run Try.prog x7 = .ok (.string Y4) x7 := ⟨hHeld7, KC7.out _ HY7.out⟩
                    clear hHeld7
                    refine take_yes 23 (some 98) (v := ?v23_29) rfl rfl (by kernel_rfl) (by kernel_rfl) (by kernel_rfl) (fun _ _ _ h => h) (by kernel_rfl) ?h23_29 (by assumption) ?_
                    case h23_29 =>
                      intro w hSw
                      (try dsimp only at hSw)
                      (try go_split_ands)
                      go_simp
                      try with_reducible rfl
                    (try simp only [Act.put, List.setIfInBounds_toArray, List.set_cons_zero, List.set_cons_succ])
                    refine wpAnyH_ready (rs := [7]) (by kernel_rfl) (by simp) ?_
                    refine AllReadyH.cons rfl (fun K hK => ?_) AllReadyH.nil
                    go_simp
                    go_at_call 39
                    (with_reducible refine (HN2.out _).mono ?_)
                    rintro e x8 ⟨rfl, hb8⟩
                    go_wp2_with fail
                    have HX8 : Hid (Below W5.heap.size W5 x8) := HX7.out.trans (hb8.mono HX7.out.size)
                    have HY8 : Hid (Below x7.heap.size x7 x8) := HY7.out.trans (hb8.mono HY7.out.size)
                    refine hK.out _ _ (⟨KA.out _ HX8.out, KC7.out _ HY8.out⟩) (fun hHeld8 => ?_)
                    clear hK K hHeldb7 hb8
                    (try simp only [Act.put, List.setIfInBounds_toArray, List.set_cons_zero, List.set_cons_succ])
                    refine take_yes 8 (some 83) (v := ?v8_30) rfl rfl (by kernel_rfl) (by kernel_rfl) (by kernel_rfl) (fun _ _ _ h => h) (by kernel_rfl) ?h8_30 (by assumption) ?_
                    case h8_30 =>
                      intro w hSw
                      (try dsimp only at hSw)
                      (try go_split_ands)
                      go_simp
                      try with_reducible rfl
                    (try simp only [Act.put, List.setIfInBounds_toArray, List.set_cons_zero, List.set_cons_succ])
                    refine wpAnyH_ready (rs := [12]) (by kernel_rfl) (by simp) ?_
                    refine AllReadyH.cons rfl (fun K hK => ?_) AllReadyH.nil
                    go_simp
                    go_at_call 39
                    (with_reducible refine (HN3.out _).mono ?_)
                    rintro e x9 ⟨rfl, hb9⟩
                    go_wp2_with fail
                    have HX9 : Hid (Below W5.heap.size W5 x9) := HX8.out.trans (hb9.mono HX8.out.size)
                    have HY9 : Hid (Below x7.heap.size x7 x9) := HY8.out.trans (hb9.mono HY8.out.size)
                    refine hK.out _ _ (⟨KA.out _ HX9.out, KC7.out _ HY9.out⟩) (fun hHeld9 => ?_)
                    clear hK K hHeld8 hb9
                    (try simp only [Act.put, List.setIfInBounds_toArray, List.set_cons_zero, List.set_cons_succ])
                    refine take_yes 13 (some 88) (v := ?v13_31) rfl rfl (by kernel_rfl) (by kernel_rfl) (by kernel_rfl) (fun _ _ _ h => h) (by kernel_rfl) ?h13_31 (by assumption) ?_
                    case h13_31 =>
                      intro w hSw
                      (try dsimp only at hSw)
                      (try go_split_ands)
                      go_simp
                      try with_reducible rfl
                    (try simp only [Act.put, List.setIfInBounds_toArray, List.set_cons_zero, List.set_cons_succ])
                    refine take_yes 24 (some 99) (v := ?v24_32) rfl rfl (by kernel_rfl) (by kernel_rfl) (by kernel_rfl) (fun _ _ _ h => h) (by kernel_rfl) ?h24_32 (by assumption) ?_
                    case h24_32 =>
                      intro w hSw
                      (try dsimp only at hSw)
                      (try go_split_ands)
                      go_simp
                      try with_reducible rfl
                    (try simp only [Act.put, List.setIfInBounds_toArray, List.set_cons_zero, List.set_cons_succ])
                    refine take_yes 25 (some 100) (v := ?v25_33) rfl rfl (by kernel_rfl) (by kernel_rfl) (by kernel_rfl) (fun _ _ _ h => h) (by kernel_rfl) ?h25_33 (by assumption) ?_
                    case h25_33 =>
                      intro w hSw
                      (try dsimp only at hSw)
                      (try go_split_ands)
                      go_simp
                      try with_reducible rfl
                    (try simp only [Act.put, List.setIfInBounds_toArray, List.set_cons_zero, List.set_cons_succ])
                    refine take_yes 26 (some 4) (v := ?v26_34) rfl rfl (by kernel_rfl) (by kernel_rfl) (by kernel_rfl) (fun _ _ _ h => h) (by kernel_rfl) ?h26_34 (by assumption) ?_
                    case h26_34 =>
                      intro w hSw
                      (try dsimp only at hSw)
                      (try go_split_ands)
                      go_simp
                      try with_reducible rfl
                    (try simp only [Act.put, List.setIfInBounds_toArray, List.set_cons_zero, List.set_cons_succ])
                    refine wpAnyH_done (by kernel_rfl) ?_ _
                    have HBZ : Hid (Below w1.heap.size w1 x9) := HB5.out.trans (HX9.out.mono HB5.out.size)
                    go_wp2_with fail
                    go_roundw
                    case rel => exact ⟨k + 1, by omega, by go_num, by rw [HSX.out], HBZ.out⟩
                    case measure => simp [intOf]; omega
                · go_simp
                  have HX10 : Hid (Below W5.heap.size W5 (x0.alloc (.cells #[.int .u8 (gr + 40), .int .u8 (st + 1)] 5))) := HX0.out.alloc HX0.out.size _
                  refine hK.out _ _ (KA.out _ HX10.out) (fun hHeld10 => ?_)
                  clear hK K hHeld
                  (try simp only [Act.put, List.setIfInBounds_toArray, List.set_cons_zero, List.set_cons_succ])
                  have hg10 : (x0.alloc (.cells #[.int .u8 (gr + 40), .int .u8 (st + 1)] 5)).heap[x0.heap.size]? = some (.cells #[.int .u8 (gr + 40), .int .u8 (st + 1)] 5 (0, 0)) := heap_alloc_new _ _
                  have hlt10 : x0.heap.size < (x0.alloc (.cells #[.int .u8 (gr + 40), .int .u8 (st + 1)] 5)).heap.size := by simp
                  generalize x0.alloc (.cells #[.int .u8 (gr + 40), .int .u8 (st + 1)] 5) = x10 at *
                  have KC10 : Hid (∀ w', Below x10.heap.size x10 w' → (convert 36 9 (.slice (some ⟨x0.heap.size, 0, none⟩) 2 2)).run Try.prog w' = .ok (.string Y4) w') := fun wx hx => by
                    have h := (hx.block x0.heap.size hlt10).trans hg10
                    exact HCV.out _ _ (by simp [World.cell?, h]) (by simp [World.cell?, h])
                  have HY10 : Hid (Below x10.heap.size x10 x10) := Below.refl _ _
                  clear hg10 hlt10
                  refine wpAnyH_mono (S' := fun w' => (w'.cell? ⟨wr.heap.size, 0, none⟩ = some (.string (str nm')) ∧ w'.cell? ⟨wr.heap.size, 1, none⟩ = some (.int .i64 ln) ∧ w'.cell? ⟨wr.heap.size, 2, none⟩ = some (.int .i64 li) ∧ w'.cell? ⟨wr.heap.size, 3, none⟩ = some (.int .i64 gr) ∧ w'.cell? ⟨wr.heap.size, 4, none⟩ = some (.int .i64 st)) ∧ (convert 36 9 (.slice (some ⟨x0.heap.size, 0, none⟩) 2 2)).run Try.prog w' = .ok (.string Y4) w') (fun _ h => h.1) _ _ _ _ ?_
                  have hHeldb10 : (x10.cell? ⟨wr.heap.size, 0, none⟩ = some (.string (str nm')) ∧ x10.cell? ⟨wr.heap.size, 1, none⟩ = some (.int .i64 ln) ∧ x10.cell? ⟨wr.heap.size, 2, none⟩ = some (.int .i64 li) ∧ x10.cell? ⟨wr.heap.size, 3, none⟩ = some (.int .i64 gr) ∧ x10.cell? ⟨wr.heap.size, 4, none⟩ = some (.int .i64 st)) ∧ (convert 36 9 (.slice (some ⟨x0.heap.size, 0, none⟩) 2 2)).run Try.prog x10 = .ok (.string Y4) x10 := ⟨hHeld10, KC10.out _ HY10.out⟩
                  clear hHeld10
                  refine take_yes 23 (some 98) (v := ?v23_35) rfl rfl (by kernel_rfl) (by kernel_rfl) (by kernel_rfl) (fun _ _ _ h => h) (by kernel_rfl) ?h23_35 (by assumption) ?_
                  case h23_35 =>
                    intro w hSw
                    (try dsimp only at hSw)
                    (try go_split_ands)
                    go_simp
                    try with_reducible rfl
                  (try simp only [Act.put, List.setIfInBounds_toArray, List.set_cons_zero, List.set_cons_succ])
                  refine wpAnyH_ready (rs := [3]) (by kernel_rfl) (by simp) ?_
                  refine AllReadyH.cons rfl (fun K hK => ?_) AllReadyH.nil
                  go_simp
                  go_at_call 38
                  (with_reducible refine (HN1.out _).mono ?_)
                  rintro e x11 ⟨rfl, hb11⟩
                  go_wp2_with fail
                  have HX11 : Hid (Below W5.heap.size W5 x11) := HX10.out.trans (hb11.mono HX10.out.size)
                  have HY11 : Hid (Below x10.heap.size x10 x11) := HY10.out.trans (hb11.mono HY10.out.size)
                  refine hK.out _ _ (⟨KA.out _ HX11.out, KC10.out _ HY11.out⟩) (fun hHeld11 => ?_)
                  clear hK K hHeldb10 hb11
                  (try simp only [Act.put, List.setIfInBounds_toArray, List.set_cons_zero, List.set_cons_succ])
                  refine wpAnyH_ready (rs := [7]) (by kernel_rfl) (by simp) ?_
                  refine AllReadyH.cons rfl (fun K hK => ?_) AllReadyH.nil
                  go_simp
                  go_at_call 39
                  (with_reducible refine (HN2.out _).mono ?_)
                  rintro e x12 ⟨rfl, hb12⟩
                  go_wp2_with fail
                  have HX12 : Hid (Below W5.heap.size W5 x12) := HX11.out.trans (hb12.mono HX11.out.size)
                  have HY12 : Hid (Below x10.heap.size x10 x12) := HY11.out.trans (hb12.mono HY11.out.size)
                  refine hK.out _ _ (⟨KA.out _ HX12.out, KC10.out _ HY12.out⟩) (fun hHeld12 => ?_)
                  clear hK K hHeld11 hb12
                  (try simp only [Act.put, List.setIfInBounds_toArray, List.set_cons_zero, List.set_cons_succ])
                  refine take_yes 8 (some 83) (v := ?v8_36) rfl rfl (by kernel_rfl) (by kernel_rfl) (by kernel_rfl) (fun _ _ _ h => h) (by kernel_rfl) ?h8_36 (by assumption) ?_
                  case h8_36 =>
                    intro w hSw
                    (try dsimp only at hSw)
                    (try go_split_ands)
                    go_simp
                    try with_reducible rfl
                  (try simp only [Act.put, List.setIfInBounds_toArray, List.set_cons_zero, List.set_cons_succ])
                  refine wpAnyH_ready (rs := [12]) (by kernel_rfl) (by simp) ?_
                  refine AllReadyH.cons rfl (fun K hK => ?_) AllReadyH.nil
                  go_simp
                  go_at_call 39
                  (with_reducible refine (HN3.out _).mono ?_)
                  rintro e x13 ⟨rfl, hb13⟩
                  go_wp2_with fail
                  have HX13 : Hid (Below W5.heap.size W5 x13) := HX12.out.trans (hb13.mono HX12.out.size)
                  have HY13 : Hid (Below x10.heap.size x10 x13) := HY12.out.trans (hb13.mono HY12.out.size)
                  refine hK.out _ _ (⟨KA.out _ HX13.out, KC10.out _ HY13.out⟩) (fun hHeld13 => ?_)
                  clear hK K hHeld12 hb13
                  (try simp only [Act.put, List.setIfInBounds_toArray, List.set_cons_zero, List.set_cons_succ])
                  refine take_yes 13 (some 88) (v := ?v13_37) rfl rfl (by kernel_rfl) (by kernel_rfl) (by kernel_rfl) (fun _ _ _ h => h) (by kernel_rfl) ?h13_37 (by assumption) ?_
                  case h13_37 =>
                    intro w hSw
                    (try dsimp only at hSw)
                    (try go_split_ands)
                    go_simp
                    try with_reducible rfl
                  (try simp only [Act.put, List.setIfInBounds_toArray, List.set_cons_zero, List.set_cons_succ])
                  refine take_yes 24 (some 99) (v := ?v24_38) rfl rfl (by kernel_rfl) (by kernel_rfl) (by kernel_rfl) (fun _ _ _ h => h) (by kernel_rfl) ?h24_38 (by assumption) ?_
                  case h24_38 =>
                    intro w hSw
                    (try dsimp only at hSw)
                    (try go_split_ands)
                    go_simp
                    try with_reducible rfl
                  (try simp only [Act.put, List.setIfInBounds_toArray, List.set_cons_zero, List.set_cons_succ])
                  refine take_yes 25 (some 100) (v := ?v25_39) rfl rfl (by kernel_rfl) (by kernel_rfl) (by kernel_rfl) (fun _ _ _ h => h) (by kernel_rfl) ?h25_39 (by assumption) ?_
                  case h25_39 =>
                    intro w hSw
                    (try dsimp only at hSw)
                    (try go_split_ands)
                    go_simp
                    try with_reducible rfl
                  (try simp only [Act.put, List.setIfInBounds_toArray, List.set_cons_zero, List.set_cons_succ])
                  refine take_yes 26 (some 4) (v := ?v26_40) rfl rfl (by kernel_rfl) (by kernel_rfl) (by kernel_rfl) (fun _ _ _ h => h) (by kernel_rfl) ?h26_40 (by assumption) ?_
                  case h26_40 =>
                    intro w hSw
                    (try dsimp only at hSw)
                    (try go_split_ands)
                    go_simp
                    try with_reducible rfl
                  (try simp only [Act.put, List.setIfInBounds_toArray, List.set_cons_zero, List.set_cons_succ])
                  refine wpAnyH_done (by kernel_rfl) ?_ _
                  have HBZ : Hid (Below w1.heap.size w1 x13) := HB5.out.trans (HX13.out.mono HB5.out.size)
                  go_wp2_with fail
                  go_roundw
                  case rel => exact ⟨k + 1, by omega, by go_num, by rw [HSX.out], HBZ.out⟩
                  case measure => simp [intOf]; omega
              · have hkn : ¬ (k : Int) < (n3 : Int) := by omega
                have HXX : Hid (str (sig ++ counts l ++ l.stations.flatMap nm ++ l.points.flatMap nm ++ (l.sections.take k).flatMap encSec) = str (sig ++ counts l ++ l.stations.flatMap nm ++ l.points.flatMap nm ++ l.sections.flatMap encSec)) := by
                  have : l.sections.take k = l.sections := List.take_of_length_le (by omega)
                  rw [Hid, this]
                have HBW := Lib.hid hbw
                rw [HXX.out]
                try clear HD
                obtain ⟨D, hD⟩ : ∃ D, str (sig ++ counts l ++ l.stations.flatMap nm ++ l.points.flatMap nm ++ l.sections.flatMap encSec) = D := ⟨_, rfl⟩
                rw [hD]
                have HD := Lib.hid hD
                clear hbw HXX hD
                have HPA4 : Hid (sig ++ counts l ++ l.stations.flatMap nm ++ l.points.flatMap nm ++ l.sections.flatMap encSec = sig ++ counts l ++ l.stations.flatMap nm ++ l.points.flatMap nm ++ l.sections.flatMap encSec ++ (l.links.take 0).flatMap encLnk) := by simp [Hid]
                go_wp2_with fail
                clear k0 k1 k2 k3
                go_loopw [4, 9] (fun x i wr => ∃ k : Nat, k ≤ n4 ∧ i = .int .i64 k ∧ x = .string (str (sig ++ counts l ++ l.stations.flatMap nm ++ l.points.flatMap nm ++ l.sections.flatMap encSec ++ (l.links.take k).flatMap encLnk)) ∧ Below w1.heap.size w1 wr) (fun _ i _ => n4 - (intOf i).toNat)
                case atStart => exact ⟨0, Nat.zero_le _, rfl, by rw [← HPA4.out, HD.out], HBW.out⟩
                case round =>
                  obtain ⟨k, hk, rfl, rfl, hbw⟩ := hrel
                  have hz := hbw.size
                  obtain ⟨k0, k1, k2, k3⟩ := HC1.out _ hbw
                  by_cases hlt : k < n4
                  · obtain ⟨ad, s, rfl, hab, hsk, d0, d1, d2, d3, d4, d5⟩ := loadLnk (HR1.out _ hbw).lnk hlt
                    have hkn : (k : Int) < (n4 : Int) := by omega
                    have hfl := flat_le encLnk 4 l.links k G4.out
                    have HTK := Lib.hid (take_flat encLnk hsk)
                    obtain ⟨r1, r2, r3, r4, r5, r6, r7, r8, r9, r10, r11, r12, r13⟩ := inr_range (HV.out.lnk s (List.mem_of_getElem? hsk))
                    have hpl : (sig ++ counts l ++ l.stations.flatMap nm ++ l.points.flatMap nm ++ l.sections.flatMap encSec ++ (l.links.take k).flatMap encLnk).length ≤ 100000 := by simp only [List.length_append, hsl]; omega
                    obtain ⟨ka, kae, kb, kbe, kpt, kps⟩ := s
                    simp only at d0 d1 d2 d3 d4 d5 r1 r2 r3 r4 r5 r6 r7 r8 r9 r10 r11 r12
                    obtain ⟨W5, hW5⟩ : ∃ W5, wr.alloc (.cells #[.int .i64 ka, .int .i64 kae, .int .i64 kb, .int .i64 kbe, .int .i64 kpt, .int .i64 kps] 70) = W5 := ⟨_, rfl⟩
                    have hb5 : Below wr.heap.size wr W5 := by rw [← hW5]; exact (Below.refl _ _).alloc (Nat.le_refl _) _
                    have hz5 : wr.heap.size < W5.heap.size := by rw [← hW5]; simp
                    have hg5 : W5.heap[wr.heap.size]? = some (.cells #[.int .i64 ka, .int .i64 kae, .int .i64 kb, .int .i64 kbe, .int .i64 kpt, .int .i64 kps] 70 (0, 0)) := by rw [← hW5]; exact heap_alloc_new _ _
                    have KA : Hid (W5.cell? ⟨wr.heap.size, 0, none⟩ = some (.int .i64 ka) ∧ W5.cell? ⟨wr.heap.size, 1, none⟩ = some (.int .i64 kae) ∧ W5.cell? ⟨wr.heap.size, 2, none⟩ = some (.int .i64 kb) ∧ W5.cell? ⟨wr.heap.size, 3, none⟩ = some (.int .i64 kbe) ∧ W5.cell? ⟨wr.heap.size, 4, none⟩ = some (.int .i64 kpt) ∧ W5.cell? ⟨wr.heap.size, 5, none⟩ = some (.int .i64 kps)) := by
                      simp [Hid, World.cell?, hg5]
                    have HB5 := Lib.hid (hbw.trans (hb5.mono hz))
                    have hcv := conv_four (2 * ka + kae) (2 * kb + kbe) (kpt + 1) kps _ _ _ _ (small_eq (y := ka * 2 + kae) (by omega) (by omega) (by omega)) (small_eq (y := kb * 2 + kbe) (by omega) (by omega) (by omega)) (small_int (by omega) (by omega)) (small_int (by omega) (by omega))
                    have HSX : Hid (str (sig ++ counts l ++ l.stations.flatMap nm ++ l.points.flatMap nm ++ l.sections.flatMap encSec ++ (l.links.take k).flatMap encLnk) ++ str [UInt8.ofNat (ka * 2 + kae).toNat, UInt8.ofNat (kb * 2 + kbe).toNat, UInt8.ofNat (kpt + 1).toNat, UInt8.ofNat kps.toNat] = str (sig ++ counts l ++ l.stations.flatMap nm ++ l.points.flatMap nm ++ l.sections.flatMap encSec ++ (l.links.take (k + 1)).flatMap encLnk)) := by
                      rw [Hid, HTK.out]
                      simp only [str_append]
                      congr 1
                      unfold encLnk
                      simp only [le, List.append_assoc, List.cons_append, List.nil_append]
                    have hsz : (str (sig ++ counts l ++ l.stations.flatMap nm ++ l.points.flatMap nm ++ l.sections.flatMap encSec ++ (l.links.take k).flatMap encLnk)).size + (str [UInt8.ofNat (ka * 2 + kae).toNat, UInt8.ofNat (kb * 2 + kbe).toNat, UInt8.ofNat (kpt + 1).toNat, UInt8.ofNat kps.toNat]).size ≤ 9223372036854775807 := by rw [size_str, size_str]; simp only [List.length_cons, List.length_nil]; omega
                    obtain ⟨X, hX⟩ : ∃ X, str (sig ++ counts l ++ l.stations.flatMap nm ++ l.points.flatMap nm ++ l.sections.flatMap encSec ++ (l.links.take k).flatMap encLnk) = X := ⟨_, rfl⟩
                    obtain ⟨Y, hY⟩ : ∃ Y, str [UInt8.ofNat (ka * 2 + kae).toNat, UInt8.ofNat (kb * 2 + kbe).toNat, UInt8.ofNat (kpt + 1).toNat, UInt8.ofNat kps.toNat] = Y := ⟨_, rfl⟩
                    rw [hX] at HSX hsz ⊢
                    rw [hY] at HSX hsz hcv
                    clear hsk hfl hpl hX hY HTK hb5 hz5 hg5 r13
                    go_upto_region 21 with fail
                    clear hW5 d0 d1 d2 d3 d4 d5 k0 k1 k2 k3
                    obtain ⟨d0, d1, d2, d3, d4, d5⟩ := KA.out
                    go_wp2_with fail
                    go_roundw
                    case rel => exact ⟨k + 1, by omega, by go_num, by rw [HSX.out], HB5.out.trans (((Below.refl _ _).alloc (Nat.le_refl _) _).mono HB5.out.size)⟩
                    case measure => simp [intOf]; omega
                  · have hkn : ¬ (k : Int) < (n4 : Int) := by omega
                    have HXX : Hid (str (sig ++ counts l ++ l.stations.flatMap nm ++ l.points.flatMap nm ++ l.sections.flatMap encSec ++ (l.links.take k).flatMap encLnk) = str (body l)) := by
                      have : l.links.take k = l.links := List.take_of_length_le (by omega)
                      rw [Hid, this]
                      unfold body
                      simp only [List.append_assoc]
                    have hlb : (body l).length ≤ 100000 := by unfold body; simp only [List.length_append, hsl]; omega
                    have hcl := crc_lt (body l)
                    have HBW := Lib.hid hbw
                    have HCR := Lib.hid (fun wx => r_crc (str (body l)) wx (by rw [size_str]; omega))
                    rw [bs_str] at HCR
                    have HLT := Lib.hid (fun (x : Int) (wx : World) (hx : x = (crc (body l) : Nat)) => little_eq x (crc (body l)) 4 wx hx (by omega) (by omega))
                    have HFX : Hid (str (body l) ++ str (le 4 (crc (body l))) = str (enc l)) := str_append _ _
                    have hsz : (str (body l)).size + (str (le 4 (crc (body l)))).size ≤ 9223372036854775807 := by rw [size_str, size_str, le_length]; omega
                    rw [HXX.out]
                    try clear HD
                    obtain ⟨D, hD⟩ : ∃ D, str (body l) = D := ⟨_, rfl⟩
                    obtain ⟨F, hF⟩ : ∃ F, str (le 4 (crc (body l))) = F := ⟨_, rfl⟩
                    rw [hD] at HCR HFX hsz ⊢
                    rw [hF] at HLT HFX hsz
                    clear hbw HXX hD hF hlb
                    go_wp2_with fail
                    refine (HCR.out _).mono ?_
                    rintro e w6 ⟨rfl, rfl⟩
                    go_wp2_with fail
                    refine (HLT.out _ _ (by omega)).mono ?_
                    rintro e w7 ⟨rfl, hb7⟩
                    have HF := Lib.hid (HW1.out _ (HBW.out.trans (hb7.mono HBW.out.size)))
                    clear hb7 HLT HCR HBW k0 k1 k2 k3 hcl
                    go_wp2_with fail
                    go_ret2
                    exact ⟨by rw [HT.out, HE.out, HFX.out]; rfl, HF.out⟩
  · have ht : (check l == 0) = false := by simpa using hv
    have htn : (check l != 0) = true := by simpa using hv
    have HT : Hid (encT l = []) := by rw [Hid, encT, if_neg hv]
    have HE : Hid (encE l = 1) := by rw [Hid, encE, if_neg hv]
    clear hv
    go_wp2_with fail
    go_ret2
    exact ⟨by rw [HT.out, HE.out]; rfl, HB1.out⟩
end Go.Proofs.Ytepbdcnjhbaehaa.REnc
