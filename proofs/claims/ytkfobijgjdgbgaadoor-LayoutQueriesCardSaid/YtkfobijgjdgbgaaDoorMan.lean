/-
  Two laws for a walk by hand through a region that draws its order: an operation that yields a value; one whose guard is false. The slot that it writes is handed over written out.
-/
import Derived.Test.YtkfobijgjdgbgaaDoorRecs
import Derived.Deep.RegionHeld3
namespace Go.Proofs.YtkfobijgjdgbgaaDoor.Man
open Go

section
variable {P : Program} {ops : Array Oper} {Q : Exit → Act → World → Prop} {md : Region.Mode} {S : World → Prop} {oi : Oper} {v : Value} {fuel : Nat} {listed : Array Bool} {a : Act} {w : World}
theorem take_yes (i : Nat) (d : Option Tmp) (hi : ops[i]? = some oi) (hd : oi.dst = d) (hn : Region.noSelect ops = true) (hf : Region.free md ops listed i = true) (hr : (Region.ready md ops listed).contains i = true)
    (hp : ∀ (c : List PanicEntry) (a : Act) (w : World), Q (Exit.panic c) (a.put d v) w → Q (Exit.panic c) a w) (hw : Region.wanted oi (yielded ops a.tmps) = true) (hy : ∀ (w : World), S w → Sem.run P (execOp a.eval oi) w = Result.ok (Next.value v) w) (hS : S w)
    (hK : wpAnyH P md ops Q S fuel (listed.setIfInBounds i true) (a.put d v) w) : wpAnyH P md ops Q S (fuel + 1) listed a w := by
  subst hd
  exact wpAnyH_take hi hn hf hr hp (.inl ⟨hw, hy⟩) hS hK
theorem take_no (i : Nat) (d : Option Tmp) (hi : ops[i]? = some oi) (hd : oi.dst = d) (hn : Region.noSelect ops = true) (hf : Region.free md ops listed i = true) (hr : (Region.ready md ops listed).contains i = true)
    (hp : ∀ (c : List PanicEntry) (a : Act) (w : World), Q (Exit.panic c) (a.put d undef) w → Q (Exit.panic c) a w) (hw : Region.wanted oi (yielded ops a.tmps) = false) (hS : S w)
    (hK : wpAnyH P md ops Q S fuel (listed.setIfInBounds i true) (a.put d undef) w) : wpAnyH P md ops Q S (fuel + 1) listed a w := by
  subst hd
  exact wpAnyH_take hi hn hf hr hp (.inr ⟨hw, rfl⟩) hS hK
end
end Go.Proofs.YtkfobijgjdgbgaaDoor.Man
