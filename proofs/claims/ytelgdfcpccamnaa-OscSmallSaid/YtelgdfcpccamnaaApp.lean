/- Appends of bytes in a region that draws its order. -/
import Derived.Test.YtelgdfcpccamnaaLib
namespace Go.Proofs.Ytelgdfcpccamnaa
open Go.RowKit Go.Proofs
set_option maxRecDepth 50000
set_option linter.unusedVariables false

/-- Two of a region's operations may come up next. -/
theorem rtwo {P : Program} {ops : Array Oper} {Q : Exit → Act → World → Prop} {md : Region.Mode} {S : World → Prop} (i j : Nat) {oi oj : Oper} {fuel : Nat} {listed : Array Bool} {a : Act} {w : World}
    (hi : ops.toList[i]? = some oi) (hj : ops.toList[j]? = some oj) (hr : Region.ready md ops listed = [i, j]) (hwi : Region.wanted oi (yielded ops a.tmps) = true) (hwj : Region.wanted oj (yielded ops a.tmps) = true)
    (h1 : ∀ K' : Act → World → Prop, Shut (∀ a w, S w → wpAnyH P md ops Q S fuel (listed.setIfInBounds i true) a w → K' a w) → oi.wp P a w K' Q)
    (h2 : ∀ K' : Act → World → Prop, Shut (∀ a w, S w → wpAnyH P md ops Q S fuel (listed.setIfInBounds j true) a w → K' a w) → oj.wp P a w K' Q) : wpAnyH P md ops Q S (fuel + 1) listed a w :=
  wpAnyH_ready hr (by simp) (AllReadyH.cons (by rw [← Array.getElem?_toList]; exact hi) (fun K hK => by rw [if_pos hwi]; exact h1 K fun a w hS hh => hK.out a w hS fun _ => hh)
    (AllReadyH.cons (by rw [← Array.getElem?_toList]; exact hj) (fun K hK => by rw [if_pos hwj]; exact h2 K fun a w hS hh => hK.out a w hS fun _ => hh) AllReadyH.nil))

theorem lit_later {wd cur : World} (h : Below wd.heap.size wd cur) (l : List UInt8) (hl : l.length ≤ maxLen) : Bytes (cur.alloc (.cells (cellsOf l).toArray 5)) (.slice (some ⟨cur.heap.size, 0, none⟩) l.length l.length) l :=
  (Own.lit cur l hl).bytes

end Go.Proofs.Ytelgdfcpccamnaa
