/- Three and four of a region's operations may come up next. -/
import Derived.Test.YtehnhkjeijbliaaApp
namespace Go.Proofs.Ytehnhkjeijbliaa
open Go.RowKit Go.Proofs
set_option maxRecDepth 50000
set_option linter.unusedVariables false

theorem rthree {P : Program} {ops : Array Oper} {Q : Exit → Act → World → Prop} {md : Region.Mode} {S : World → Prop} (i j k : Nat) {oi oj ok : Oper} {fuel : Nat} {listed : Array Bool} {a : Act} {w : World}
    (hi : ops.toList[i]? = some oi) (hj : ops.toList[j]? = some oj) (hk : ops.toList[k]? = some ok) (hr : Region.ready md ops listed = [i, j, k])
    (hwi : Region.wanted oi (yielded ops a.tmps) = true) (hwj : Region.wanted oj (yielded ops a.tmps) = true) (hwk : Region.wanted ok (yielded ops a.tmps) = true)
    (h1 : ∀ K' : Act → World → Prop, Shut (∀ a w, S w → wpAnyH P md ops Q S fuel (listed.setIfInBounds i true) a w → K' a w) → oi.wp P a w K' Q)
    (h2 : ∀ K' : Act → World → Prop, Shut (∀ a w, S w → wpAnyH P md ops Q S fuel (listed.setIfInBounds j true) a w → K' a w) → oj.wp P a w K' Q)
    (h3 : ∀ K' : Act → World → Prop, Shut (∀ a w, S w → wpAnyH P md ops Q S fuel (listed.setIfInBounds k true) a w → K' a w) → ok.wp P a w K' Q) : wpAnyH P md ops Q S (fuel + 1) listed a w :=
  wpAnyH_ready hr (by simp) (AllReadyH.cons (by rw [← Array.getElem?_toList]; exact hi) (fun K hK => by rw [if_pos hwi]; exact h1 K fun a w hS hh => hK.out a w hS fun _ => hh)
    (AllReadyH.cons (by rw [← Array.getElem?_toList]; exact hj) (fun K hK => by rw [if_pos hwj]; exact h2 K fun a w hS hh => hK.out a w hS fun _ => hh)
    (AllReadyH.cons (by rw [← Array.getElem?_toList]; exact hk) (fun K hK => by rw [if_pos hwk]; exact h3 K fun a w hS hh => hK.out a w hS fun _ => hh) AllReadyH.nil)))

theorem rfour {P : Program} {ops : Array Oper} {Q : Exit → Act → World → Prop} {md : Region.Mode} {S : World → Prop} (i j k l : Nat) {oi oj ok ol : Oper} {fuel : Nat} {listed : Array Bool} {a : Act} {w : World}
    (hi : ops.toList[i]? = some oi) (hj : ops.toList[j]? = some oj) (hk : ops.toList[k]? = some ok) (hl : ops.toList[l]? = some ol) (hr : Region.ready md ops listed = [i, j, k, l])
    (hwi : Region.wanted oi (yielded ops a.tmps) = true) (hwj : Region.wanted oj (yielded ops a.tmps) = true) (hwk : Region.wanted ok (yielded ops a.tmps) = true) (hwl : Region.wanted ol (yielded ops a.tmps) = true)
    (h1 : ∀ K' : Act → World → Prop, Shut (∀ a w, S w → wpAnyH P md ops Q S fuel (listed.setIfInBounds i true) a w → K' a w) → oi.wp P a w K' Q)
    (h2 : ∀ K' : Act → World → Prop, Shut (∀ a w, S w → wpAnyH P md ops Q S fuel (listed.setIfInBounds j true) a w → K' a w) → oj.wp P a w K' Q)
    (h3 : ∀ K' : Act → World → Prop, Shut (∀ a w, S w → wpAnyH P md ops Q S fuel (listed.setIfInBounds k true) a w → K' a w) → ok.wp P a w K' Q)
    (h4 : ∀ K' : Act → World → Prop, Shut (∀ a w, S w → wpAnyH P md ops Q S fuel (listed.setIfInBounds l true) a w → K' a w) → ol.wp P a w K' Q) : wpAnyH P md ops Q S (fuel + 1) listed a w :=
  wpAnyH_ready hr (by simp) (AllReadyH.cons (by rw [← Array.getElem?_toList]; exact hi) (fun K hK => by rw [if_pos hwi]; exact h1 K fun a w hS hh => hK.out a w hS fun _ => hh)
    (AllReadyH.cons (by rw [← Array.getElem?_toList]; exact hj) (fun K hK => by rw [if_pos hwj]; exact h2 K fun a w hS hh => hK.out a w hS fun _ => hh)
    (AllReadyH.cons (by rw [← Array.getElem?_toList]; exact hk) (fun K hK => by rw [if_pos hwk]; exact h3 K fun a w hS hh => hK.out a w hS fun _ => hh)
    (AllReadyH.cons (by rw [← Array.getElem?_toList]; exact hl) (fun K hK => by rw [if_pos hwl]; exact h4 K fun a w hS hh => hK.out a w hS fun _ => hh) AllReadyH.nil))))

/-- A block that is known whole. -/
def Box (w : World) (g : Nat) (xs : List Value) (t : TypeId) : Prop := w.heap[g]? = some (.cells xs.toArray t (0, 0))

theorem Box.lt {w : World} {g : Nat} {xs : List Value} {t : TypeId} (h : Box w g xs t) : g < w.heap.size := (Array.getElem?_eq_some_iff.1 h).1

theorem Box.cell {w : World} {g : Nat} {xs : List Value} {t : TypeId} (h : Box w g xs t) (i : Nat) (v : Value) (hi : xs[i]? = some v) : w.cell? ⟨g, i, none⟩ = some v := by
  unfold Box at h
  simp only [World.cell?, h]
  simpa using hi

theorem Box.below {w w' : World} {g : Nat} {xs : List Value} {t : TypeId} (h : Box w g xs t) (hb : Below w.heap.size w w') : Box w' g xs t := by
  unfold Box
  rw [hb.block g h.lt]
  exact h

theorem Box.new (w : World) (xs : List Value) (t : TypeId) : Box (w.alloc (.cells xs.toArray t)) w.heap.size xs t := heap_alloc_new w _

theorem Box.free {w : World} {g : Nat} {xs : List Value} {t : TypeId} (h : Box w g xs t) (i : Nat) : w.frozen? ⟨g, i, none⟩ = false := by
  unfold Box at h
  simp [World.frozen?, h]

theorem Box.set {w : World} {g : Nat} {xs : List Value} {t : TypeId} (h : Box w g xs t) (i : Nat) (v : Value) : Box (w.setCell ⟨g, i, none⟩ v) g (xs.set i v) t := by
  unfold Box at h ⊢
  rw [heap_setCell_same w g i _ t v h]
  simp

theorem Box.other {w : World} {g : Nat} {xs : List Value} {t : TypeId} (h : Box w g xs t) {k : Nat} (hk : g ≠ k) (i : Nat) (v : Value) : Box (w.setCell ⟨k, i, none⟩ v) g xs t := by
  unfold Box at h ⊢
  rw [heap_setCell_other w _ g v hk]
  exact h
end Go.Proofs.Ytehnhkjeijbliaa
