/- Appends of bytes in a region that draws its order. -/
import Derived.Test.YtehnhkjeijbliaaLib
namespace Go.Proofs.Ytehnhkjeijbliaa
open Go.RowKit Go.Proofs
set_option maxRecDepth 50000
set_option linter.unusedVariables false

/-- Two of a region's operations may come up next. -/
theorem rtwo {P : Program} {ops : Array Oper} {Q : Exit → Act → World → Prop} {md : Region.Mode} {S : World → Prop} (i j : Nat) {oi oj : Oper} {fuel : Nat} {listed : Array Bool} {a : Act} {w : World}
    (hi : ops.toList[i]? = some oi) (hj : ops.toList[j]? = some oj) (hr : Region.ready md ops listed = [i, j]) (hwi : Region.wanted oi (yielded ops a.tmps) = true) (hwj : Region.wanted oj (yielded ops a.tmps) = true)
    (h1 : ∀ K' : Act → World → Prop, Shut (∀ a w, S w → wpAnyH P md ops Q S fuel (listed.setIfInBounds i true) a w → K' a w) → oi.wp P a w K' Q)
    (h2 : ∀ K' : Act → World → Prop, Shut (∀ a w, S w → wpAnyH P md ops Q S fuel (listed.setIfInBounds j true) a w → K' a w) → oj.wp P a w K' Q) : wpAnyH P md ops Q S (fuel + 1) listed a w :=
  wpAnyH_ready hr (by simp) (AllReadyH.cons (by rw [← Array.getElem?_toList]; exact hi) (fun K hK => by rw [if_pos hwi]; exact h1 K fun a w hS hh => hK.out a w hS fun _ => hh)
    (AllReadyH.cons (by rw [← Array.getElem?_toList]; exact hj) (fun K hK => by rw [if_pos hwj]; exact h2 K fun a w hS hh => hK.out a w hS fun _ => hh) AllReadyH.nil))

/-- 'append(v, x...)' as one operation. -/
theorem op_append_bytes {w : World} {o : Oper} {a : Act} {K : Act → World → Prop} {Q : Exit → Act → World → Prop} (s x : Operand)
    (ho : o.op = .call { callee := .builtin .append, args := #[s, x], argTypes := #[27, 27] }) (hty : o.type = 27)
    (base : Nat) (v x' : Value) (l m : List UInt8) (hs : a.eval s = v) (hx : a.eval x = x') (hv : Own w base v l) (hX : Bytes w x' m) (hbytes : l.length + m.length ≤ 140737488355328) (hbase : base ≤ w.heap.size)
    (h : ∀ v' w', Own w' base v' (l ++ m) → Below base w w' → K (a.put o.dst v') w') : o.wp Try.prog a w K Q := by
  obtain ⟨v', w', hr, h1, h2⟩ := append_bytes w base v x' l m hv hX hbytes hbase
  rw [← hty] at hr
  unfold Oper.wp execOp
  simp only [ho, resolve, invoke, builtin, Sem.run_bind, Sem.run_pure, Result.andThen_ok, List.map_toArray, List.map_cons, List.map_nil, hs, hx, hty]
  rw [hty] at hr
  simp only [hr]
  exact h v' w' h1 h2

/-- .. to nil: a row of the world's own. -/
theorem op_append_nil {w : World} {o : Oper} {a : Act} {K : Act → World → Prop} {Q : Exit → Act → World → Prop} (s x : Operand)
    (ho : o.op = .call { callee := .builtin .append, args := #[s, x], argTypes := #[27, 27] }) (hty : o.type = 27)
    (x' : Value) (m : List UInt8) (hs : a.eval s = .slice none 0 0) (hx : a.eval x = x') (hX : Bytes w x' m) (hbytes : m.length ≤ 140737488355328)
    (h : ∀ v' w', Own w' w.heap.size v' m → Below w.heap.size w w' → K (a.put o.dst v') w') : o.wp Try.prog a w K Q :=
  op_append_bytes s x ho hty w.heap.size _ x' [] m hs hx (Own.nil w _) hX (by simp; omega) (Nat.le_refl _) h

theorem lit_later {wd cur : World} (h : Below wd.heap.size wd cur) (l : List UInt8) (hl : l.length ≤ maxLen) : Bytes (cur.alloc (.cells (cellsOf l).toArray 5)) (.slice (some ⟨cur.heap.size, 0, none⟩) l.length l.length) l :=
  (Own.lit cur l hl).bytes

end Go.Proofs.Ytehnhkjeijbliaa
