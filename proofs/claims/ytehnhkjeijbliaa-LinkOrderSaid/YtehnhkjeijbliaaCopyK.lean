/- Copies among rows of elements of any number of cells; an append as one operation (gen_medown.py). -/
import Derived.Test.YtehnhkjeijbliaaRowG
import Derived.Test.YtehnhkjeijbliaaStr
namespace Go.Proofs.Ytehnhkjeijbliaa
open Go.RowKit Go.Proofs
set_option maxRecDepth 50000
set_option linter.unusedVariables false
set_option linter.unusedSimpArgs false

/-- 'copy(dst, src)' of elements of any number of cells, into the middle of a block: all is read before anything is written. -/
theorem RowK.run_copy {α : Type} {K : RowK α} (w : World) (dT sT ty elem : TypeId) (b o dLen dCap : Nat) (a : Addr) (sLen sCap : Nat) (l : List α)
    (hu : Try.prog.underlying dT = some (.slice elem)) (hs : (Try.prog.info? elem).map (·.size) = some K.n) (hn : l.length = Nat.min sLen dLen)
    (hsrc : ∀ j v, (K.cells l)[j]? = some v → w.cell? (a.add j) = some v) (hc : w.there b o (K.cells l).length) :
    (Builtin.copy_ #[dT, sT] ty #[.slice (some ⟨b, o, none⟩) dLen dCap, .slice (some a) sLen sCap]).run Try.prog w = .ok (goInt l.length) (w.setCells b o (K.cells l)) := by
  have hl := run_loadCells_list (P := Try.prog) w a (K.cells l) hsrc
  have hst := run_storeCells_cells (P := Try.prog) b o (K.cells l) 0 w (fun j hj => by simpa using (hc j hj).1) (fun j hj => by simpa using (hc j hj).2) (K.cells_one l)
  rw [K.cells_length] at hl
  cases hq : Try.prog.info? elem with
  | none => simp [hq] at hs
  | some i =>
    have hi : i.size = K.n := by simpa [hq] using hs
    simp [Builtin.copy_, run_underlying hu, Builtin.lenOf, Builtin.firstCells, sizeOf, typeInfo, hq, hi, ← hn, hl, hst]
theorem RowK.op_copy {α : Type} {K : RowK α} {op : Oper} {a : Act} {w : World} {K' : Act → World → Prop} {Q : Exit → Act → World → Prop} (d s : Operand) (dT sT elem : TypeId)
    (ho : op.op = .call { callee := .builtin .copy, args := #[d, s], argTypes := #[dT, sT] })
    (b o dLen dCap : Nat) (ad : Addr) (sLen sCap : Nat) (l : List α) (hd : a.eval d = .slice (some ⟨b, o, none⟩) dLen dCap) (hsv : a.eval s = .slice (some ad) sLen sCap)
    (hu : Try.prog.underlying dT = some (.slice elem)) (hs : (Try.prog.info? elem).map (·.size) = some K.n) (hn : l.length = Nat.min sLen dLen)
    (hsrc : ∀ j v, (K.cells l)[j]? = some v → w.cell? (ad.add j) = some v) (hc : w.there b o (K.cells l).length)
    (h : K' (a.put op.dst (goInt l.length)) (w.setCells b o (K.cells l))) : op.wp Try.prog a w K' Q := by
  have hrun := K.run_copy w dT sT op.type elem b o dLen dCap ad sLen sCap l hu hs hn hsrc hc
  unfold Oper.wp
  simp [execOp, ho, resolve, invoke, builtin, hd, hsv, hrun, Result.andThen]
  exact h

/-- 'append(v, x...)', v a row of the call's own or nil, as one operation of a region that draws. -/
theorem RowK.op_append {α : Type} {K : RowK α} {tS tE : TypeId} {z : Value} {B : Nat} (hu : Try.prog.underlying tS = some (.slice tE)) (hinfo : (Try.prog.info? tE).map (fun i => (i.zero, i.size, i.bytes)) = some (some z, K.n, B)) (hzl : z.cells.size = K.n)
    {w : World} {o : Oper} {a : Act} {K' : Act → World → Prop} {Q : Exit → Act → World → Prop} (s x : Operand)
    (ho : o.op = .call { callee := .builtin .append, args := #[s, x], argTypes := #[tS, tS] }) (hty : o.type = tS)
    (base : Nat) (v x' : Value) (l m : List α) (hs : a.eval s = v) (hx : a.eval x = x') (hv : K.Own tE w base v l) (hX : K.Reads w x' m) (hbytes : (l.length + m.length) * B ≤ 140737488355328) (hlen2 : l.length + m.length ≤ 140737488355328) (hbase : base ≤ w.heap.size)
    (h : ∀ v' w', K.Own tE w' base v' (l ++ m) → Below base w w' → K' (a.put o.dst v') w') : o.wp Try.prog a w K' Q := by
  obtain ⟨v', w', hr, h1, h2⟩ := K.append hu hinfo hzl w base v x' l m hv hX hbytes hlen2 hbase
  unfold Oper.wp execOp
  simp only [ho, resolve, invoke, builtin, Sem.run_bind, Sem.run_pure, Result.andThen_ok, List.map_toArray, List.map_cons, List.map_nil, hs, hx, hty]
  simp only [hr]
  exact h v' w' h1 h2
end Go.Proofs.Ytehnhkjeijbliaa
