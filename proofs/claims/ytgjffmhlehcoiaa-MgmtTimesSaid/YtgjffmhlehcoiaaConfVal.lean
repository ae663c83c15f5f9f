/- A configuration as a value and in a box; compared with itself. -/
import Derived.Test.YtgjffmhlehcoiaaConf
import Derived.Test.YtgjffmhlehcoiaaPerm
namespace Go.Proofs.Ytgjffmhlehcoiaa
open Go.RowKit Go.Proofs
set_option maxRecDepth 50000
set_option linter.unusedVariables false
set_option linter.unusedSimpArgs false

theorem info_conf : (Try.prog.info? 28).map (·.size) = some 23 := by kernel_rfl

theorem Box.rangeC {w : World} {g : Nat} {xs : List Value} {t : TypeId} (h : Box w g xs t) : w.rangeAt g 0 xs := fun j v hj => by rw [Nat.zero_add]; exact h.cell j v hj

theorem load_conf (w : World) (g : Nat) (xs : List Value) (t : TypeId) (hl : xs.length = 23) (hB : Box w g xs t) :
    (Instr.loadAt 28 (.pointer (some ⟨g, 0, none⟩))).run Try.prog w = .ok (.agg xs.toArray) w :=
  run_loadAt_mid w g 0 _ xs _ hB.rangeC Try.underlying28 rfl (by rw [info_conf, hl])

theorem exec_load_conf {op : Oper} {a : Act} {w : World} (x : Operand) (ho : op.op = .load 28 x) (g : Nat) (hx : a.eval x = .pointer (some ⟨g, 0, none⟩)) (xs : List Value) (t : TypeId) (hB : Box w g xs t) (hl : xs.length = 23) :
    (execOp a.eval op).run Try.prog w = .ok (.value (.agg xs.toArray)) w := by
  unfold execOp
  simp only [ho, hx, Sem.run_bind, load_conf w g xs t hl hB, Result.andThen_ok, Sem.run_pure]

/-- 'load' of a configuration as one operation of a plain region. -/
theorem wpList_load_conf {ops : Array Oper} {rest : List Oper} {op : Oper} {a : Act} {w : World} {Q : Exit → Act → World → Prop} (hgd : op.guard = none) (x : Operand) (ho : op.op = .load 28 x)
    (g : Nat) (hx : a.eval x = .pointer (some ⟨g, 0, none⟩)) (c : Cf) (t : TypeId) (hB : Box w g (cfL c) t)
    (h : wpList Try.prog ops Q rest (a.put op.dst (.agg (cfL c).toArray)) w) : wpList Try.prog ops Q (op :: rest) a w :=
  wpList_load_mid hgd _ x ho g 0 hx (cfL c) _ hB.rangeC Try.underlying28 rfl (by rw [info_conf, cfL_length]) h

/-- .. behind a guard that says yes. -/
theorem wpList_load_conf_g {ops : Array Oper} {rest : List Oper} {op : Oper} {a : Act} {w : World} {Q : Exit → Act → World → Prop} (hw : Region.wanted op (yielded ops a.tmps) = true) (x : Operand) (ho : op.op = .load 28 x)
    (g : Nat) (hx : a.eval x = .pointer (some ⟨g, 0, none⟩)) (c : Cf) (t : TypeId) (hB : Box w g (cfL c) t)
    (h : wpList Try.prog ops Q rest (a.put op.dst (.agg (cfL c).toArray)) w) : wpList Try.prog ops Q (op :: rest) a w :=
  wpList_step fun K hK => by
    rw [if_pos hw]
    exact wp_load_mid _ x ho g 0 hx (cfL c) _ hB.rangeC Try.underlying28 rfl (by rw [info_conf, cfL_length]) (hK _ _ h)

/-- 'store' of a configuration as one operation of a plain region. -/
theorem wpList_store_conf {ops : Array Oper} {rest : List Oper} {op : Oper} {a : Act} {w : World} {Q : Exit → Act → World → Prop} (hgd : op.guard = none) (x y : Operand) (ho : op.op = .store 28 x y)
    (g : Nat) (c old : Cf) (t : TypeId) (hx : a.eval x = .pointer (some ⟨g, 0, none⟩)) (hy : a.eval y = .agg (cfL c).toArray) (hB : Box w g (cfL old) t)
    (h : wpList Try.prog ops Q rest (a.put op.dst undef) (w.setRow g (cfL c).toArray)) : wpList Try.prog ops Q (op :: rest) a w :=
  wpList_store_row hgd _ x y ho g (cfL c).toArray hx hy t (cfL old).toArray hB (by rw [info_conf]; rfl) rfl (all_oneCell_toArray (cfL_one c)) h

/-- .. as one operation alone. -/
theorem op_store_conf {op : Oper} {a : Act} {w : World} {K : Act → World → Prop} {Q : Exit → Act → World → Prop} (x y : Operand) (ho : op.op = .store 28 x y)
    (g : Nat) (c old : Cf) (t : TypeId) (hx : a.eval x = .pointer (some ⟨g, 0, none⟩)) (hy : a.eval y = .agg (cfL c).toArray) (hB : Box w g (cfL old) t)
    (h : K (a.put op.dst undef) (w.setRow g (cfL c).toArray)) : op.wp Try.prog a w K Q :=
  wp_store_row _ x y ho g (cfL c).toArray hx hy t (cfL old).toArray hB (by rw [info_conf]; rfl) rfl (all_oneCell_toArray (cfL_one c)) h

theorem Box.rowC {w : World} {g : Nat} {xs : List Value} {t : TypeId} (h : Box w g xs t) (ys : List Value) : Box (w.setRow g ys.toArray) g ys t := by
  unfold Box at h ⊢
  rw [setRow_heap w g _ _ t _ h]

theorem Box.rowC_other {w : World} {g : Nat} {xs : List Value} {t : TypeId} (h : Box w g xs t) {k : Nat} (hk : g ≠ k) (ys : Array Value) : Box (w.setRow k ys) g xs t := by
  unfold Box at h ⊢
  rw [setRow_other w k g ys hk]
  exact h

set_option maxRecDepth 100000 in
set_option maxHeartbeats 4000000 in
theorem same_conf (c : Cf) (w : World) : (Op.equalIn 10000 28 (.agg (cfL c).toArray) (.agg (cfL c).toArray)).run Try.prog w = .ok true w := by
  unfold cfL
  go_simp

theorem results_conf_3 {fn : Func} {p u u' : Tmp} (h : fn.results = #[.cell p 28, .tmp u, .tmp u']) (tmps : Array Value) (w : World) (g : Nat) (t : TypeId) (c : Cf)
    (hp : tmps.getD p undef = .pointer (some ⟨g, 0, none⟩)) (hB : Box w g (cfL c) t) :
    (results fn tmps).run Try.prog w = .ok (.tuple #[.agg (cfL c).toArray, tmps.getD u undef, tmps.getD u' undef]) w := by
  have hp' : tmps[p]?.getD undef = .pointer (some ⟨g, 0, none⟩) := by simpa using hp
  simp [results, h, hp', asAddr, Sem.run_bind, run_loadVar_row w g t 28 (cfL c).toArray (0, 0) _ hB Try.underlying28 rfl (by rw [info_conf]; rfl)]

theorem build_zeroC (w : World) : (Instr.build 28 #[]).run Try.prog w = .ok (.agg (cfL zeroC).toArray) w := run_build w _ _ _ (by kernel_rfl)

theorem conf_zero : cfL zeroC = [.int .u64 0, .int .i64 0, .int .i64 0, .int .i64 0, .int .i64 0, .int .i64 0, .int .i64 0, .int .i64 0, .bool false, .int .i64 0, .int .i64 0, .int .i64 0, .int .i64 0, .bool false, .bool false, .int .i64 0, .int .i64 0, .int .i64 0, .int .i64 0, .int .i64 0, .int .i64 0, .int .i64 0, .bool false] := rfl
end Go.Proofs.Ytgjffmhlehcoiaa
