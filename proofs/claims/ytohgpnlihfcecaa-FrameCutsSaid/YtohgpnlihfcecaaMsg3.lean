/- More of a message: its load alone; messages that are written out. -/
import Derived.Test.YtohgpnlihfcecaaMsg2
namespace Go.Proofs.Ytohgpnlihfcecaa
open Go.RowKit Go.Proofs
set_option maxRecDepth 50000
set_option linter.unusedVariables false
set_option linter.unusedSimpArgs false

/-- 'load' of a message as one operation alone. -/
theorem op_load_msg {op : Oper} {a : Act} {w : World} {K : Act → World → Prop} {Q : Exit → Act → World → Prop} (x : Operand) (ho : op.op = .load 28 x)
    (g : Nat) (hx : a.eval x = .pointer (some ⟨g, 0, none⟩)) (xs : List Value) (t : TypeId) (hB : Box w g xs t) (hl : xs.length = 23)
    (h : K (a.put op.dst (.agg xs.toArray)) w) : op.wp Try.prog a w K Q :=
  wp_load_mid _ x ho g 0 hx xs _ hB.range Try.underlying28 rfl (by rw [info_msg, hl]) h

/-- A message that is written out: by its header, by its type. -/
theorem build_head (ty dm fl co sc sp sq lg : Int) (w : World) :
    (Instr.build 28 #[(0, .int .i64 ty), (1, .int .i64 dm), (2, .int .i64 fl), (3, .int .i64 co), (4, .agg #[.int .u64 sc, .int .i64 sp]), (5, .int .i64 sq), (6, .int .i64 lg)]).run Try.prog w =
      .ok (.agg (msgF ⟨ty, dm, fl, co, sc, sp, sq, lg⟩ bd0).toArray) w := run_build w _ _ _ (by kernel_rfl)

theorem build_type (t : Int) (w : World) : (Instr.build 28 #[(0, .int .i64 t)]).run Try.prog w = .ok (.agg (msgF ⟨t, 0, 0, 0, 0, 0, 0, 0⟩ bd0).toArray) w := run_build w _ _ _ (by kernel_rfl)

/-- .. as one operation of a plain region. -/
theorem wpList_build_head {ops : Array Oper} {rest : List Oper} {op : Oper} {a : Act} {w : World} {Q : Exit → Act → World → Prop} (hgd : op.guard = none) (x0 x1 x2 x3 x4 x5 x6 : Operand)
    (ho : op.op = .build 28 #[(0, x0), (1, x1), (2, x2), (3, x3), (4, x4), (5, x5), (6, x6)])
    (h : Hd) (h0 : a.eval x0 = .int .i64 h.ty) (h1 : a.eval x1 = .int .i64 h.dm) (h2 : a.eval x2 = .int .i64 h.fl) (h3 : a.eval x3 = .int .i64 h.co) (h4 : a.eval x4 = .agg #[.int .u64 h.sc, .int .i64 h.sp]) (h5 : a.eval x5 = .int .i64 h.sq) (h6 : a.eval x6 = .int .i64 h.lg)
    (hh : wpList Try.prog ops Q rest (a.put op.dst (.agg (msgF h bd0).toArray)) w) : wpList Try.prog ops Q (op :: rest) a w :=
  wpList_plain hgd fun K hK => by
    unfold Oper.wp execOp
    have hr := build_head h.ty h.dm h.fl h.co h.sc h.sp h.sq h.lg w
    simp only [ho, List.map_toArray, List.map_cons, List.map_nil, h0, h1, h2, h3, h4, h5, h6, Sem.run_bind, hr, Result.andThen_ok, Sem.run_pure]
    exact hK _ _ hh

/-- .. of a type alone, alone. -/
theorem wpList_build_type {ops : Array Oper} {rest : List Oper} {op : Oper} {a : Act} {w : World} {Q : Exit → Act → World → Prop} (hgd : op.guard = none) (x0 : Operand)
    (ho : op.op = .build 28 #[(0, x0)]) (t : Int) (h0 : a.eval x0 = .int .i64 t)
    (hh : wpList Try.prog ops Q rest (a.put op.dst (.agg (msgF ⟨t, 0, 0, 0, 0, 0, 0, 0⟩ bd0).toArray)) w) : wpList Try.prog ops Q (op :: rest) a w :=
  wpList_plain hgd fun K hK => by
    unfold Oper.wp execOp
    have hr := build_type t w
    simp only [ho, List.map_toArray, List.map_cons, List.map_nil, h0, Sem.run_bind, hr, Result.andThen_ok, Sem.run_pure]
    exact hK _ _ hh
/-- 'store' of a message as one operation alone. -/
theorem op_store_msg {op : Oper} {a : Act} {w : World} {K : Act → World → Prop} {Q : Exit → Act → World → Prop} (x y : Operand) (ho : op.op = .store 28 x y)
    (g : Nat) (xs old : List Value) (t : TypeId) (hx : a.eval x = .pointer (some ⟨g, 0, none⟩)) (hy : a.eval y = .agg xs.toArray) (hB : Box w g old t) (hl : xs.length = 23) (hol : old.length = 23) (h1 : ∀ v ∈ xs, v.oneCell' = true)
    (h : K (a.put op.dst undef) (w.setRow g xs.toArray)) : op.wp Try.prog a w K Q :=
  wp_store_row _ x y ho g xs.toArray hx hy t old.toArray hB (by rw [info_msg]; simp [hl]) (by simp [hl, hol]) (all_oneCell_toArray h1) h
end Go.Proofs.Ytohgpnlihfcecaa
