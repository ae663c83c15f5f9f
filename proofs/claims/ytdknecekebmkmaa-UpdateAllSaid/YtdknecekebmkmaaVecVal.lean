/- A vector as a value and in a box (gen_vec.py). -/
import Derived.Test.YtdknecekebmkmaaVec
import Derived.Test.YtdknecekebmkmaaPerm
namespace Go.Proofs.Ytdknecekebmkmaa
open Go.RowKit Go.Proofs
set_option maxRecDepth 50000
set_option linter.unusedVariables false
set_option linter.unusedSimpArgs false

def vcL (a : Vc) : List Value := [.int .i64 a.p1, .int .i64 a.qc, .int .i64 a.qa, .int .i64 a.qv, .int .i64 a.p2, .int .u64 a.gr, .int .i64 a.st, .int .u64 a.sc, .int .i64 a.sp, .int .u64 a.rc, .int .i64 a.rp]

def zeroV : Vc := ⟨0, 0, 0, 0, 0, 0, 0, 0, 0, 0, 0⟩

theorem vcL_length (a : Vc) : (vcL a).length = 11 := rfl
theorem vcL_one (a : Vc) : ∀ v ∈ vcL a, v.oneCell' = true := by
  intro v hv
  unfold vcL at hv
  simp only [List.mem_cons, List.mem_nil_iff, or_false] at hv
  rcases hv with rfl | rfl | rfl | rfl | rfl | rfl | rfl | rfl | rfl | rfl | rfl <;> rfl

theorem info_vec : (Try.prog.info? 32).map (·.size) = some 11 := by kernel_rfl

theorem Box.rangeV {w : World} {g : Nat} {xs : List Value} {t : TypeId} (h : Box w g xs t) : w.rangeAt g 0 xs := fun j v hj => by rw [Nat.zero_add]; exact h.cell j v hj

theorem load_vec (w : World) (g : Nat) (a : Vc) (t : TypeId) (hB : Box w g (vcL a) t) :
    (Instr.loadAt 32 (.pointer (some ⟨g, 0, none⟩))).run Try.prog w = .ok (.agg (vcL a).toArray) w :=
  run_loadAt_mid w g 0 _ (vcL a) _ hB.rangeV Try.underlying32 rfl (by rw [info_vec, vcL_length])

theorem exec_load_vec {op : Oper} {a : Act} {w : World} (x : Operand) (ho : op.op = .load 32 x) (g : Nat) (hx : a.eval x = .pointer (some ⟨g, 0, none⟩)) (c : Vc) (t : TypeId) (hB : Box w g (vcL c) t) :
    (execOp a.eval op).run Try.prog w = .ok (.value (.agg (vcL c).toArray)) w := by
  unfold execOp
  simp only [ho, hx, Sem.run_bind, load_vec w g c t hB, Result.andThen_ok, Sem.run_pure]

theorem wpList_load_vec {ops : Array Oper} {rest : List Oper} {op : Oper} {a : Act} {w : World} {Q : Exit → Act → World → Prop} (hgd : op.guard = none) (x : Operand) (ho : op.op = .load 32 x)
    (g : Nat) (hx : a.eval x = .pointer (some ⟨g, 0, none⟩)) (c : Vc) (t : TypeId) (hB : Box w g (vcL c) t)
    (h : wpList Try.prog ops Q rest (a.put op.dst (.agg (vcL c).toArray)) w) : wpList Try.prog ops Q (op :: rest) a w :=
  wpList_load_mid hgd _ x ho g 0 hx (vcL c) _ hB.rangeV Try.underlying32 rfl (by rw [info_vec, vcL_length]) h

theorem wpList_load_vec_g {ops : Array Oper} {rest : List Oper} {op : Oper} {a : Act} {w : World} {Q : Exit → Act → World → Prop} (hw : Region.wanted op (yielded ops a.tmps) = true) (x : Operand) (ho : op.op = .load 32 x)
    (g : Nat) (hx : a.eval x = .pointer (some ⟨g, 0, none⟩)) (c : Vc) (t : TypeId) (hB : Box w g (vcL c) t)
    (h : wpList Try.prog ops Q rest (a.put op.dst (.agg (vcL c).toArray)) w) : wpList Try.prog ops Q (op :: rest) a w :=
  wpList_step fun K hK => by
    rw [if_pos hw]
    exact wp_load_mid _ x ho g 0 hx (vcL c) _ hB.rangeV Try.underlying32 rfl (by rw [info_vec, vcL_length]) (hK _ _ h)

theorem wpList_store_vec {ops : Array Oper} {rest : List Oper} {op : Oper} {a : Act} {w : World} {Q : Exit → Act → World → Prop} (hgd : op.guard = none) (x y : Operand) (ho : op.op = .store 32 x y)
    (g : Nat) (c old : Vc) (t : TypeId) (hx : a.eval x = .pointer (some ⟨g, 0, none⟩)) (hy : a.eval y = .agg (vcL c).toArray) (hB : Box w g (vcL old) t)
    (h : wpList Try.prog ops Q rest (a.put op.dst undef) (w.setRow g (vcL c).toArray)) : wpList Try.prog ops Q (op :: rest) a w :=
  wpList_store_row hgd _ x y ho g (vcL c).toArray hx hy t (vcL old).toArray hB (by rw [info_vec]; rfl) rfl (all_oneCell_toArray (vcL_one c)) h

theorem Box.rowV {w : World} {g : Nat} {xs : List Value} {t : TypeId} (h : Box w g xs t) (ys : List Value) : Box (w.setRow g ys.toArray) g ys t := by
  unfold Box at h ⊢
  rw [setRow_heap w g _ _ t _ h]
theorem Box.rowV_other {w : World} {g : Nat} {xs : List Value} {t : TypeId} (h : Box w g xs t) {k : Nat} (hk : g ≠ k) (ys : Array Value) : Box (w.setRow k ys) g xs t := by
  unfold Box at h ⊢
  rw [setRow_other w k g ys hk]
  exact h

end Go.Proofs.Ytdknecekebmkmaa
