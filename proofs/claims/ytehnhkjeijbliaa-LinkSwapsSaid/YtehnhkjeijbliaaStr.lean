/- Structs of any type: whole loads and stores, by how they lie (a RowK). -/
import Derived.Test.YtehnhkjeijbliaaRowG
namespace Go.Proofs.Ytehnhkjeijbliaa
open Go.RowKit Go.Proofs
set_option maxRecDepth 50000
set_option linter.unusedVariables false
set_option linter.unusedSimpArgs false

/-- The type T's values lie as K says. -/
structure StrT {α : Type} (K : RowK α) (T : TypeId) : Prop where
  row : ∃ d, Try.prog.underlying T = some d ∧ d.isRow = true
  size : (Try.prog.info? T).map (·.size) = some K.n

variable {α : Type} {K : RowK α} {T : TypeId}
theorem Box.rangeK {w : World} {g : Nat} {xs : List Value} {t : TypeId} (h : Box w g xs t) : w.rangeAt g 0 xs := fun j v hj => by rw [Nat.zero_add]; exact h.cell j v hj
theorem Box.rowK {w : World} {g : Nat} {xs : List Value} {t : TypeId} (h : Box w g xs t) (ys : List Value) : Box (w.setRow g ys.toArray) g ys t := by
  unfold Box at h ⊢
  rw [setRow_heap w g _ _ t _ h]
theorem Box.rowK_other {w : World} {g : Nat} {xs : List Value} {t : TypeId} (h : Box w g xs t) {k : Nat} (hk : g ≠ k) (ys : Array Value) : Box (w.setRow k ys) g xs t := by
  unfold Box at h ⊢
  rw [setRow_other w k g ys hk]
  exact h
theorem range_below {w w' : World} {b o : Nat} {xs : List Value} (h : w.rangeAt b o xs) (hb : b < w.heap.size) (hw : Below w.heap.size w w') : w'.rangeAt b o xs := fun j v hj => by
  rw [hw.cell (p := ⟨b, o + j, none⟩) hb]
  exact h j v hj

theorem StrT.load_at (hT : StrT K T) (w : World) (b o : Nat) (c : α) (hR : w.rangeAt b o (K.enc c)) :
    (Instr.loadAt T (.pointer (some ⟨b, o, none⟩))).run Try.prog w = .ok (.agg (K.enc c).toArray) w := by
  obtain ⟨d, hu, hd⟩ := hT.row
  exact run_loadAt_mid w b o T (K.enc c) d hR hu hd (by rw [hT.size, K.len])

/-- In a region that draws its order. -/
theorem StrT.exec (hT : StrT K T) {op : Oper} {a : Act} {w : World} (x : Operand) (ho : op.op = .load T x) (b o : Nat) (hx : a.eval x = .pointer (some ⟨b, o, none⟩)) (c : α) (hR : w.rangeAt b o (K.enc c)) :
    (execOp a.eval op).run Try.prog w = .ok (.value (.agg (K.enc c).toArray)) w := by
  unfold execOp
  simp only [ho, hx, Sem.run_bind, hT.load_at w b o c hR, Result.andThen_ok, Sem.run_pure]

theorem StrT.load (hT : StrT K T) {ops : Array Oper} {rest : List Oper} {op : Oper} {a : Act} {w : World} {Q : Exit → Act → World → Prop} (hgd : op.guard = none) (x : Operand) (ho : op.op = .load T x)
    (b o : Nat) (hx : a.eval x = .pointer (some ⟨b, o, none⟩)) (c : α) (hR : w.rangeAt b o (K.enc c))
    (h : wpList Try.prog ops Q rest (a.put op.dst (.agg (K.enc c).toArray)) w) : wpList Try.prog ops Q (op :: rest) a w := by
  obtain ⟨d, hu, hd⟩ := hT.row
  exact wpList_load_mid hgd _ x ho b o hx (K.enc c) d hR hu hd (by rw [hT.size, K.len]) h

theorem StrT.load_g (hT : StrT K T) {ops : Array Oper} {rest : List Oper} {op : Oper} {a : Act} {w : World} {Q : Exit → Act → World → Prop} (hw : Region.wanted op (yielded ops a.tmps) = true) (x : Operand) (ho : op.op = .load T x)
    (b o : Nat) (hx : a.eval x = .pointer (some ⟨b, o, none⟩)) (c : α) (hR : w.rangeAt b o (K.enc c))
    (h : wpList Try.prog ops Q rest (a.put op.dst (.agg (K.enc c).toArray)) w) : wpList Try.prog ops Q (op :: rest) a w := by
  obtain ⟨d, hu, hd⟩ := hT.row
  exact wpList_step fun K' hK => by
    rw [if_pos hw]
    exact wp_load_mid _ x ho b o hx (K.enc c) d hR hu hd (by rw [hT.size, K.len]) (hK _ _ h)

theorem StrT.store (hT : StrT K T) {ops : Array Oper} {rest : List Oper} {op : Oper} {a : Act} {w : World} {Q : Exit → Act → World → Prop} (hgd : op.guard = none) (x y : Operand) (ho : op.op = .store T x y)
    (g : Nat) (c old : α) (t : TypeId) (hx : a.eval x = .pointer (some ⟨g, 0, none⟩)) (hy : a.eval y = .agg (K.enc c).toArray) (hB : Box w g (K.enc old) t)
    (h : wpList Try.prog ops Q rest (a.put op.dst undef) (w.setRow g (K.enc c).toArray)) : wpList Try.prog ops Q (op :: rest) a w :=
  wpList_store_row hgd _ x y ho g (K.enc c).toArray hx hy t (K.enc old).toArray hB (by rw [hT.size]; simp [K.len]) (by simp [K.len]) (all_oneCell_toArray (K.one c)) h

theorem StrT.op_store (hT : StrT K T) {op : Oper} {a : Act} {w : World} {K' : Act → World → Prop} {Q : Exit → Act → World → Prop} (x y : Operand) (ho : op.op = .store T x y)
    (g : Nat) (c old : α) (t : TypeId) (hx : a.eval x = .pointer (some ⟨g, 0, none⟩)) (hy : a.eval y = .agg (K.enc c).toArray) (hB : Box w g (K.enc old) t)
    (h : K' (a.put op.dst undef) (w.setRow g (K.enc c).toArray)) : op.wp Try.prog a w K' Q :=
  wp_store_row _ x y ho g (K.enc c).toArray hx hy t (K.enc old).toArray hB (by rw [hT.size]; simp [K.len]) (by simp [K.len]) (all_oneCell_toArray (K.one c)) h

theorem StrT.result (hT : StrT K T) {fn : Func} {p : Tmp} (h : fn.results = #[.cell p T]) (tmps : Array Value) (w : World) (g : Nat) (t : TypeId) (c : α)
    (hp : tmps.getD p undef = .pointer (some ⟨g, 0, none⟩)) (hB : Box w g (K.enc c) t) : (results fn tmps).run Try.prog w = .ok (.agg (K.enc c).toArray) w := by
  obtain ⟨d, hu, hd⟩ := hT.row
  refine results_cell_row h tmps w g t _ (0, 0) d hp hB hu ?_ (by rw [hT.size]; simp [K.len])
  cases d <;> first | rfl | exact hd

theorem StrT.result2 (hT : StrT K T) {fn : Func} {p u : Tmp} (h : fn.results = #[.cell p T, .tmp u]) (tmps : Array Value) (w : World) (g : Nat) (t : TypeId) (c : α) (x : Value)
    (hp : tmps.getD p undef = .pointer (some ⟨g, 0, none⟩)) (hx : tmps.getD u undef = x) (hB : Box w g (K.enc c) t) : (results fn tmps).run Try.prog w = .ok (.tuple #[.agg (K.enc c).toArray, x]) w := by
  obtain ⟨d, hu, hd⟩ := hT.row
  have hp' : tmps[p]?.getD undef = .pointer (some ⟨g, 0, none⟩) := by simpa using hp
  have hx' : tmps[u]?.getD undef = x := by simpa using hx
  have hl := run_loadVar_row (P := Try.prog) w g t T (K.enc c).toArray (0, 0) d hB hu (by cases d <;> first | rfl | exact hd) (by rw [hT.size]; simp [K.len])
  simp [results, h, hp', hx', asAddr, Sem.run_bind, hl]

/-! In the middle of a block. -/
theorem Box.range_mid {w : World} {g : Nat} {t : TypeId} (pre ys post : List Value) (h : Box w g (pre ++ ys ++ post) t) : w.rangeAt g pre.length ys := fun j v hj => by
  have hjl := (List.getElem?_eq_some_iff.1 hj).1
  refine h.cell (pre.length + j) v ?_
  rw [List.append_assoc, List.getElem?_append_right (by omega), List.getElem?_append_left (by omega)]
  rw [show pre.length + j - pre.length = j by omega]
  exact hj
theorem Box.there {w : World} {g : Nat} {xs : List Value} {t : TypeId} (h : Box w g xs t) (o n : Nat) (hn : o + n ≤ xs.length) : w.there g o n := fun j hj =>
  ⟨by rw [h.cell (o + j) _ (List.getElem?_eq_getElem (by omega))]; rfl, h.free (o + j)⟩
theorem Box.mid {g : Nat} {t : TypeId} : ∀ (ys old pre post : List Value) (w : World), ys.length = old.length → Box w g (pre ++ old ++ post) t → Box (w.setCells g pre.length ys) g (pre ++ ys ++ post) t
  | [], old, pre, post, w, hl, h => by
    obtain rfl : old = [] := List.eq_nil_of_length_eq_zero hl.symm
    exact h
  | v :: r, [], pre, post, w, hl, h => by simp at hl
  | v :: r, v0 :: r0, pre, post, w, hl, h => by
    have h1 := h.set pre.length v
    have e : (pre ++ v0 :: r0 ++ post).set pre.length v = (pre ++ [v]) ++ r0 ++ post := by simp
    rw [e] at h1
    have h2 := Box.mid r r0 (pre ++ [v]) post _ (by simpa using hl) h1
    have e2 : (pre ++ [v]) ++ r ++ post = pre ++ v :: r ++ post := by simp
    rw [e2, List.length_append] at h2
    exact h2
theorem Box.cells_other {g k : Nat} {xs : List Value} {t : TypeId} (hk : g ≠ k) : ∀ (ys : List Value) (o : Nat) (w : World), Box w g xs t → Box (w.setCells k o ys) g xs t
  | [], _, _, h => h
  | v :: r, o, w, h => Box.cells_other hk r (o + 1) _ (h.other hk o v)
theorem below_cells {B b : Nat} {a : World} (hb : B ≤ b) : ∀ (vs : List Value) (o : Nat) (w : World), Below B a w → Below B a (w.setCells b o vs)
  | [], _, _, h => h
  | v :: r, o, w, h => below_cells hb r (o + 1) _ (h.setCell (p := ⟨b, o, none⟩) hb v)
/-- A whole struct is stored in the middle of a box. -/
theorem StrT.store_mid (hT : StrT K T) {ops : Array Oper} {rest : List Oper} {op : Oper} {a : Act} {w : World} {Q : Exit → Act → World → Prop} (hgd : op.guard = none) (x y : Operand) (ho : op.op = .store T x y)
    (g o : Nat) (c : α) (xs : List Value) (t : TypeId) (hx : a.eval x = .pointer (some ⟨g, o, none⟩)) (hy : a.eval y = .agg (K.enc c).toArray) (hB : Box w g xs t) (hn : o + K.n ≤ xs.length)
    (h : wpList Try.prog ops Q rest (a.put op.dst undef) (w.setCells g o (K.enc c))) : wpList Try.prog ops Q (op :: rest) a w :=
  wpList_store_mid hgd _ x y ho g o (K.enc c).toArray hx hy (hB.there o _ (by simpa [K.len] using hn)) (by rw [hT.size]; simp [K.len]) (all_oneCell_toArray (K.one c)) h
end Go.Proofs.Ytehnhkjeijbliaa
