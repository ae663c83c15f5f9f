/- Rows of values of one cell each, of any type: read, written out, appended. -/
import Derived.Test.YtgjffmhlehcoiaaBase
import Derived.OwnWalk
namespace Go.Proofs.Ytgjffmhlehcoiaa
open Go.RowKit Go.Proofs
set_option maxRecDepth 50000
set_option linter.unusedVariables false

/-- p leads to the values xs. -/
def RowAt (w : World) (p : Option Addr) (xs : List Value) : Prop :=
  xs = [] ∨ ∃ b off, p = some ⟨b, off, none⟩ ∧ b < w.heap.size ∧ ∀ i (h : i < xs.length), w.cell? ⟨b, off + i, none⟩ = some xs[i]

/-- The slice value v reads as the values xs. -/
def RowOf (w : World) (v : Value) (xs : List Value) : Prop :=
  ∃ p cap, v = .slice p xs.length cap ∧ xs.length ≤ cap ∧ cap ≤ maxLen ∧ RowAt w p xs

theorem RowOf.nil (w : World) : RowOf w (.slice none 0 0) [] := ⟨none, 0, rfl, Nat.le_refl _, Nat.zero_le _, .inl rfl⟩

theorem RowAt.pos {w : World} {p : Option Addr} {xs : List Value} (h : RowAt w p xs) (hl : 0 < xs.length) :
    ∃ b off, p = some ⟨b, off, none⟩ ∧ b < w.heap.size ∧ ∀ i (h : i < xs.length), w.cell? ⟨b, off + i, none⟩ = some xs[i] := by
  rcases h with rfl | h
  · simp at hl
  · exact h

theorem RowAt.below {w w' : World} {p : Option Addr} {xs : List Value} (h : RowAt w p xs) (hb : Below w.heap.size w w') : RowAt w' p xs := by
  rcases h with h | ⟨b, off, rfl, hlt, hc⟩
  · exact .inl h
  · exact .inr ⟨b, off, rfl, Nat.lt_of_lt_of_le hlt hb.size, fun i hi => by rw [hb.cell (p := ⟨b, off + i, none⟩) hlt]; exact hc i hi⟩

theorem RowOf.below {w w' : World} {v : Value} {xs : List Value} (h : RowOf w v xs) (hb : Below w.heap.size w w') : RowOf w' v xs := by
  obtain ⟨p, cap, rfl, h1, h2, h3⟩ := h
  exact ⟨p, cap, rfl, h1, h2, h3.below hb⟩

/-- v is a row of the call's own (blocks from base on), or nil. -/
def OwnRow (e : TypeId) (w : World) (base : Nat) (v : Value) (xs : List Value) : Prop := w.ownsRow base e 1 v xs.length xs

theorem OwnRow.nil (e : TypeId) (w : World) (base : Nat) : OwnRow e w base (.slice none 0 0) [] := World.ownsRow_nil w base _ _

theorem OwnRow.row {e : TypeId} {w : World} {base : Nat} {v : Value} {xs : List Value} (h : OwnRow e w base v xs) : RowOf w v xs := by
  have hlt := World.ownsRow.lt h
  rcases id h with ⟨_, ⟨rfl, hn⟩ | ⟨g, cap, cur, rfl, _, _, h3, h4, _⟩⟩
  · obtain rfl : xs = [] := List.eq_nil_of_length_eq_zero hn
    exact RowOf.nil w
  · refine ⟨_, _, rfl, h3, h4, .inr ⟨g, 0, rfl, (hlt g rfl).2, fun i hi => ?_⟩⟩
    rw [Nat.zero_add, World.ownsRow.cellAt h i (by omega)]
    exact List.getElem?_eq_getElem hi

theorem OwnRow.mono {e : TypeId} {w : World} {base base' : Nat} {v : Value} {xs : List Value} (h : OwnRow e w base v xs) (hb : base' ≤ base) : OwnRow e w base' v xs := by
  obtain ⟨h1, h2⟩ := h
  refine ⟨h1, ?_⟩
  rcases h2 with h2 | ⟨g, cap, cur, hv, hg, r⟩
  · exact .inl h2
  · exact .inr ⟨g, cap, cur, hv, Nat.le_trans hb hg, r⟩

theorem OwnRow.below {e : TypeId} {w w' : World} {base : Nat} {v : Value} {xs : List Value} (h : OwnRow e w base v xs) (hb : Below w.heap.size w w') : OwnRow e w' base v xs := by
  obtain ⟨h1, h2⟩ := h
  refine ⟨h1, ?_⟩
  rcases h2 with h2 | ⟨g, cap, cur, hv, hg, hh, r⟩
  · exact .inl h2
  · exact .inr ⟨g, cap, cur, hv, hg, by rw [hb.block g (Array.getElem?_eq_some_iff.1 hh).1]; exact hh, r⟩

/-- A row that is written out. -/
theorem OwnRow.lit (e : TypeId) (w : World) (xs : List Value) (hl : xs.length ≤ maxLen) : OwnRow e (w.alloc (.cells xs.toArray e)) w.heap.size (.slice (some ⟨w.heap.size, 0, none⟩) xs.length xs.length) xs :=
  ownsRow_of_heap _ (Nat.le_refl _) (heap_alloc_new w _) rfl hl

/-- What must be known of a slice's type: its elements are of one cell. -/
def OneCells (t e : TypeId) (z : Value) (bytes : Nat) : Prop :=
  Try.prog.underlying t = some (.slice e) ∧ (Try.prog.info? e).map (fun i => (i.zero, i.size, i.bytes)) = some (some z, 1, bytes) ∧ z.cells.size = 1

/-- 'append(v, x...)', v a row of the call's own or nil. -/
theorem append_row {t e : TypeId} {z : Value} {bytes : Nat} (ht : OneCells t e z bytes) (w : World) (base : Nat) (v x : Value) (xs ys : List Value) (hv : OwnRow e w base v xs) (hx : RowOf w x ys) (h1 : ∀ u ∈ ys, u.oneCell' = true)
    (h63 : xs.length + ys.length ≤ maxLen) (hbytes : (xs.length + ys.length) * bytes ≤ 140737488355328) (hbase : base ≤ w.heap.size) :
    ∃ v' w', (Builtin.append_ #[t, t] t #[v, x]).run Try.prog w = .ok v' w' ∧ OwnRow e w' base v' (xs ++ ys) ∧ Below base w w' := by
  obtain ⟨hu, hinfo, hzc⟩ := ht
  obtain ⟨p, cap, rfl, _, _, hat⟩ := hx
  obtain ⟨i0, hi, hz0, hz1, hz2⟩ := info_parts hinfo
  have hlen : (xs ++ ys).length = xs.length + ys.length := List.length_append
  cases p with
  | none =>
    obtain rfl : ys = [] := by
      rcases hat with h | ⟨b, off, h, _⟩
      · exact h
      · cases h
    refine ⟨v, w, ?_, by simpa using hv, Below.refl _ _⟩
    rcases World.ownsRow.elim hv with ⟨rfl, hn⟩ | ⟨g, cap', cur, rfl, hnc, _⟩
    · simp [Builtin.append_, run_underlying hu, sizeOf, typeInfo, hi, Builtin.lenOf, Builtin.firstCells]
    · simp [Builtin.append_, run_underlying hu, sizeOf, typeInfo, hi, Builtin.lenOf, Builtin.firstCells, hnc, storeCells]
  | some a =>
    have hnews : ∀ j u, ys[j]? = some u → w.cell? (a.add j) = some u := by
      intro j u hu
      obtain ⟨hj, hju⟩ := List.getElem?_eq_some_iff.1 hu
      obtain ⟨b, off, he, _, hc⟩ := hat.pos (by omega)
      cases he
      rw [Addr.add_plain, hc j hj, hju]
    obtain ⟨v', w', hr, hown, hg, _⟩ := run_append_own (P := Try.prog) w base t t e i0 _ 1 bytes hu hi hz0 hz1 hz2 hzc (by decide) v xs.length xs hv a ys.length cap ys (by omega) hnews h1 h63 hbytes hbase
    refine ⟨v', w', hr, ?_, ?_⟩
    · unfold OwnRow
      rw [hlen]
      exact hown
    · exact (Below.refl base w).grown hg hbase (fun k hk => (World.ownsRow.lt hv k hk).1)

theorem wpList_append_row {w : World} {ops : Array Oper} {rest : List Oper} {o : Oper} {a : Act} {Q : Exit → Act → World → Prop} (hgd : o.guard = none) (s x : Operand) {t e : TypeId} {z : Value} {bytes : Nat} (ht : OneCells t e z bytes)
    (ho : o.op = .call { callee := .builtin .append, args := #[s, x], argTypes := #[t, t] }) (hty : o.type = t)
    (base : Nat) (v x' : Value) (xs ys : List Value) (hs : a.eval s = v) (hx : a.eval x = x') (hv : OwnRow e w base v xs) (hX : RowOf w x' ys) (h1 : ∀ u ∈ ys, u.oneCell' = true)
    (h63 : xs.length + ys.length ≤ maxLen) (hbytes : (xs.length + ys.length) * bytes ≤ 140737488355328) (hbase : base ≤ w.heap.size)
    (h : ∀ v' w', OwnRow e w' base v' (xs ++ ys) → Below base w w' → wpList Try.prog ops Q rest (a.put o.dst v') w') : wpList Try.prog ops Q (o :: rest) a w :=
  wpList_plain hgd fun K hK => by
    obtain ⟨v', w', hr, h1, h2⟩ := append_row ht w base v x' xs ys hv hX h1 h63 hbytes hbase
    unfold Oper.wp execOp
    simp only [ho, resolve, invoke, builtin, Sem.run_bind, Sem.run_pure, Result.andThen_ok, List.map_toArray, List.map_cons, List.map_nil, hs, hx, hty]
    simp only [hr]
    exact hK _ _ (h v' w' h1 h2)
end Go.Proofs.Ytgjffmhlehcoiaa
