/- Rows of identities ([]uint64): read, appended, compared. -/
import Derived.Test.YtdknecekebmkmaaLib
namespace Go.Proofs.Ytdknecekebmkmaa
open Go.RowKit Go.Proofs
set_option maxRecDepth 50000
set_option linter.unusedVariables false
set_option linter.unusedSimpArgs false

/-- The cells of a row of identities. -/
def iCellsOf (qs : List Int) : List Value := qs.map fun z => .int .u64 z

theorem iCellsOf_length (qs : List Int) : (iCellsOf qs).length = qs.length := by simp [iCellsOf]

theorem iCellsOf_append (a b : List Int) : iCellsOf (a ++ b) = iCellsOf a ++ iCellsOf b := by simp [iCellsOf]

theorem iCellsOf_one (qs : List Int) : ∀ u ∈ iCellsOf qs, u.oneCell' = true := by
  intro u hu
  simp only [iCellsOf, List.mem_map] at hu
  obtain ⟨z, _, rfl⟩ := hu
  rfl

theorem iCellsOf_get (qs : List Int) (i : Nat) (h : i < qs.length) : (iCellsOf qs)[i]? = some (.int .u64 qs[i]) := by simp [iCellsOf, h]

theorem iCellsOf_take (qs : List Int) (n : Nat) : (iCellsOf qs).take n = iCellsOf (qs.take n) := by simp [iCellsOf, List.map_take]

/-- p leads to the identities qs. -/
def IdsAt (w : World) (p : Option Addr) (qs : List Int) : Prop :=
  qs = [] ∨ ∃ b off, p = some ⟨b, off, none⟩ ∧ b < w.heap.size ∧ ∀ j v, (iCellsOf qs)[j]? = some v → w.cell? ⟨b, off + j, none⟩ = some v

/-- The slice value v reads as the identities qs. -/
def Ids (w : World) (v : Value) (qs : List Int) : Prop :=
  ∃ p cap, v = .slice p qs.length cap ∧ qs.length ≤ cap ∧ cap ≤ maxLen ∧ IdsAt w p qs

theorem Ids.nil (w : World) : Ids w (.slice none 0 0) [] := ⟨none, 0, rfl, Nat.le_refl _, Nat.zero_le _, .inl rfl⟩

theorem IdsAt.pos {w : World} {p : Option Addr} {qs : List Int} (h : IdsAt w p qs) (hl : 0 < qs.length) :
    ∃ b off, p = some ⟨b, off, none⟩ ∧ b < w.heap.size ∧ ∀ j v, (iCellsOf qs)[j]? = some v → w.cell? ⟨b, off + j, none⟩ = some v := by
  rcases h with rfl | h
  · simp at hl
  · exact h

theorem IdsAt.below {w w' : World} {p : Option Addr} {qs : List Int} (h : IdsAt w p qs) (hb : Below w.heap.size w w') : IdsAt w' p qs := by
  rcases h with h | ⟨b, off, rfl, hlt, hc⟩
  · exact .inl h
  · exact .inr ⟨b, off, rfl, Nat.lt_of_lt_of_le hlt hb.size, fun j v hj => by rw [hb.cell (p := ⟨b, off + j, none⟩) hlt]; exact hc j v hj⟩

theorem Ids.below {w w' : World} {v : Value} {qs : List Int} (h : Ids w v qs) (hb : Below w.heap.size w w') : Ids w' v qs := by
  obtain ⟨p, cap, rfl, h1, h2, h3⟩ := h
  exact ⟨p, cap, rfl, h1, h2, h3.below hb⟩

theorem IdsAt.take {w : World} {p : Option Addr} {qs : List Int} (h : IdsAt w p qs) (n : Nat) : IdsAt w p (qs.take n) := by
  rcases h with rfl | ⟨b, off, rfl, hlt, hc⟩
  · exact .inl (by simp)
  · refine .inr ⟨b, off, rfl, hlt, fun j v hj => hc j v ?_⟩
    rw [← iCellsOf_take, List.getElem?_take] at hj
    split at hj
    · exact hj
    · cases hj

/-- v is a row of identities of the call's own, or nil. -/
def OwnI (w : World) (base : Nat) (v : Value) (qs : List Int) : Prop := w.ownsRow base 22 1 v qs.length (iCellsOf qs)

theorem OwnI.nil (w : World) (base : Nat) : OwnI w base (.slice none 0 0) [] := World.ownsRow_nil w base _ _

theorem OwnI.ids {w : World} {base : Nat} {v : Value} {qs : List Int} (h : OwnI w base v qs) : Ids w v qs := by
  rcases id h with ⟨_, ⟨rfl, hn⟩ | ⟨g, cap, cur, rfl, _, hg, h3, h4, h5, h6⟩⟩
  · obtain rfl : qs = [] := List.eq_nil_of_length_eq_zero hn
    exact Ids.nil w
  · refine ⟨_, _, rfl, h3, h4, .inr ⟨g, 0, rfl, (Array.getElem?_eq_some_iff.1 hg).1, fun j v hj => ?_⟩⟩
    have hjl : j < qs.length := by
      have := (List.getElem?_eq_some_iff.1 hj).1
      rwa [iCellsOf_length] at this
    rw [Nat.zero_add]
    simp only [World.cell?, hg]
    rw [← h6, Nat.mul_one, List.getElem?_take_of_lt hjl, Array.getElem?_toList] at hj
    simpa using hj

theorem iinfo : (Try.prog.info? 22).map (fun i => (i.zero, i.size, i.bytes)) = some (some (.int .u64 0), 1, 8) := by kernel_rfl

/-- 'append(v, x...)', v a row of the call's own or nil. -/
theorem append_ids (w : World) (base : Nat) (v x : Value) (qs ms : List Int) (hv : OwnI w base v qs) (hx : Ids w x ms) (hbytes : (qs.length + ms.length) * 8 ≤ 140737488355328) (hbase : base ≤ w.heap.size) :
    ∃ v' w', (Builtin.append_ #[45, 45] 45 #[v, x]).run Try.prog w = .ok v' w' ∧ OwnI w' base v' (qs ++ ms) ∧ Below base w w' := by
  obtain ⟨p, cap, rfl, _, _, hat⟩ := hx
  obtain ⟨i0, hi, hz0, hz1, hz2⟩ := info_parts iinfo
  have hlen : (qs ++ ms).length = qs.length + ms.length := List.length_append
  have hu := Try.underlying45
  cases p with
  | none =>
    obtain rfl : ms = [] := by
      rcases hat with h | ⟨b, off, h, _⟩
      · exact h
      · cases h
    refine ⟨v, w, ?_, by simpa using hv, Below.refl _ _⟩
    rcases World.ownsRow.elim hv with ⟨rfl, hn⟩ | ⟨g, cap', cur, rfl, hnc, _⟩
    · simp [Builtin.append_, run_underlying hu, sizeOf, typeInfo, hi, Builtin.lenOf, Builtin.firstCells]
    · simp [Builtin.append_, run_underlying hu, sizeOf, typeInfo, hi, Builtin.lenOf, Builtin.firstCells, hnc, storeCells]
  | some a =>
    have hnews : ∀ j u, (iCellsOf ms)[j]? = some u → w.cell? (a.add j) = some u := by
      intro j u hu
      have hj := (List.getElem?_eq_some_iff.1 hu).1
      rw [iCellsOf_length] at hj
      obtain ⟨b, off, he, _, hc⟩ := hat.pos (by omega)
      cases he
      rw [Addr.add_plain]
      exact hc j u hu
    obtain ⟨v', w', hr, hown, hg, _⟩ := run_append_own (P := Try.prog) w base 45 45 22 i0 _ 1 8 hu hi hz0 hz1 hz2 rfl (by decide) v qs.length (iCellsOf qs) hv a ms.length cap (iCellsOf ms) (by rw [iCellsOf_length]; omega) hnews (iCellsOf_one ms) (by unfold maxLen; omega) hbytes hbase
    refine ⟨v', w', hr, ?_, ?_⟩
    · unfold OwnI
      rw [hlen, iCellsOf_append]
      exact hown
    · exact (Below.refl base w).grown hg hbase (fun k hk => (World.ownsRow.lt hv k hk).1)

theorem wpList_append_ids {w : World} {ops : Array Oper} {rest : List Oper} {o : Oper} {a : Act} {Q : Exit → Act → World → Prop} (hgd : o.guard = none) (s x : Operand)
    (ho : o.op = .call { callee := .builtin .append, args := #[s, x], argTypes := #[45, 45] }) (hty : o.type = 45)
    (base : Nat) (v x' : Value) (l m : List Int) (hs : a.eval s = v) (hx : a.eval x = x') (hv : OwnI w base v l) (hX : Ids w x' m) (hbytes : (l.length + m.length) * 8 ≤ 140737488355328) (hbase : base ≤ w.heap.size)
    (h : ∀ v' w', OwnI w' base v' (l ++ m) → Below base w w' → wpList Try.prog ops Q rest (a.put o.dst v') w') : wpList Try.prog ops Q (o :: rest) a w :=
  wpList_plain hgd fun K hK => by
    obtain ⟨v', w', hr, h1, h2⟩ := append_ids w base v x' l m hv hX hbytes hbase
    unfold Oper.wp execOp
    simp only [ho, resolve, invoke, builtin, Sem.run_bind, Sem.run_pure, Result.andThen_ok, List.map_toArray, List.map_cons, List.map_nil, hs, hx, hty]
    simp only [hr]
    exact hK _ _ (h v' w' h1 h2)

/-- The cells of a row, in every later world. -/
def IRow (w : World) (b off : Nat) (qs : List Int) : Prop := ∀ wx, Below w.heap.size w wx → ∀ k (h : k < qs.length), wx.cell? ⟨b, off + k, none⟩ = some (.int .u64 qs[k])

theorem IdsAt.row {w : World} {p : Option Addr} {qs : List Int} (h : IdsAt w p qs) (hl : 0 < qs.length) : ∃ b off, p = some ⟨b, off, none⟩ ∧ IRow w b off qs := by
  obtain ⟨b, off, rfl, hlt, hc⟩ := h.pos hl
  refine ⟨b, off, rfl, fun wx hb k hk => ?_⟩
  rw [hb.cell (p := ⟨b, off + k, none⟩) hlt]
  exact hc _ _ (iCellsOf_get qs k hk)

theorem IRow.below {w w' : World} {b off : Nat} {qs : List Int} (h : IRow w b off qs) (hb : Below w.heap.size w w') : IRow w' b off qs := fun wx k => h wx (bnext hb k)

theorem ids_same {l m : List Int} (hl : l.length = m.length) (h : ∀ k (h1 : k < l.length) (h2 : k < m.length), l[k] = m[k]) : (l == m) = true := beq_iff_eq.2 (List.ext_getElem hl h)
theorem ids_other {l m : List Int} (k : Nat) (h1 : k < l.length) (h2 : k < m.length) (h : l[k] ≠ m[k]) : (l == m) = false := beq_false_of_ne fun e => h (by subst e; rfl)

end Go.Proofs.Ytdknecekebmkmaa
