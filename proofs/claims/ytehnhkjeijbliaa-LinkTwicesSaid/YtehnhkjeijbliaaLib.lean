/- Bytes in memory. -/
import Derived.Test.YtehnhkjeijbliaaNum
namespace Go.Proofs.Ytehnhkjeijbliaa
open Go.RowKit Go.Proofs
set_option maxRecDepth 50000
set_option linter.unusedVariables false

open Go.RowKit Go.Proofs
set_option linter.unusedVariables false

abbrev bv (c : UInt8) : Value := .int .u8 (c.toNat : Int)

/-- p leads to the bytes l. -/
def BytesAt (w : World) (p : Option Addr) (l : List UInt8) : Prop :=
  l = [] ∨ ∃ b off, p = some ⟨b, off, none⟩ ∧ b < w.heap.size ∧ ∀ i (h : i < l.length), w.cell? ⟨b, off + i, none⟩ = some (bv l[i])

/-- The slice value v reads as the bytes l. -/
def Bytes (w : World) (v : Value) (l : List UInt8) : Prop :=
  ∃ p cap, v = .slice p l.length cap ∧ l.length ≤ cap ∧ cap ≤ maxLen ∧ BytesAt w p l

theorem Bytes.nil (w : World) : Bytes w (.slice none 0 0) [] := ⟨none, 0, rfl, Nat.le_refl _, Nat.zero_le _, .inl rfl⟩

theorem BytesAt.pos {w : World} {p : Option Addr} {l : List UInt8} (h : BytesAt w p l) (hl : 0 < l.length) :
    ∃ b off, p = some ⟨b, off, none⟩ ∧ b < w.heap.size ∧ ∀ i (h : i < l.length), w.cell? ⟨b, off + i, none⟩ = some (bv l[i]) := by
  rcases h with rfl | h
  · simp at hl
  · exact h

theorem BytesAt.below {w w' : World} {p : Option Addr} {l : List UInt8} (h : BytesAt w p l) (hb : Below w.heap.size w w') : BytesAt w' p l := by
  rcases h with h | ⟨b, off, rfl, hlt, hc⟩
  · exact .inl h
  · exact .inr ⟨b, off, rfl, Nat.lt_of_lt_of_le hlt hb.size, fun i hi => by rw [hb.cell (p := ⟨b, off + i, none⟩) hlt]; exact hc i hi⟩

theorem Bytes.below {w w' : World} {v : Value} {l : List UInt8} (h : Bytes w v l) (hb : Below w.heap.size w w') : Bytes w' v l := by
  obtain ⟨p, cap, rfl, h1, h2, h3⟩ := h
  exact ⟨p, cap, rfl, h1, h2, h3.below hb⟩

/-- A piece of bytes. -/
theorem Bytes.cut {w : World} {b off cap : Nat} {l : List UInt8} (A m c : Nat) (hlt : b < w.heap.size) (hc : ∀ i (h : i < l.length), w.cell? ⟨b, off + i, none⟩ = some (bv l[i])) (hfit : A + m ≤ l.length) (hcap : l.length ≤ cap) (hmax : cap ≤ maxLen) (hcc : c = cap - A) :
    Bytes w (.slice (some ⟨b, off + A, none⟩) m c) ((l.drop A).take m) := by
  have hlen : ((l.drop A).take m).length = m := by rw [List.length_take, List.length_drop]; omega
  refine ⟨some ⟨b, off + A, none⟩, c, by rw [hlen], by omega, by omega, .inr ⟨b, off + A, rfl, hlt, fun i hi => ?_⟩⟩
  have h := hc (A + i) (by omega)
  rw [← Nat.add_assoc] at h
  rw [h]
  congr 2
  rw [List.getElem_take, List.getElem_drop]

/-- A string value. -/
abbrev sv (l : List UInt8) : Value := .string ⟨l.toArray⟩

theorem cat_bytes (a b : List UInt8) : (⟨a.toArray⟩ : ByteArray) ++ ⟨b.toArray⟩ = ⟨(a ++ b).toArray⟩ := by
  apply ByteArray.ext
  simp

theorem strOf_bytes (l : List UInt8) : strOfNums (l.map fun c => (c.toNat : Int)) = ⟨l.toArray⟩ := by
  apply ByteArray.ext
  show (List.map _ _).toArray = l.toArray
  congr 1
  rw [List.map_map]
  conv => rhs; rw [← List.map_id l]
  apply List.map_congr_left
  intro c _
  simp

/-- 'string(v)'. -/
theorem Bytes.str {w : World} {v : Value} {l : List UInt8} (h : Bytes w v l) :
    (convert 27 9 v).run Try.prog w = .ok (.string ⟨l.toArray⟩) w := by
  obtain ⟨p, cap, rfl, _, _, hat⟩ := h
  rcases hat with rfl | ⟨b, off, rfl, _, hc⟩
  · cases p with
    | none => exact run_convert_bytes_nil w 27 5 Try.underlying27 Try.underlying5 _ _ _ Try.underlying9
    | some a =>
      have hl : (loadCells a 0).run Try.prog w = .ok #[] w := by simpa using run_loadCells_list (P := Try.prog) w a [] (by simp)
      rw [run_convert_bytes_string w 27 9 5 _ _ _ Try.underlying27 Try.underlying5 Try.underlying9, List.length_nil, run_bytesToString w a 0 cap [] (by simpa using hl)]
      rfl
  · have h := run_convert_bytes_arg (P := Try.prog) w 27 5 Try.underlying27 Try.underlying5 b off l.length cap (l.map fun c => (c.toNat : Int)) (by simp)
      (fun i hi => by rw [hc i hi]; simp [hi]) _ Try.underlying9
    rw [h, strOf_bytes]

/-- .. in every later world. -/
theorem Bytes.strs {w : World} {v : Value} {l : List UInt8} (h : Bytes w v l) :
    ∀ w', Below w.heap.size w w' → (convert 27 9 v).run Try.prog w' = .ok (.string ⟨l.toArray⟩) w' := fun _ hb => (h.below hb).str

/-- The cells of a row of bytes; a name of its own, so that no rule takes it apart. -/
def cellsOf (l : List UInt8) : List Value := l.map bv

theorem cellsOf_length (l : List UInt8) : (cellsOf l).length = l.length := by simp [cellsOf]

theorem cellsOf_get (l : List UInt8) (i : Nat) (h : i < l.length) : (cellsOf l)[i]? = some (bv l[i]) := by simp [cellsOf, h]

theorem cellsOf_append (a b : List UInt8) : cellsOf (a ++ b) = cellsOf a ++ cellsOf b := by simp [cellsOf]

theorem cellsOf_set (r : List UInt8) (q : Nat) (c : UInt8) (k : Nat) (h : r.length = k) : (cellsOf (r ++ List.replicate (q + 1) 0)).set k (bv c) = cellsOf (r ++ [c] ++ List.replicate q 0) := by
  subst h
  simp [cellsOf, List.replicate_succ]

theorem bv_div (x q : Nat) : Value.int .u8 ((x : Int) / 2 ^ (8 * q) % 256) = bv (UInt8.ofNat (x / 256 ^ q)) := by
  have h1 : (256 : Nat) ^ q = 2 ^ (8 * q) := by rw [show (256 : Nat) = 2 ^ 8 from rfl, ← Nat.pow_mul]
  have h2 : ((UInt8.ofNat (x / 256 ^ q)).toNat : Int) = (x : Int) / 2 ^ (8 * q) % 256 := by
    rw [UInt8.toNat_ofNat', h1]
    simp [Int.natCast_ediv, Int.natCast_pow]
  unfold bv
  rw [h2]

theorem cellsOf_one (l : List UInt8) : ∀ v ∈ cellsOf l, v.oneCell' = true := by
  intro v hv
  simp only [cellsOf, List.mem_map] at hv
  obtain ⟨c, _, rfl⟩ := hv
  rfl

/-- v is a row of bytes of the call's own (blocks from base on), or nil. -/
def Own (w : World) (base : Nat) (v : Value) (l : List UInt8) : Prop := w.ownsRow base 5 1 v l.length (cellsOf l)

theorem Own.nil (w : World) (base : Nat) : Own w base (.slice none 0 0) [] := World.ownsRow_nil w base _ _

/-- A row of the call's own reads as its bytes. -/
theorem Own.bytes {w : World} {base : Nat} {v : Value} {l : List UInt8} (h : Own w base v l) : Bytes w v l := by
  have hlt := World.ownsRow.lt h
  have hcell := @World.ownsRow.cellAt
  rcases id h with ⟨_, ⟨rfl, hn⟩ | ⟨g, cap, cur, rfl, _, _, h3, h4, _⟩⟩
  · obtain rfl : l = [] := List.eq_nil_of_length_eq_zero hn
    exact Bytes.nil w
  · refine ⟨_, _, rfl, h3, h4, .inr ⟨g, 0, rfl, (hlt g rfl).2, fun i hi => ?_⟩⟩
    rw [Nat.zero_add, World.ownsRow.cellAt h i (by omega)]
    exact cellsOf_get l i hi

theorem Own.mono {w : World} {base base' : Nat} {v : Value} {l : List UInt8} (h : Own w base v l) (hb : base' ≤ base) : Own w base' v l := by
  obtain ⟨h1, h2⟩ := h
  refine ⟨h1, ?_⟩
  rcases h2 with h2 | ⟨g, cap, cur, hv, hg, r⟩
  · exact .inl h2
  · exact .inr ⟨g, cap, cur, hv, Nat.le_trans hb hg, r⟩

theorem Own.below {w w' : World} {base : Nat} {v : Value} {l : List UInt8} (h : Own w base v l) (hb : Below w.heap.size w w') : Own w' base v l := by
  obtain ⟨h1, h2⟩ := h
  refine ⟨h1, ?_⟩
  rcases h2 with h2 | ⟨g, cap, cur, hv, hg, hh, r⟩
  · exact .inl h2
  · exact .inr ⟨g, cap, cur, hv, hg, by rw [hb.block g (Array.getElem?_eq_some_iff.1 hh).1]; exact hh, r⟩

/-- 'copy' of bytes to the head of a row that is known whole. -/
theorem run_copy_bytes {P : Program} (w : World) (dT sT ty elem t : TypeId) (hu : P.underlying dT = some (.slice elem)) (hs : (P.info? elem).map (·.size) = some 1)
    (g dCap : Nat) (p : Option Addr) (cap : Nat) (l cur : List UInt8) (hg : w.heap[g]? = some (.cells (cellsOf cur).toArray t (0, 0))) (hle : l.length ≤ cur.length) (hat : BytesAt w p l) :
    ∃ w2, (Builtin.copy_ #[dT, sT] ty #[.slice (some ⟨g, 0, none⟩) cur.length dCap, .slice p l.length cap]).run P w = .ok (.int .i64 (l.length : Int)) w2 ∧
      w2.heap[g]? = some (.cells (cellsOf (l ++ cur.drop l.length)).toArray t (0, 0)) ∧ Below g w w2 ∧ w2.heap.size = w.heap.size := by
  by_cases h0 : l.length = 0
  · obtain rfl : l = [] := List.eq_nil_of_length_eq_zero h0
    exact ⟨w, run_copy_none w dT sT ty elem _ _ _ _ _ _ hu hs (by simp), by simpa using hg, Below.refl _ _, rfl⟩
  · obtain ⟨b, off, rfl, _, hc⟩ := hat.pos (by omega)
    have h := run_copy_row (P := P) w dT sT ty elem g 0 cur.length dCap ⟨b, off, none⟩ l.length cap (cellsOf cur).toArray t (cellsOf l) hu hs hg (by rw [cellsOf_length]; exact (Nat.min_eq_left hle).symm)
      (fun j v hj => by
        have hjl : j < l.length := by
          rcases Nat.lt_or_ge j l.length with h | h
          · exact h
          · rw [List.getElem?_eq_none (by rw [cellsOf_length]; exact h)] at hj; cases hj
        rw [cellsOf_get l j hjl] at hj
        rw [Addr.add_plain, hc j hjl]
        exact hj) (by simp [cellsOf_length, hle]) (cellsOf_one l)
    refine ⟨_, by rw [h, cellsOf_length]; rfl, ?_, below_setRow (Below.refl _ _) (Nat.le_refl _) _, by simp [World.setRow]⟩
    rw [setRow_heap w g _ _ t _ hg]
    simp [cellsOf, List.map_drop]

/-- A row that is written out. -/
theorem Own.lit (w : World) (l : List UInt8) (hl : l.length ≤ maxLen) : Own (w.alloc (.cells (cellsOf l).toArray 5)) w.heap.size (.slice (some ⟨w.heap.size, 0, none⟩) l.length l.length) l :=
  ownsRow_of_heap _ (Nat.le_refl _) (heap_alloc_new w _) (cellsOf_length l) hl

theorem info_u8 : (Try.prog.info? 5).map (fun i => (i.zero, i.size, i.bytes)) = some (some (.int .u8 0), 1, 1) := by kernel_rfl

/-- 'make([]byte, N)'. -/
theorem make_bytes (N : Nat) (hN : N ≤ 281474976710656) (x y : Int) (hx : x = N) (hy : y = N) (w' : World) :
    (Instr.makeSlice 27 (.int .i64 x) (.int .i64 y)).run Try.prog w' = .ok (.slice (some ⟨w'.heap.size, 0, none⟩) N N) (w'.alloc (.cells (cellsOf (List.replicate N 0)).toArray 5)) := by
  subst hx hy
  obtain ⟨i0, hi, hz0, hz1, hz2⟩ := info_parts info_u8
  have h := run_make (P := Try.prog) w' 27 5 i0 _ Try.underlying27 hi hz0 .i64 .i64 (N : Int) (N : Int) (by omega) (by omega) (by rw [hz2]; omega) (by omega)
  rw [h, hz1]
  have e2 : madeCells (Value.cells (.int .u8 0)) (N * 1) = (cellsOf (List.replicate N 0)).toArray := by
    apply Array.ext'
    rw [Nat.mul_one]
    show (madeCells #[_] _).toList = _
    rw [toList_madeCells_one]
    simp [cellsOf]
  rw [Int.toNat_natCast, e2]

theorem Own.cell {w : World} {base g cap n : Nat} {l : List UInt8} (h : Own w base (.slice (some ⟨g, 0, none⟩) n cap) l) (i : Nat) (hi : i < l.length) : w.cell? ⟨g, i, none⟩ = some (bv l[i]) := by
  obtain ⟨h1, ⟨h2, _⟩ | ⟨g', cap', cur, hv, hr⟩⟩ := id h
  · cases h2
  · simp only [Value.slice.injEq, Option.some.injEq, Addr.mk.injEq, and_true] at hv
    obtain ⟨rfl, rfl, rfl⟩ := hv
    rw [World.ownsRow.cellAt h i (by omega)]
    exact cellsOf_get l i hi

theorem Own.free {w : World} {base g cap n : Nat} {l : List UInt8} (h : Own w base (.slice (some ⟨g, 0, none⟩) n cap) l) (i : Nat) : w.frozen? ⟨g, i, none⟩ = false := by
  obtain ⟨h1, ⟨h2, _⟩ | ⟨g', cap', cur, hv, hr⟩⟩ := id h
  · cases h2
  · simp only [Value.slice.injEq, Option.some.injEq, Addr.mk.injEq, and_true] at hv
    obtain ⟨rfl, rfl, rfl⟩ := hv
    exact World.ownsRow.frozenAt h i

theorem Own.set {w : World} {base g cap n : Nat} {l : List UInt8} (h : Own w base (.slice (some ⟨g, 0, none⟩) n cap) l) (i : Nat) (c : UInt8) : Own (w.setCell ⟨g, i, none⟩ (bv c)) base (.slice (some ⟨g, 0, none⟩) n cap) (l.set i c) := by
  obtain ⟨h1, ⟨h2, _⟩ | ⟨g', cap', cur, hv, hr⟩⟩ := id h
  · cases h2
  · simp only [Value.slice.injEq, Option.some.injEq, Addr.mk.injEq, and_true] at hv
    obtain ⟨rfl, rfl, rfl⟩ := hv
    have hs := (World.ownsRow.stored h i (bv c)).1
    unfold Own
    rw [List.length_set]
    have e : cellsOf (l.set i c) = (cellsOf l).set i (bv c) := by simp [cellsOf, List.map_set]
    rw [e]
    exact hs

theorem cellsOf_upd (l : List UInt8) (i : Nat) (c : UInt8) : (cellsOf l).set i (.int .u8 (c.toNat : Int)) = cellsOf (l.set i c) := by simp [cellsOf, List.map_set]

theorem Own.form {w : World} {base : Nat} {v : Value} {l : List UInt8} (h : Own w base v l) (hl : 0 < l.length) : ∃ g cap, v = .slice (some ⟨g, 0, none⟩) l.length cap ∧ l.length ≤ cap ∧ base ≤ g ∧ cap ≤ maxLen ∧ g < w.heap.size := by
  have hlt := World.ownsRow.lt h
  rcases h.2 with ⟨_, h⟩ | ⟨g, cap, cur, hv, hb, hg, hn, hm, _⟩
  · omega
  · exact ⟨g, cap, hv, hn, hb, hm, (Array.getElem?_eq_some_iff.1 hg).1⟩

/-- 'append(v, x...)', v a row of the call's own or nil. -/
theorem append_bytes (w : World) (base : Nat) (v x : Value) (l m : List UInt8) (hv : Own w base v l) (hx : Bytes w x m) (hbytes : l.length + m.length ≤ 140737488355328) (hbase : base ≤ w.heap.size) :
    ∃ v' w', (Builtin.append_ #[27, 27] 27 #[v, x]).run Try.prog w = .ok v' w' ∧ Own w' base v' (l ++ m) ∧ Below base w w' := by
  obtain ⟨p, cap, rfl, _, _, hat⟩ := hx
  obtain ⟨i0, hi, hz0, hz1, hz2⟩ := info_parts info_u8
  have hlen : (l ++ m).length = l.length + m.length := List.length_append
  cases p with
  | none =>
    obtain rfl : m = [] := by
      rcases hat with h | ⟨b, off, h, _⟩
      · exact h
      · cases h
    refine ⟨v, w, ?_, by simpa using hv, Below.refl _ _⟩
    rcases World.ownsRow.elim hv with ⟨rfl, hn⟩ | ⟨g, cap', cur, rfl, hnc, _⟩
    · simp [Builtin.append_, run_underlying Try.underlying27, sizeOf, typeInfo, hi, Builtin.lenOf, Builtin.firstCells]
    · simp [Builtin.append_, run_underlying Try.underlying27, sizeOf, typeInfo, hi, Builtin.lenOf, Builtin.firstCells, hnc, storeCells]
  | some a =>
    have hnews : ∀ j u, (cellsOf m)[j]? = some u → w.cell? (a.add j) = some u := by
      intro j u hu
      have hj : j < m.length := by
        rcases Nat.lt_or_ge j m.length with h | h
        · exact h
        · rw [List.getElem?_eq_none (by rw [cellsOf_length]; exact h)] at hu; cases hu
      obtain ⟨b, off, he, _, hc⟩ := hat.pos (by omega)
      cases he
      rw [cellsOf_get m j hj] at hu
      rw [Addr.add_plain, hc j hj]
      exact hu
    obtain ⟨v', w', hr, hown, hg, _⟩ := run_append_own (P := Try.prog) w base 27 27 5 i0 _ 1 1 Try.underlying27 hi hz0 hz1 hz2 rfl (by decide) v l.length (cellsOf l) hv a m.length cap (cellsOf m) (by rw [cellsOf_length]; omega) hnews (cellsOf_one m) (by unfold maxLen; omega) (by omega) hbase
    refine ⟨v', w', hr, ?_, ?_⟩
    · unfold Own
      rw [hlen, cellsOf_append]
      exact hown
    · exact (Below.refl base w).grown hg hbase (fun k hk => (World.ownsRow.lt hv k hk).1)

theorem wpList_append_bytes {w : World} {ops : Array Oper} {rest : List Oper} {o : Oper} {a : Act} {Q : Exit → Act → World → Prop} (hgd : o.guard = none) (s x : Operand)
    (ho : o.op = .call { callee := .builtin .append, args := #[s, x], argTypes := #[27, 27] }) (hty : o.type = 27)
    (base : Nat) (v x' : Value) (l m : List UInt8) (hs : a.eval s = v) (hx : a.eval x = x') (hv : Own w base v l) (hX : Bytes w x' m) (hbytes : l.length + m.length ≤ 140737488355328) (hbase : base ≤ w.heap.size)
    (h : ∀ v' w', Own w' base v' (l ++ m) → Below base w w' → wpList Try.prog ops Q rest (a.put o.dst v') w') : wpList Try.prog ops Q (o :: rest) a w :=
  wpList_plain hgd fun K hK => by
    obtain ⟨v', w', hr, h1, h2⟩ := append_bytes w base v x' l m hv hX hbytes hbase
    rw [← hty] at hr
    unfold Oper.wp execOp
    simp only [ho, resolve, invoke, builtin, Sem.run_bind, Sem.run_pure, Result.andThen_ok, List.map_toArray, List.map_cons, List.map_nil, hs, hx, hty]
    rw [hty] at hr
    simp only [hr]
    exact hK _ _ (h v' w' h1 h2)

/-- A new row of bytes is handed back; of what there was nothing has turned. -/
def NewBytes (w : World) (l : List UInt8) (e : Ending) (w' : World) : Prop := ∃ v, e = .returned v ∧ Own w' w.heap.size v l ∧ Below w.heap.size w w'
end Go.Proofs.Ytehnhkjeijbliaa
