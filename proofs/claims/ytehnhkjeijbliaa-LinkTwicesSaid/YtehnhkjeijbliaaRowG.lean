/- Rows of elements of any number of cells each: read, cut, appended (of any type). -/
import Derived.Test.YtehnhkjeijbliaaLib
import Derived.Test.YtehnhkjeijbliaaPerm
namespace Go.Proofs.Ytehnhkjeijbliaa
open Go.RowKit Go.Proofs
set_option maxRecDepth 50000
set_option linter.unusedVariables false
set_option linter.unusedSimpArgs false

/-- How an element lies: its cells. -/
structure RowK (α : Type) where
  enc : α → List Value
  n : Nat
  pos : 0 < n
  len : ∀ a, (enc a).length = n
  one : ∀ a, ∀ u ∈ enc a, u.oneCell' = true

variable {α : Type} (K : RowK α)

def RowK.cells (l : List α) : List Value := l.flatMap K.enc
theorem RowK.cells_length (l : List α) : (K.cells l).length = l.length * K.n := by
  induction l with
  | nil => simp [RowK.cells]
  | cons a l ih =>
    have h : (K.cells (a :: l)).length = (K.enc a).length + (K.cells l).length := by simp [RowK.cells]
    rw [h, ih, K.len, List.length_cons, Nat.succ_mul]
    omega
theorem RowK.cells_append (l m : List α) : K.cells (l ++ m) = K.cells l ++ K.cells m := by simp [RowK.cells]
theorem RowK.cells_one (l : List α) : ∀ u ∈ K.cells l, u.oneCell' = true := by
  intro u hu
  unfold RowK.cells at hu
  rw [List.mem_flatMap] at hu
  obtain ⟨a, _, ha⟩ := hu
  exact K.one a u ha
theorem RowK.cells_get (l : List α) : ∀ (i j : Nat) (h : i < l.length), j < K.n → (K.cells l)[i * K.n + j]? = (K.enc l[i])[j]? := by
  induction l with
  | nil => intro i j h; cases h
  | cons a l ih =>
    intro i j h hj
    have e : K.cells (a :: l) = K.enc a ++ K.cells l := by simp [RowK.cells]
    rw [e]
    cases i with
    | zero =>
      rw [Nat.zero_mul, Nat.zero_add, List.getElem?_append_left (by rw [K.len]; exact hj)]
      rfl
    | succ i =>
      rw [List.getElem?_append_right (by rw [K.len, Nat.succ_mul]; omega), K.len]
      rw [show (i + 1) * K.n + j - K.n = i * K.n + j by rw [Nat.succ_mul]; omega]
      rw [ih i j (by simpa using h) hj]
      rfl
theorem RowK.cells_take (l : List α) : ∀ (m : Nat), (K.cells l).take (m * K.n) = K.cells (l.take m) := by
  induction l with
  | nil => intro m; simp [RowK.cells]
  | cons a l ih =>
    intro m
    have e : K.cells (a :: l) = K.enc a ++ K.cells l := by simp [RowK.cells]
    cases m with
    | zero => simp [RowK.cells]
    | succ m =>
      have e2 : K.cells ((a :: l).take (m + 1)) = K.enc a ++ K.cells (l.take m) := by simp [RowK.cells]
      rw [e, e2, List.take_append, K.len, List.take_of_length_le (by rw [K.len, Nat.succ_mul]; omega)]
      rw [show (m + 1) * K.n - K.n = m * K.n by rw [Nat.succ_mul]; omega, ih m]

/-- p leads to the elements l; a slice reads as l. -/
def RowK.At (w : World) (p : Option Addr) (l : List α) : Prop :=
  l = [] ∨ ∃ b off, p = some ⟨b, off, none⟩ ∧ b < w.heap.size ∧ ∀ j v, (K.cells l)[j]? = some v → w.cell? ⟨b, off + j, none⟩ = some v
def RowK.Reads (w : World) (v : Value) (l : List α) : Prop := ∃ p cap, v = .slice p l.length cap ∧ l.length ≤ cap ∧ cap ≤ maxLen ∧ K.At w p l

theorem RowK.Reads.nil (w : World) : K.Reads w (.slice none 0 0) [] := ⟨none, 0, rfl, Nat.le_refl _, Nat.zero_le _, .inl rfl⟩
theorem RowK.At.pos {K : RowK α} {w : World} {p : Option Addr} {l : List α} (h : K.At w p l) (hl : 0 < l.length) :
    ∃ b off, p = some ⟨b, off, none⟩ ∧ b < w.heap.size ∧ ∀ j v, (K.cells l)[j]? = some v → w.cell? ⟨b, off + j, none⟩ = some v := by
  rcases h with rfl | h
  · simp at hl
  · exact h
theorem RowK.At.below {K : RowK α} {w w' : World} {p : Option Addr} {l : List α} (h : K.At w p l) (hb : Below w.heap.size w w') : K.At w' p l := by
  rcases h with h | ⟨b, off, rfl, hlt, hc⟩
  · exact .inl h
  · exact .inr ⟨b, off, rfl, Nat.lt_of_lt_of_le hlt hb.size, fun j v hj => by rw [hb.cell (p := ⟨b, off + j, none⟩) hlt]; exact hc j v hj⟩
theorem RowK.Reads.below {K : RowK α} {w w' : World} {v : Value} {l : List α} (h : K.Reads w v l) (hb : Below w.heap.size w w') : K.Reads w' v l := by
  obtain ⟨p, cap, rfl, h1, h2, h3⟩ := h
  exact ⟨p, cap, rfl, h1, h2, h3.below hb⟩
theorem RowK.At.take {K : RowK α} {w : World} {p : Option Addr} {l : List α} (h : K.At w p l) (m : Nat) : K.At w p (l.take m) := by
  rcases h with rfl | ⟨b, off, rfl, hlt, hc⟩
  · exact .inl (by simp)
  · refine .inr ⟨b, off, rfl, hlt, fun j v hj => hc j v ?_⟩
    rw [← K.cells_take, List.getElem?_take] at hj
    split at hj
    · exact hj
    · cases hj
/-- An element's cells. -/
theorem RowK.At.cell {K : RowK α} {w : World} {b off : Nat} {l : List α} (h : ∀ j v, (K.cells l)[j]? = some v → w.cell? ⟨b, off + j, none⟩ = some v) (i j : Nat) (hi : i < l.length) (hj : j < K.n) (v : Value) (hv : (K.enc l[i])[j]? = some v) :
    w.cell? ⟨b, off + (i * K.n + j), none⟩ = some v := h _ _ (by rw [K.cells_get l i j hi hj]; exact hv)

/-- A row of the call's own, or nil. -/
def RowK.Own (t : TypeId) (w : World) (base : Nat) (v : Value) (l : List α) : Prop := w.ownsRow base t K.n v l.length (K.cells l)
theorem RowK.Own.nil (t : TypeId) (w : World) (base : Nat) : K.Own t w base (.slice none 0 0) [] := World.ownsRow_nil w base _ _
theorem RowK.Own.reads {K : RowK α} {t : TypeId} {w : World} {base : Nat} {v : Value} {l : List α} (h : K.Own t w base v l) : K.Reads w v l := by
  rcases id h with ⟨_, ⟨rfl, hn⟩ | ⟨g, cap, cur, rfl, _, hg, h3, h4, h5, h6⟩⟩
  · obtain rfl : l = [] := List.eq_nil_of_length_eq_zero hn
    exact RowK.Reads.nil K w
  · refine ⟨_, _, rfl, h3, h4, .inr ⟨g, 0, rfl, (Array.getElem?_eq_some_iff.1 hg).1, fun j v hj => ?_⟩⟩
    have hjl : j < l.length * K.n := by
      have := (List.getElem?_eq_some_iff.1 hj).1
      rwa [K.cells_length] at this
    rw [Nat.zero_add]
    simp only [World.cell?, hg]
    rw [← h6, List.getElem?_take_of_lt hjl, Array.getElem?_toList] at hj
    simpa using hj

/-- 'append(v, x...)', v a row of the call's own or nil. -/
theorem RowK.append {tS tE : TypeId} {z : Value} {B : Nat} (hu : Try.prog.underlying tS = some (.slice tE)) (hinfo : (Try.prog.info? tE).map (fun i => (i.zero, i.size, i.bytes)) = some (some z, K.n, B)) (hzl : z.cells.size = K.n)
    (w : World) (base : Nat) (v x : Value) (l m : List α) (hv : K.Own tE w base v l) (hx : K.Reads w x m) (hbytes : (l.length + m.length) * B ≤ 140737488355328) (hlen2 : l.length + m.length ≤ 140737488355328) (hbase : base ≤ w.heap.size) :
    ∃ v' w', (Builtin.append_ #[tS, tS] tS #[v, x]).run Try.prog w = .ok v' w' ∧ K.Own tE w' base v' (l ++ m) ∧ Below base w w' := by
  obtain ⟨p, cap, rfl, _, _, hat⟩ := hx
  obtain ⟨i0, hi, hz0, hz1, hz2⟩ := info_parts hinfo
  have hlen : (l ++ m).length = l.length + m.length := List.length_append
  cases p with
  | none =>
    obtain rfl : m = [] := by
      rcases hat with h | ⟨b, off, h, _⟩
      · exact h
      · cases h
    refine ⟨v, w, ?_, by simpa using hv, Below.refl _ _⟩
    rcases World.ownsRow.elim hv with ⟨rfl, hn⟩ | ⟨g, cap', cur, rfl, hnc, _⟩
    · simp [Builtin.append_, run_underlying hu, sizeOf, typeInfo, hi, Builtin.lenOf, Builtin.firstCells]
    · simp [Builtin.append_, run_underlying hu, sizeOf, typeInfo, hi, Builtin.lenOf, Builtin.firstCells, hnc, storeCells]
  | some a =>
    have hnews : ∀ j u, (K.cells m)[j]? = some u → w.cell? (a.add j) = some u := by
      intro j u hu
      have hj := (List.getElem?_eq_some_iff.1 hu).1
      rw [K.cells_length] at hj
      have hm0 : 0 < m.length := by
        rcases Nat.eq_zero_or_pos m.length with h | h
        · rw [h, Nat.zero_mul] at hj; omega
        · exact h
      obtain ⟨b, off, he, _, hc⟩ := hat.pos hm0
      cases he
      rw [Addr.add_plain]
      exact hc j u hu
    obtain ⟨v', w', hr, hown, hg, _⟩ := run_append_own (P := Try.prog) w base tS tS tE i0 _ K.n B hu hi hz0 hz1 hz2 hzl K.pos v l.length (K.cells l) hv a m.length cap (K.cells m) (K.cells_length m) hnews (K.cells_one m) (by unfold maxLen; omega) hbytes hbase
    refine ⟨v', w', hr, ?_, ?_⟩
    · unfold RowK.Own
      rw [hlen, K.cells_append]
      exact hown
    · exact (Below.refl base w).grown hg hbase (fun k hk => (World.ownsRow.lt hv k hk).1)

/-- One cell of one element is stored. -/
theorem RowK.cells_set (l : List α) : ∀ (i j : Nat) (h : i < l.length) (u : Value) (a' : α), j < K.n → (K.enc l[i]).set j u = K.enc a' → (K.cells l).set (i * K.n + j) u = K.cells (l.set i a') := by
  induction l with
  | nil => intro i j h; cases h
  | cons a l ih =>
    intro i j h u a' hj he
    have e : K.cells (a :: l) = K.enc a ++ K.cells l := by simp [RowK.cells]
    cases i with
    | zero =>
      have e2 : K.cells ((a :: l).set 0 a') = K.enc a' ++ K.cells l := by simp [RowK.cells]
      rw [e, e2, Nat.zero_mul, Nat.zero_add, List.set_append_left _ _ (by rw [K.len]; exact hj)]
      rw [← he]
      rfl
    | succ i =>
      have e2 : K.cells ((a :: l).set (i + 1) a') = K.enc a ++ K.cells (l.set i a') := by simp [RowK.cells]
      rw [e, e2, List.set_append_right _ _ (by rw [K.len, Nat.succ_mul]; omega), K.len]
      rw [show (i + 1) * K.n + j - K.n = i * K.n + j by rw [Nat.succ_mul]; omega]
      rw [ih i j (by simpa using h) u a' hj (by simpa using he)]

theorem RowK.Own.form {K : RowK α} {t : TypeId} {w : World} {base : Nat} {v : Value} {l : List α} (h : K.Own t w base v l) (hl : 0 < l.length) :
    ∃ g cap, v = .slice (some ⟨g, 0, none⟩) l.length cap ∧ base ≤ g ∧ g < w.heap.size ∧ l.length ≤ cap ∧ cap ≤ maxLen := by
  rcases id h with ⟨_, ⟨rfl, hn⟩ | ⟨g, cap, cur, rfl, hb, hg, h3, h4, h5, h6⟩⟩
  · omega
  · exact ⟨g, cap, rfl, hb, (Array.getElem?_eq_some_iff.1 hg).1, h3, h4⟩
theorem RowK.Own.cell {K : RowK α} {t : TypeId} {w : World} {base g cap : Nat} {l : List α} (h : K.Own t w base (.slice (some ⟨g, 0, none⟩) l.length cap) l) (i j : Nat) (hi : i < l.length) (hj : j < K.n) (v : Value) (hv : (K.enc l[i])[j]? = some v) :
    w.cell? ⟨g, i * K.n + j, none⟩ = some v := by
  have hlt : i * K.n + j < l.length * K.n := by
    have : (i + 1) * K.n ≤ l.length * K.n := Nat.mul_le_mul_right _ hi
    rw [Nat.succ_mul] at this
    omega
  rw [World.ownsRow.cellAt h _ hlt, K.cells_get l i j hi hj]
  exact hv
theorem RowK.Own.range {K : RowK α} {t : TypeId} {w : World} {base g cap : Nat} {l : List α} (h : K.Own t w base (.slice (some ⟨g, 0, none⟩) l.length cap) l) (i : Nat) (hi : i < l.length) : w.rangeAt g (i * K.n) (K.enc l[i]) := fun j v hj =>
  h.cell i j hi (by have := (List.getElem?_eq_some_iff.1 hj).1; rwa [K.len] at this) v hj
theorem RowK.Own.free {K : RowK α} {t : TypeId} {w : World} {base g cap : Nat} {l : List α} (h : K.Own t w base (.slice (some ⟨g, 0, none⟩) l.length cap) l) (k : Nat) : w.frozen? ⟨g, k, none⟩ = false := World.ownsRow.frozenAt h k
theorem RowK.Own.put {K : RowK α} {t : TypeId} {w : World} {base g cap : Nat} {l : List α} (h : K.Own t w base (.slice (some ⟨g, 0, none⟩) l.length cap) l) (i j : Nat) (hi : i < l.length) (hj : j < K.n) (u : Value) (a' : α) (he : (K.enc l[i]).set j u = K.enc a') :
    K.Own t (w.setCell ⟨g, i * K.n + j, none⟩ u) base (.slice (some ⟨g, 0, none⟩) l.length cap) (l.set i a') := by
  have hs := (World.ownsRow.stored h (i * K.n + j) u).1
  unfold RowK.Own
  rw [List.length_set, ← K.cells_set l i j hi u a' hj he]
  exact hs
theorem RowK.Own.below {K : RowK α} {t : TypeId} {w w' : World} {base : Nat} {v : Value} {l : List α} (h : K.Own t w base v l) (hb : Below w.heap.size w w') : K.Own t w' base v l := by
  rcases id h with ⟨h0, ⟨rfl, hn⟩ | ⟨g, cap, cur, rfl, hbg, hg, r⟩⟩
  · exact ⟨h0, .inl ⟨rfl, hn⟩⟩
  · exact ⟨h0, .inr ⟨g, cap, cur, rfl, hbg, by rw [hb.block g (Array.getElem?_eq_some_iff.1 hg).1]; exact hg, r⟩⟩

/-- .. as an arm of a plain region. -/
theorem RowK.wpList_append {tS tE : TypeId} {z : Value} {B : Nat} (hu : Try.prog.underlying tS = some (.slice tE)) (hinfo : (Try.prog.info? tE).map (fun i => (i.zero, i.size, i.bytes)) = some (some z, K.n, B)) (hzl : z.cells.size = K.n)
    {w : World} {ops : Array Oper} {rest : List Oper} {o : Oper} {a : Act} {Q : Exit → Act → World → Prop} (hgd : o.guard = none) (s x : Operand)
    (ho : o.op = .call { callee := .builtin .append, args := #[s, x], argTypes := #[tS, tS] }) (hty : o.type = tS)
    (base : Nat) (v x' : Value) (l m : List α) (hs : a.eval s = v) (hx : a.eval x = x') (hv : K.Own tE w base v l) (hX : K.Reads w x' m) (hbytes : (l.length + m.length) * B ≤ 140737488355328) (hlen2 : l.length + m.length ≤ 140737488355328) (hbase : base ≤ w.heap.size)
    (h : ∀ v' w', K.Own tE w' base v' (l ++ m) → Below base w w' → wpList Try.prog ops Q rest (a.put o.dst v') w') : wpList Try.prog ops Q (o :: rest) a w :=
  wpList_plain hgd fun K' hK => by
    obtain ⟨v', w', hr, h1, h2⟩ := K.append hu hinfo hzl w base v x' l m hv hX hbytes hlen2 hbase
    unfold Oper.wp execOp
    simp only [ho, resolve, invoke, builtin, Sem.run_bind, Sem.run_pure, Result.andThen_ok, List.map_toArray, List.map_cons, List.map_nil, hs, hx, hty]
    simp only [hr]
    exact hK _ _ (h v' w' h1 h2)
end Go.Proofs.Ytehnhkjeijbliaa
