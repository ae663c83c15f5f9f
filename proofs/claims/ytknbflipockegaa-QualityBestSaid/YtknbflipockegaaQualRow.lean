/- Rows of qualities: read, appended; the first best one (plain). -/
import Derived.Test.YtknbflipockegaaQualLaws
import Derived.Test.YtknbflipockegaaQualOrd
namespace Go.Proofs.Ytknbflipockegaa
open Go.RowKit Go.Proofs
set_option linter.unusedVariables false
set_option linter.unusedSimpArgs false

abbrev Q3 := Int × Int × Int

/-- The cells of a row of qualities. -/
def qCellsOf : List Q3 → List Value
  | [] => []
  | q :: qs => .int .i64 q.1 :: .int .i64 q.2.1 :: .int .i64 q.2.2 :: qCellsOf qs

theorem qCellsOf_length : ∀ qs : List Q3, (qCellsOf qs).length = qs.length * 3
  | [] => rfl
  | q :: qs => by simp only [qCellsOf, List.length_cons, qCellsOf_length qs]; omega

theorem qCellsOf_append : ∀ (a b : List Q3), qCellsOf (a ++ b) = qCellsOf a ++ qCellsOf b
  | [], b => rfl
  | q :: a, b => by simp only [List.cons_append, qCellsOf, qCellsOf_append a b]

theorem qCellsOf_one : ∀ (qs : List Q3), ∀ u ∈ qCellsOf qs, u.oneCell' = true
  | [] => by simp [qCellsOf]
  | q :: qs => by
    intro u hu
    simp only [qCellsOf, List.mem_cons] at hu
    rcases hu with rfl | rfl | rfl | hu
    · rfl
    · rfl
    · rfl
    · exact qCellsOf_one qs u hu

theorem qCellsOf_get : ∀ (qs : List Q3) (i : Nat) (h : i < qs.length),
    (qCellsOf qs)[i * 3]? = some (.int .i64 (qs[i]).1) ∧ (qCellsOf qs)[i * 3 + 1]? = some (.int .i64 (qs[i]).2.1) ∧ (qCellsOf qs)[i * 3 + 2]? = some (.int .i64 (qs[i]).2.2)
  | q :: qs, 0, _ => ⟨rfl, rfl, rfl⟩
  | q :: qs, i + 1, h => by
    have ih := qCellsOf_get qs i (by simpa using h)
    rw [show (i + 1) * 3 = i * 3 + 3 by omega, show i * 3 + 3 + 1 = i * 3 + 1 + 3 by omega, show i * 3 + 3 + 2 = i * 3 + 2 + 3 by omega]
    simpa only [qCellsOf, List.getElem?_cons_succ, List.getElem_cons_succ] using ih

theorem qCellsOf_take : ∀ (qs : List Q3) (n : Nat), (qCellsOf qs).take (n * 3) = qCellsOf (qs.take n)
  | [], n => by simp [qCellsOf]
  | q :: qs, 0 => by simp [qCellsOf]
  | q :: qs, n + 1 => by
    rw [show (n + 1) * 3 = n * 3 + 1 + 1 + 1 by omega]
    simp only [qCellsOf, List.take_succ_cons, qCellsOf_take qs n]

/-- p leads to the qualities qs. -/
def QualsAt (w : World) (p : Option Addr) (qs : List Q3) : Prop :=
  qs = [] ∨ ∃ b off, p = some ⟨b, off, none⟩ ∧ b < w.heap.size ∧ ∀ j v, (qCellsOf qs)[j]? = some v → w.cell? ⟨b, off + j, none⟩ = some v

/-- The slice value v reads as the qualities qs. -/
def Quals (w : World) (v : Value) (qs : List Q3) : Prop :=
  ∃ p cap, v = .slice p qs.length cap ∧ qs.length ≤ cap ∧ cap ≤ maxLen ∧ QualsAt w p qs

theorem Quals.nil (w : World) : Quals w (.slice none 0 0) [] := ⟨none, 0, rfl, Nat.le_refl _, Nat.zero_le _, .inl rfl⟩

theorem QualsAt.pos {w : World} {p : Option Addr} {qs : List Q3} (h : QualsAt w p qs) (hl : 0 < qs.length) :
    ∃ b off, p = some ⟨b, off, none⟩ ∧ b < w.heap.size ∧ ∀ j v, (qCellsOf qs)[j]? = some v → w.cell? ⟨b, off + j, none⟩ = some v := by
  rcases h with rfl | h
  · simp at hl
  · exact h

theorem QualsAt.below {w w' : World} {p : Option Addr} {qs : List Q3} (h : QualsAt w p qs) (hb : Below w.heap.size w w') : QualsAt w' p qs := by
  rcases h with h | ⟨b, off, rfl, hlt, hc⟩
  · exact .inl h
  · exact .inr ⟨b, off, rfl, Nat.lt_of_lt_of_le hlt hb.size, fun j v hj => by rw [hb.cell (p := ⟨b, off + j, none⟩) hlt]; exact hc j v hj⟩

theorem Quals.below {w w' : World} {v : Value} {qs : List Q3} (h : Quals w v qs) (hb : Below w.heap.size w w') : Quals w' v qs := by
  obtain ⟨p, cap, rfl, h1, h2, h3⟩ := h
  exact ⟨p, cap, rfl, h1, h2, h3.below hb⟩

theorem QualsAt.take {w : World} {p : Option Addr} {qs : List Q3} (h : QualsAt w p qs) (n : Nat) : QualsAt w p (qs.take n) := by
  rcases h with rfl | ⟨b, off, rfl, hlt, hc⟩
  · exact .inl (by simp)
  · refine .inr ⟨b, off, rfl, hlt, fun j v hj => hc j v ?_⟩
    rw [← qCellsOf_take, List.getElem?_take] at hj
    split at hj
    · exact hj
    · cases hj

/-- v is a row of qualities of the call's own, or nil. -/
def OwnQ (w : World) (base : Nat) (v : Value) (qs : List Q3) : Prop := w.ownsRow base 24 3 v qs.length (qCellsOf qs)

theorem OwnQ.nil (w : World) (base : Nat) : OwnQ w base (.slice none 0 0) [] := World.ownsRow_nil w base _ _

theorem OwnQ.quals {w : World} {base : Nat} {v : Value} {qs : List Q3} (h : OwnQ w base v qs) : Quals w v qs := by
  rcases id h with ⟨_, ⟨rfl, hn⟩ | ⟨g, cap, cur, rfl, _, hg, h3, h4, h5, h6⟩⟩
  · obtain rfl : qs = [] := List.eq_nil_of_length_eq_zero hn
    exact Quals.nil w
  · refine ⟨_, _, rfl, h3, h4, .inr ⟨g, 0, rfl, (Array.getElem?_eq_some_iff.1 hg).1, fun j v hj => ?_⟩⟩
    have hjl : j < qs.length * 3 := by
      have := (List.getElem?_eq_some_iff.1 hj).1
      rwa [qCellsOf_length] at this
    rw [Nat.zero_add]
    simp only [World.cell?, hg]
    rw [← h6, List.getElem?_take_of_lt hjl, Array.getElem?_toList] at hj
    simpa using hj

theorem qinfo : (Try.prog.info? 24).map (fun i => (i.zero, i.size, i.bytes)) = some (some (.agg #[.int .i64 0, .int .i64 0, .int .i64 0]), 3, 24) := by kernel_rfl

/-- 'append(v, x...)', v a row of the call's own or nil. -/
theorem append_quals (w : World) (base : Nat) (v x : Value) (qs ms : List Q3) (hv : OwnQ w base v qs) (hx : Quals w x ms) (hbytes : (qs.length + ms.length) * 24 ≤ 140737488355328) (hbase : base ≤ w.heap.size) :
    ∃ v' w', (Builtin.append_ #[32, 32] 32 #[v, x]).run Try.prog w = .ok v' w' ∧ OwnQ w' base v' (qs ++ ms) ∧ Below base w w' := by
  obtain ⟨p, cap, rfl, _, _, hat⟩ := hx
  obtain ⟨i0, hi, hz0, hz1, hz2⟩ := info_parts qinfo
  have hlen : (qs ++ ms).length = qs.length + ms.length := List.length_append
  have hu := Try.underlying32
  cases p with
  | none =>
    obtain rfl : ms = [] := by
      rcases hat with h | ⟨b, off, h, _⟩
      · exact h
      · cases h
    refine ⟨v, w, ?_, by simpa using hv, Below.refl _ _⟩
    rcases World.ownsRow.elim hv with ⟨rfl, hn⟩ | ⟨g, cap', cur, rfl, hnc, _⟩
    · simp [Builtin.append_, run_underlying hu, sizeOf, typeInfo, hi, Builtin.lenOf, Builtin.firstCells]
    · simp [Builtin.append_, run_underlying hu, sizeOf, typeInfo, hi, Builtin.lenOf, Builtin.firstCells, hnc, storeCells]
  | some a =>
    have hnews : ∀ j u, (qCellsOf ms)[j]? = some u → w.cell? (a.add j) = some u := by
      intro j u hu
      have hj := (List.getElem?_eq_some_iff.1 hu).1
      rw [qCellsOf_length] at hj
      obtain ⟨b, off, he, _, hc⟩ := hat.pos (by omega)
      cases he
      rw [Addr.add_plain]
      exact hc j u hu
    obtain ⟨v', w', hr, hown, hg, _⟩ := run_append_own (P := Try.prog) w base 32 32 24 i0 _ 3 24 hu hi hz0 hz1 hz2 rfl (by decide) v qs.length (qCellsOf qs) hv a ms.length cap (qCellsOf ms) (qCellsOf_length ms) hnews (qCellsOf_one ms) (by unfold maxLen; omega) hbytes hbase
    refine ⟨v', w', hr, ?_, ?_⟩
    · unfold OwnQ
      rw [hlen, qCellsOf_append]
      exact hown
    · exact (Below.refl base w).grown hg hbase (fun k hk => (World.ownsRow.lt hv k hk).1)

theorem wpList_append_quals {w : World} {ops : Array Oper} {rest : List Oper} {o : Oper} {a : Act} {Q : Exit → Act → World → Prop} (hgd : o.guard = none) (s x : Operand)
    (ho : o.op = .call { callee := .builtin .append, args := #[s, x], argTypes := #[32, 32] }) (hty : o.type = 32)
    (base : Nat) (v x' : Value) (l m : List Q3) (hs : a.eval s = v) (hx : a.eval x = x') (hv : OwnQ w base v l) (hX : Quals w x' m) (hbytes : (l.length + m.length) * 24 ≤ 140737488355328) (hbase : base ≤ w.heap.size)
    (h : ∀ v' w', OwnQ w' base v' (l ++ m) → Below base w w' → wpList Try.prog ops Q rest (a.put o.dst v') w') : wpList Try.prog ops Q (o :: rest) a w :=
  wpList_plain hgd fun K hK => by
    obtain ⟨v', w', hr, h1, h2⟩ := append_quals w base v x' l m hv hX hbytes hbase
    unfold Oper.wp execOp
    simp only [ho, resolve, invoke, builtin, Sem.run_bind, Sem.run_pure, Result.andThen_ok, List.map_toArray, List.map_cons, List.map_nil, hs, hx, hty]
    simp only [hr]
    exact hK _ _ (h v' w' h1 h2)

/-- Which one is the better. -/
def cmpT (x y : Q3) : Int := cmpQ x.1 x.2.1 x.2.2 y.1 y.2.1 y.2.2

def qat (qs : List Q3) (i : Int) : Q3 := qs.getD i.toNat (0, 0, 0)

theorem qat_get (qs : List Q3) (i : Nat) (h : i < qs.length) : qat qs (i : Int) = qs[i] := by
  unfold qat
  rw [Int.toNat_natCast, List.getD_eq_getElem?_getD, List.getElem?_eq_getElem h]
  rfl

/-- The place of the first best one of the first n. -/
def bestN (qs : List Q3) : Nat → Int
  | 0 => -1
  | n + 1 => if bestN qs n < 0 then n else if cmpT (qat qs n) (qat qs (bestN qs n)) < 0 then n else bestN qs n

theorem bestN_range (qs : List Q3) : ∀ n, (n = 0 ∧ bestN qs n = -1) ∨ (0 ≤ bestN qs n ∧ bestN qs n < n)
  | 0 => .inl ⟨rfl, rfl⟩
  | n + 1 => by
    have ih := bestN_range qs n
    unfold bestN
    split
    · omega
    · split
      · omega
      · omega

theorem bestN_first (qs : List Q3) (n : Nat) (h : bestN qs n < 0) : bestN qs (n + 1) = n := if_pos h
theorem bestN_better (qs : List Q3) (n : Nat) (h : ¬ bestN qs n < 0) (h2 : cmpT (qat qs n) (qat qs (bestN qs n)) < 0) : bestN qs (n + 1) = n := by
  show (if _ then _ else _) = _
  rw [if_neg h, if_pos h2]
theorem bestN_keep (qs : List Q3) (n : Nat) (h : ¬ bestN qs n < 0) (h2 : ¬ cmpT (qat qs n) (qat qs (bestN qs n)) < 0) : bestN qs (n + 1) = bestN qs n := by
  show (if _ then _ else _) = _
  rw [if_neg h, if_neg h2]

/-- The first best one is not worse than any, and better than all ahead of it. -/
theorem bestN_best (qs : List Q3) : ∀ n i : Nat, i < n → cmpT (qat qs (bestN qs n)) (qat qs i) ≤ 0 ∧ ((i : Int) < bestN qs n → cmpT (qat qs (bestN qs n)) (qat qs i) < 0)
  | 0, i, h => absurd h (Nat.not_lt_zero _)
  | n + 1, i, h => by
    have hr := bestN_range qs n
    have self : ∀ q : Q3, cmpT q q = 0 := fun q => by
      unfold cmpT
      rcases cmpQ_cases q.1 q.2.1 q.2.2 q.1 q.2.1 q.2.2 with h | h | h <;> omega
    by_cases h0 : bestN qs n < 0
    · rw [bestN_first qs n h0]
      obtain rfl : n = 0 := by omega
      obtain rfl : i = 0 := by omega
      rw [self]
      omega
    by_cases h1 : cmpT (qat qs n) (qat qs (bestN qs n)) < 0
    · rw [bestN_better qs n h0 h1]
      by_cases hi : i < n
      · have ih := (bestN_best qs n i hi).1
        have := cmpQ_trans_lt _ _ _ _ _ _ _ _ _ h1 ih
        exact ⟨by unfold cmpT; omega, fun _ => this⟩
      · obtain rfl : i = n := by omega
        rw [self]
        omega
    · rw [bestN_keep qs n h0 h1]
      by_cases hi : i < n
      · exact bestN_best qs n i hi
      · obtain rfl : i = n := by omega
        have hb := cmpQ_back (qat qs i).1 (qat qs i).2.1 (qat qs i).2.2 (qat qs (bestN qs i)).1 (qat qs (bestN qs i)).2.1 (qat qs (bestN qs i)).2.2
        unfold cmpT at h1 ⊢
        omega

/-- The cells of a row, in every later world. -/
def QRow (w : World) (b off : Nat) (qs : List Q3) : Prop := ∀ wx, Below w.heap.size w wx → ∀ k (h : k < qs.length),
  wx.cell? ⟨b, off + k * 3, none⟩ = some (.int .i64 (qs[k]).1) ∧ wx.cell? ⟨b, off + k * 3 + 1, none⟩ = some (.int .i64 (qs[k]).2.1) ∧ wx.cell? ⟨b, off + k * 3 + 2, none⟩ = some (.int .i64 (qs[k]).2.2)

theorem QualsAt.row {w : World} {p : Option Addr} {qs : List Q3} (h : QualsAt w p qs) (hl : 0 < qs.length) : ∃ b off, p = some ⟨b, off, none⟩ ∧ QRow w b off qs := by
  obtain ⟨b, off, rfl, hlt, hc⟩ := h.pos hl
  refine ⟨b, off, rfl, fun wx hb k hk => ?_⟩
  obtain ⟨e0, e1, e2⟩ := qCellsOf_get qs k hk
  rw [hb.cell (p := ⟨b, off + k * 3, none⟩) hlt, hb.cell (p := ⟨b, off + k * 3 + 1, none⟩) hlt, hb.cell (p := ⟨b, off + k * 3 + 2, none⟩) hlt]
  exact ⟨hc _ _ e0, hc _ _ e1, hc _ _ e2⟩

theorem QRow.below {w w' : World} {b off : Nat} {qs : List Q3} (h : QRow w b off qs) (hb : Below w.heap.size w w') : QRow w' b off qs := fun wx k => h wx (bnext hb k)

theorem QRow.get {w : World} {b off : Nat} {qs : List Q3} (h : QRow w b off qs) (k : Nat) (hk : k < qs.length) : ∃ c a v : Int, qat qs k = (c, a, v) ∧
    Hid (∀ wx, Below w.heap.size w wx → wx.cell? ⟨b, off + k * 3, none⟩ = some (.int .i64 c)) ∧ Hid (∀ wx, Below w.heap.size w wx → wx.cell? ⟨b, off + k * 3 + 1, none⟩ = some (.int .i64 a)) ∧
    Hid (∀ wx, Below w.heap.size w wx → wx.cell? ⟨b, off + k * 3 + 2, none⟩ = some (.int .i64 v)) :=
  ⟨_, _, _, qat_get qs k hk, hid fun wx hb => (h wx hb k hk).1, hid fun wx hb => (h wx hb k hk).2.1, hid fun wx hb => (h wx hb k hk).2.2⟩
end Go.Proofs.Ytknbflipockegaa
