/- Rows of TLVs (a number and a string each): read, appended. -/
import Derived.Test.YtdhdlpoopehmlaaLib
namespace Go.Proofs.Ytdhdlpoopehmlaa
open Go.RowKit Go.Proofs
set_option linter.unusedVariables false
set_option linter.unusedSimpArgs false

/-- A TLV: its type, its bytes. -/
abbrev T2 := Int × List UInt8

/-- A string value. -/
abbrev sv (l : List UInt8) : Value := .string ⟨l.toArray⟩

/-- A TLV as a value. -/
abbrev tlvV (q : T2) : Value := .agg #[.int .i64 q.1, sv q.2]

/-- The cells of a row of TLVs. -/
def tCellsOf : List T2 → List Value
  | [] => []
  | q :: qs => .int .i64 q.1 :: sv q.2 :: tCellsOf qs

theorem tCellsOf_length : ∀ qs : List T2, (tCellsOf qs).length = qs.length * 2
  | [] => rfl
  | q :: qs => by simp only [tCellsOf, List.length_cons, tCellsOf_length qs]; omega

theorem tCellsOf_append : ∀ (a b : List T2), tCellsOf (a ++ b) = tCellsOf a ++ tCellsOf b
  | [], b => rfl
  | q :: a, b => by simp only [List.cons_append, tCellsOf, tCellsOf_append a b]

theorem tCellsOf_one : ∀ (qs : List T2), ∀ u ∈ tCellsOf qs, u.oneCell' = true
  | [] => by simp [tCellsOf]
  | q :: qs => by
    intro u hu
    simp only [tCellsOf, List.mem_cons] at hu
    rcases hu with rfl | rfl | hu
    · rfl
    · rfl
    · exact tCellsOf_one qs u hu

theorem tCellsOf_get : ∀ (qs : List T2) (i : Nat) (h : i < qs.length),
    (tCellsOf qs)[i * 2]? = some (.int .i64 (qs[i]).1) ∧ (tCellsOf qs)[i * 2 + 1]? = some (sv (qs[i]).2)
  | q :: qs, 0, _ => ⟨rfl, rfl⟩
  | q :: qs, i + 1, h => by
    have ih := tCellsOf_get qs i (by simpa using h)
    rw [show (i + 1) * 2 = i * 2 + 2 by omega, show i * 2 + 2 + 1 = i * 2 + 1 + 2 by omega]
    simpa only [tCellsOf, List.getElem?_cons_succ, List.getElem_cons_succ] using ih

theorem tCellsOf_take : ∀ (qs : List T2) (n : Nat), (tCellsOf qs).take (n * 2) = tCellsOf (qs.take n)
  | [], n => by simp [tCellsOf]
  | q :: qs, 0 => by simp [tCellsOf]
  | q :: qs, n + 1 => by
    rw [show (n + 1) * 2 = n * 2 + 1 + 1 by omega]
    simp only [tCellsOf, List.take_succ_cons, tCellsOf_take qs n]

/-- p leads to the TLVs qs. -/
def TlvsAt (w : World) (p : Option Addr) (qs : List T2) : Prop :=
  qs = [] ∨ ∃ b off, p = some ⟨b, off, none⟩ ∧ b < w.heap.size ∧ ∀ j v, (tCellsOf qs)[j]? = some v → w.cell? ⟨b, off + j, none⟩ = some v

/-- The slice value v reads as the TLVs qs. -/
def Tlvs (w : World) (v : Value) (qs : List T2) : Prop :=
  ∃ p cap, v = .slice p qs.length cap ∧ qs.length ≤ cap ∧ cap ≤ maxLen ∧ TlvsAt w p qs

theorem Tlvs.nil (w : World) : Tlvs w (.slice none 0 0) [] := ⟨none, 0, rfl, Nat.le_refl _, Nat.zero_le _, .inl rfl⟩

theorem TlvsAt.pos {w : World} {p : Option Addr} {qs : List T2} (h : TlvsAt w p qs) (hl : 0 < qs.length) :
    ∃ b off, p = some ⟨b, off, none⟩ ∧ b < w.heap.size ∧ ∀ j v, (tCellsOf qs)[j]? = some v → w.cell? ⟨b, off + j, none⟩ = some v := by
  rcases h with rfl | h
  · simp at hl
  · exact h

theorem TlvsAt.below {w w' : World} {p : Option Addr} {qs : List T2} (h : TlvsAt w p qs) (hb : Below w.heap.size w w') : TlvsAt w' p qs := by
  rcases h with h | ⟨b, off, rfl, hlt, hc⟩
  · exact .inl h
  · exact .inr ⟨b, off, rfl, Nat.lt_of_lt_of_le hlt hb.size, fun j v hj => by rw [hb.cell (p := ⟨b, off + j, none⟩) hlt]; exact hc j v hj⟩

theorem Tlvs.below {w w' : World} {v : Value} {qs : List T2} (h : Tlvs w v qs) (hb : Below w.heap.size w w') : Tlvs w' v qs := by
  obtain ⟨p, cap, rfl, h1, h2, h3⟩ := h
  exact ⟨p, cap, rfl, h1, h2, h3.below hb⟩

theorem TlvsAt.take {w : World} {p : Option Addr} {qs : List T2} (h : TlvsAt w p qs) (n : Nat) : TlvsAt w p (qs.take n) := by
  rcases h with rfl | ⟨b, off, rfl, hlt, hc⟩
  · exact .inl (by simp)
  · refine .inr ⟨b, off, rfl, hlt, fun j v hj => hc j v ?_⟩
    rw [← tCellsOf_take, List.getElem?_take] at hj
    split at hj
    · exact hj
    · cases hj

/-- v is a row of TLVs of the call's own, or nil. -/
def OwnT (w : World) (base : Nat) (v : Value) (qs : List T2) : Prop := w.ownsRow base 32 2 v qs.length (tCellsOf qs)

theorem OwnT.nil (w : World) (base : Nat) : OwnT w base (.slice none 0 0) [] := World.ownsRow_nil w base _ _

theorem OwnT.tlvs {w : World} {base : Nat} {v : Value} {qs : List T2} (h : OwnT w base v qs) : Tlvs w v qs := by
  rcases id h with ⟨_, ⟨rfl, hn⟩ | ⟨g, cap, cur, rfl, _, hg, h3, h4, h5, h6⟩⟩
  · obtain rfl : qs = [] := List.eq_nil_of_length_eq_zero hn
    exact Tlvs.nil w
  · refine ⟨_, _, rfl, h3, h4, .inr ⟨g, 0, rfl, (Array.getElem?_eq_some_iff.1 hg).1, fun j v hj => ?_⟩⟩
    have hjl : j < qs.length * 2 := by
      have := (List.getElem?_eq_some_iff.1 hj).1
      rwa [tCellsOf_length] at this
    rw [Nat.zero_add]
    simp only [World.cell?, hg]
    rw [← h6, List.getElem?_take_of_lt hjl, Array.getElem?_toList] at hj
    simpa using hj

theorem tinfo : (Try.prog.info? 32).map (fun i => (i.zero, i.size, i.bytes)) = some (some (.agg #[.int .i64 0, .string ⟨#[]⟩]), 2, 24) := by kernel_rfl

/-- 'append(v, x...)', v a row of the call's own or nil. -/
theorem append_tlvs (w : World) (base : Nat) (v x : Value) (qs ms : List T2) (hv : OwnT w base v qs) (hx : Tlvs w x ms) (hbytes : (qs.length + ms.length) * 24 ≤ 140737488355328) (hbase : base ≤ w.heap.size) :
    ∃ v' w', (Builtin.append_ #[23, 23] 23 #[v, x]).run Try.prog w = .ok v' w' ∧ OwnT w' base v' (qs ++ ms) ∧ Below base w w' := by
  obtain ⟨p, cap, rfl, _, _, hat⟩ := hx
  obtain ⟨i0, hi, hz0, hz1, hz2⟩ := info_parts tinfo
  have hlen : (qs ++ ms).length = qs.length + ms.length := List.length_append
  have hu := Try.underlying23
  cases p with
  | none =>
    obtain rfl : ms = [] := by
      rcases hat with h | ⟨b, off, h, _⟩
      · exact h
      · cases h
    refine ⟨v, w, ?_, by simpa using hv, Below.refl _ _⟩
    rcases World.ownsRow.elim hv with ⟨rfl, hn⟩ | ⟨g, cap', cur, rfl, hnc, _⟩
    · simp [Builtin.append_, run_underlying hu, sizeOf, typeInfo, hi, Builtin.lenOf, Builtin.firstCells]
    · simp [Builtin.append_, run_underlying hu, sizeOf, typeInfo, hi, Builtin.lenOf, Builtin.firstCells, hnc, storeCells]
  | some a =>
    have hnews : ∀ j u, (tCellsOf ms)[j]? = some u → w.cell? (a.add j) = some u := by
      intro j u hu
      have hj := (List.getElem?_eq_some_iff.1 hu).1
      rw [tCellsOf_length] at hj
      obtain ⟨b, off, he, _, hc⟩ := hat.pos (by omega)
      cases he
      rw [Addr.add_plain]
      exact hc j u hu
    obtain ⟨v', w', hr, hown, hg, _⟩ := run_append_own (P := Try.prog) w base 23 23 32 i0 _ 2 24 hu hi hz0 hz1 hz2 rfl (by decide) v qs.length (tCellsOf qs) hv a ms.length cap (tCellsOf ms) (tCellsOf_length ms) hnews (tCellsOf_one ms) (by unfold maxLen; omega) hbytes hbase
    refine ⟨v', w', hr, ?_, ?_⟩
    · unfold OwnT
      rw [hlen, tCellsOf_append]
      exact hown
    · exact (Below.refl base w).grown hg hbase (fun k hk => (World.ownsRow.lt hv k hk).1)

theorem wpList_append_tlvs {w : World} {ops : Array Oper} {rest : List Oper} {o : Oper} {a : Act} {Q : Exit → Act → World → Prop} (hgd : o.guard = none) (s x : Operand)
    (ho : o.op = .call { callee := .builtin .append, args := #[s, x], argTypes := #[23, 23] }) (hty : o.type = 23)
    (base : Nat) (v x' : Value) (l m : List T2) (hs : a.eval s = v) (hx : a.eval x = x') (hv : OwnT w base v l) (hX : Tlvs w x' m) (hbytes : (l.length + m.length) * 24 ≤ 140737488355328) (hbase : base ≤ w.heap.size)
    (h : ∀ v' w', OwnT w' base v' (l ++ m) → Below base w w' → wpList Try.prog ops Q rest (a.put o.dst v') w') : wpList Try.prog ops Q (o :: rest) a w :=
  wpList_plain hgd fun K hK => by
    obtain ⟨v', w', hr, h1, h2⟩ := append_tlvs w base v x' l m hv hX hbytes hbase
    unfold Oper.wp execOp
    simp only [ho, resolve, invoke, builtin, Sem.run_bind, Sem.run_pure, Result.andThen_ok, List.map_toArray, List.map_cons, List.map_nil, hs, hx, hty]
    simp only [hr]
    exact hK _ _ (h v' w' h1 h2)

/-- The cells of a row, in every later world. -/
def TRow (w : World) (b off : Nat) (qs : List T2) : Prop := ∀ wx, Below w.heap.size w wx → ∀ k (h : k < qs.length),
  wx.cell? ⟨b, off + k * 2, none⟩ = some (.int .i64 (qs[k]).1) ∧ wx.cell? ⟨b, off + k * 2 + 1, none⟩ = some (sv (qs[k]).2)

theorem TlvsAt.row {w : World} {p : Option Addr} {qs : List T2} (h : TlvsAt w p qs) (hl : 0 < qs.length) : ∃ b off, p = some ⟨b, off, none⟩ ∧ TRow w b off qs := by
  obtain ⟨b, off, rfl, hlt, hc⟩ := h.pos hl
  refine ⟨b, off, rfl, fun wx hb k hk => ?_⟩
  obtain ⟨e0, e1⟩ := tCellsOf_get qs k hk
  rw [hb.cell (p := ⟨b, off + k * 2, none⟩) hlt, hb.cell (p := ⟨b, off + k * 2 + 1, none⟩) hlt]
  exact ⟨hc _ _ e0, hc _ _ e1⟩

theorem TRow.below {w w' : World} {b off : Nat} {qs : List T2} (h : TRow w b off qs) (hb : Below w.heap.size w w') : TRow w' b off qs := fun wx k => h wx (bnext hb k)

/-- One of them, by name. -/
theorem TRow.get {w : World} {b off : Nat} {qs : List T2} (h : TRow w b off qs) (k : Nat) (hk : k < qs.length) : ∃ (c : Int) (s : List UInt8), qs[k] = (c, s) ∧
    Hid (∀ wx, Below w.heap.size w wx → wx.cell? ⟨b, off + k * 2, none⟩ = some (.int .i64 c)) ∧ Hid (∀ wx, Below w.heap.size w wx → wx.cell? ⟨b, off + k * 2 + 1, none⟩ = some (sv s)) :=
  ⟨_, _, rfl, hid fun wx hb => (h wx hb k hk).1, hid fun wx hb => (h wx hb k hk).2⟩

set_option maxHeartbeats 400000 in
theorem tlvs00_any (v : Value) (l : List T2) (w : World) (hB : Tlvs w v l) (hl : l.length * 24 ≤ 140737488355328) :
    Calls Try.prog 13 #[v] w fun e w' => ∃ v', e = .returned v' ∧ OwnT w' w.heap.size v' l ∧ Below w.heap.size w w' := by
  have hn := OwnT.nil w w.heap.size
  go_enter Try.func13, Try.ntmps13
  go_wp2_with (at_builtin; refine wpList_append_tlvs (o := ⟨some 4, _, _, _, _, _⟩) rfl _ _ rfl rfl w.heap.size _ _ [] l rfl rfl hn hB ?_ (Nat.le_refl _) ?_; (simp; omega); intro v' w' hown hbel; rw [List.nil_append] at hown)
  go_ret
  exact ⟨v', rfl, hown, hbel⟩
end Go.Proofs.Ytdhdlpoopehmlaa
