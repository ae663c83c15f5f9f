/- Tlv, TlvFew, TlvBox, TlvRef, TlvRef2, TlvRef3, TlvRefG in one. -/
import Derived.Test.YtohgpnlihfcecaaB1
import Derived.Test.YtohgpnlihfcecaaB2
namespace Go.Proofs.Ytohgpnlihfcecaa
section
open Go.RowKit Go.Proofs
set_option maxRecDepth 50000
set_option linter.unusedVariables false
set_option linter.unusedSimpArgs false

/-- A TLV: its type, its bytes. -/
abbrev T2 := Int × List UInt8

/-- A string value. -/
abbrev sv (l : List UInt8) : Value := .string ⟨l.toArray⟩

/-- A TLV as a value. -/
abbrev tlvV (q : T2) : Value := .agg #[.int .i64 q.1, sv q.2]

/-- The cells of a row of TLVs. -/
def tCellsOf : List T2 → List Value
  | [] => []
  | q :: qs => .int .i64 q.1 :: sv q.2 :: tCellsOf qs

theorem tCellsOf_length : ∀ qs : List T2, (tCellsOf qs).length = qs.length * 2
  | [] => rfl
  | q :: qs => by simp only [tCellsOf, List.length_cons, tCellsOf_length qs]; omega

theorem tCellsOf_append : ∀ (a b : List T2), tCellsOf (a ++ b) = tCellsOf a ++ tCellsOf b
  | [], b => rfl
  | q :: a, b => by simp only [List.cons_append, tCellsOf, tCellsOf_append a b]

theorem tCellsOf_one : ∀ (qs : List T2), ∀ u ∈ tCellsOf qs, u.oneCell' = true
  | [] => by simp [tCellsOf]
  | q :: qs => by
    intro u hu
    simp only [tCellsOf, List.mem_cons] at hu
    rcases hu with rfl | rfl | hu
    · rfl
    · rfl
    · exact tCellsOf_one qs u hu

theorem tCellsOf_get : ∀ (qs : List T2) (i : Nat) (h : i < qs.length),
    (tCellsOf qs)[i * 2]? = some (.int .i64 (qs[i]).1) ∧ (tCellsOf qs)[i * 2 + 1]? = some (sv (qs[i]).2)
  | q :: qs, 0, _ => ⟨rfl, rfl⟩
  | q :: qs, i + 1, h => by
    have ih := tCellsOf_get qs i (by simpa using h)
    rw [show (i + 1) * 2 = i * 2 + 2 by omega, show i * 2 + 2 + 1 = i * 2 + 1 + 2 by omega]
    simpa only [tCellsOf, List.getElem?_cons_succ, List.getElem_cons_succ] using ih

theorem tCellsOf_take : ∀ (qs : List T2) (n : Nat), (tCellsOf qs).take (n * 2) = tCellsOf (qs.take n)
  | [], n => by simp [tCellsOf]
  | q :: qs, 0 => by simp [tCellsOf]
  | q :: qs, n + 1 => by
    rw [show (n + 1) * 2 = n * 2 + 1 + 1 by omega]
    simp only [tCellsOf, List.take_succ_cons, tCellsOf_take qs n]

/-- p leads to the TLVs qs. -/
def TlvsAt (w : World) (p : Option Addr) (qs : List T2) : Prop :=
  qs = [] ∨ ∃ b off, p = some ⟨b, off, none⟩ ∧ b < w.heap.size ∧ ∀ j v, (tCellsOf qs)[j]? = some v → w.cell? ⟨b, off + j, none⟩ = some v

/-- The slice value v reads as the TLVs qs. -/
def Tlvs (w : World) (v : Value) (qs : List T2) : Prop :=
  ∃ p cap, v = .slice p qs.length cap ∧ qs.length ≤ cap ∧ cap ≤ maxLen ∧ TlvsAt w p qs

theorem Tlvs.nil (w : World) : Tlvs w (.slice none 0 0) [] := ⟨none, 0, rfl, Nat.le_refl _, Nat.zero_le _, .inl rfl⟩

theorem TlvsAt.pos {w : World} {p : Option Addr} {qs : List T2} (h : TlvsAt w p qs) (hl : 0 < qs.length) :
    ∃ b off, p = some ⟨b, off, none⟩ ∧ b < w.heap.size ∧ ∀ j v, (tCellsOf qs)[j]? = some v → w.cell? ⟨b, off + j, none⟩ = some v := by
  rcases h with rfl | h
  · simp at hl
  · exact h

theorem TlvsAt.below {w w' : World} {p : Option Addr} {qs : List T2} (h : TlvsAt w p qs) (hb : Below w.heap.size w w') : TlvsAt w' p qs := by
  rcases h with h | ⟨b, off, rfl, hlt, hc⟩
  · exact .inl h
  · exact .inr ⟨b, off, rfl, Nat.lt_of_lt_of_le hlt hb.size, fun j v hj => by rw [hb.cell (p := ⟨b, off + j, none⟩) hlt]; exact hc j v hj⟩

theorem Tlvs.below {w w' : World} {v : Value} {qs : List T2} (h : Tlvs w v qs) (hb : Below w.heap.size w w') : Tlvs w' v qs := by
  obtain ⟨p, cap, rfl, h1, h2, h3⟩ := h
  exact ⟨p, cap, rfl, h1, h2, h3.below hb⟩

theorem TlvsAt.take {w : World} {p : Option Addr} {qs : List T2} (h : TlvsAt w p qs) (n : Nat) : TlvsAt w p (qs.take n) := by
  rcases h with rfl | ⟨b, off, rfl, hlt, hc⟩
  · exact .inl (by simp)
  · refine .inr ⟨b, off, rfl, hlt, fun j v hj => hc j v ?_⟩
    rw [← tCellsOf_take, List.getElem?_take] at hj
    split at hj
    · exact hj
    · cases hj

/-- v is a row of TLVs of the call's own, or nil. -/
def OwnT (w : World) (base : Nat) (v : Value) (qs : List T2) : Prop := w.ownsRow base 47 2 v qs.length (tCellsOf qs)

theorem OwnT.nil (w : World) (base : Nat) : OwnT w base (.slice none 0 0) [] := World.ownsRow_nil w base _ _

theorem OwnT.tlvs {w : World} {base : Nat} {v : Value} {qs : List T2} (h : OwnT w base v qs) : Tlvs w v qs := by
  rcases id h with ⟨_, ⟨rfl, hn⟩ | ⟨g, cap, cur, rfl, _, hg, h3, h4, h5, h6⟩⟩
  · obtain rfl : qs = [] := List.eq_nil_of_length_eq_zero hn
    exact Tlvs.nil w
  · refine ⟨_, _, rfl, h3, h4, .inr ⟨g, 0, rfl, (Array.getElem?_eq_some_iff.1 hg).1, fun j v hj => ?_⟩⟩
    have hjl : j < qs.length * 2 := by
      have := (List.getElem?_eq_some_iff.1 hj).1
      rwa [tCellsOf_length] at this
    rw [Nat.zero_add]
    simp only [World.cell?, hg]
    rw [← h6, List.getElem?_take_of_lt hjl, Array.getElem?_toList] at hj
    simpa using hj

theorem tinfo : (Try.prog.info? 47).map (fun i => (i.zero, i.size, i.bytes)) = some (some (.agg #[.int .i64 0, .string ⟨#[]⟩]), 2, 24) := by kernel_rfl

/-- 'append(v, x...)', v a row of the call's own or nil. -/
theorem append_tlvs (w : World) (base : Nat) (v x : Value) (qs ms : List T2) (hv : OwnT w base v qs) (hx : Tlvs w x ms) (hbytes : (qs.length + ms.length) * 24 ≤ 140737488355328) (hbase : base ≤ w.heap.size) :
    ∃ v' w', (Builtin.append_ #[29, 29] 29 #[v, x]).run Try.prog w = .ok v' w' ∧ OwnT w' base v' (qs ++ ms) ∧ Below base w w' := by
  obtain ⟨p, cap, rfl, _, _, hat⟩ := hx
  obtain ⟨i0, hi, hz0, hz1, hz2⟩ := info_parts tinfo
  have hlen : (qs ++ ms).length = qs.length + ms.length := List.length_append
  have hu := Try.underlying29
  cases p with
  | none =>
    obtain rfl : ms = [] := by
      rcases hat with h | ⟨b, off, h, _⟩
      · exact h
      · cases h
    refine ⟨v, w, ?_, by simpa using hv, Below.refl _ _⟩
    rcases World.ownsRow.elim hv with ⟨rfl, hn⟩ | ⟨g, cap', cur, rfl, hnc, _⟩
    · simp [Builtin.append_, run_underlying hu, sizeOf, typeInfo, hi, Builtin.lenOf, Builtin.firstCells]
    · simp [Builtin.append_, run_underlying hu, sizeOf, typeInfo, hi, Builtin.lenOf, Builtin.firstCells, hnc, storeCells]
  | some a =>
    have hnews : ∀ j u, (tCellsOf ms)[j]? = some u → w.cell? (a.add j) = some u := by
      intro j u hu
      have hj := (List.getElem?_eq_some_iff.1 hu).1
      rw [tCellsOf_length] at hj
      obtain ⟨b, off, he, _, hc⟩ := hat.pos (by omega)
      cases he
      rw [Addr.add_plain]
      exact hc j u hu
    obtain ⟨v', w', hr, hown, hg, _⟩ := run_append_own (P := Try.prog) w base 29 29 47 i0 _ 2 24 hu hi hz0 hz1 hz2 rfl (by decide) v qs.length (tCellsOf qs) hv a ms.length cap (tCellsOf ms) (tCellsOf_length ms) hnews (tCellsOf_one ms) (by unfold maxLen; omega) hbytes hbase
    refine ⟨v', w', hr, ?_, ?_⟩
    · unfold OwnT
      rw [hlen, tCellsOf_append]
      exact hown
    · exact (Below.refl base w).grown hg hbase (fun k hk => (World.ownsRow.lt hv k hk).1)

theorem wpList_append_tlvs {w : World} {ops : Array Oper} {rest : List Oper} {o : Oper} {a : Act} {Q : Exit → Act → World → Prop} (hgd : o.guard = none) (s x : Operand)
    (ho : o.op = .call { callee := .builtin .append, args := #[s, x], argTypes := #[29, 29] }) (hty : o.type = 29)
    (base : Nat) (v x' : Value) (l m : List T2) (hs : a.eval s = v) (hx : a.eval x = x') (hv : OwnT w base v l) (hX : Tlvs w x' m) (hbytes : (l.length + m.length) * 24 ≤ 140737488355328) (hbase : base ≤ w.heap.size)
    (h : ∀ v' w', OwnT w' base v' (l ++ m) → Below base w w' → wpList Try.prog ops Q rest (a.put o.dst v') w') : wpList Try.prog ops Q (o :: rest) a w :=
  wpList_plain hgd fun K hK => by
    obtain ⟨v', w', hr, h1, h2⟩ := append_tlvs w base v x' l m hv hX hbytes hbase
    unfold Oper.wp execOp
    simp only [ho, resolve, invoke, builtin, Sem.run_bind, Sem.run_pure, Result.andThen_ok, List.map_toArray, List.map_cons, List.map_nil, hs, hx, hty]
    simp only [hr]
    exact hK _ _ (h v' w' h1 h2)

/-- The cells of a row, in every later world. -/
def TRow (w : World) (b off : Nat) (qs : List T2) : Prop := ∀ wx, Below w.heap.size w wx → ∀ k (h : k < qs.length),
  wx.cell? ⟨b, off + k * 2, none⟩ = some (.int .i64 (qs[k]).1) ∧ wx.cell? ⟨b, off + k * 2 + 1, none⟩ = some (sv (qs[k]).2)

theorem TlvsAt.row {w : World} {p : Option Addr} {qs : List T2} (h : TlvsAt w p qs) (hl : 0 < qs.length) : ∃ b off, p = some ⟨b, off, none⟩ ∧ TRow w b off qs := by
  obtain ⟨b, off, rfl, hlt, hc⟩ := h.pos hl
  refine ⟨b, off, rfl, fun wx hb k hk => ?_⟩
  obtain ⟨e0, e1⟩ := tCellsOf_get qs k hk
  rw [hb.cell (p := ⟨b, off + k * 2, none⟩) hlt, hb.cell (p := ⟨b, off + k * 2 + 1, none⟩) hlt]
  exact ⟨hc _ _ e0, hc _ _ e1⟩

theorem TRow.below {w w' : World} {b off : Nat} {qs : List T2} (h : TRow w b off qs) (hb : Below w.heap.size w w') : TRow w' b off qs := fun wx k => h wx (bnext hb k)

/-- One of them, by name. -/
theorem TRow.get {w : World} {b off : Nat} {qs : List T2} (h : TRow w b off qs) (k : Nat) (hk : k < qs.length) : ∃ (c : Int) (s : List UInt8), qs[k] = (c, s) ∧
    Hid (∀ wx, Below w.heap.size w wx → wx.cell? ⟨b, off + k * 2, none⟩ = some (.int .i64 c)) ∧ Hid (∀ wx, Below w.heap.size w wx → wx.cell? ⟨b, off + k * 2 + 1, none⟩ = some (sv s)) :=
  ⟨_, _, rfl, hid fun wx hb => (h wx hb k hk).1, hid fun wx hb => (h wx hb k hk).2⟩

set_option maxHeartbeats 400000 in
theorem tlvs00_any (v : Value) (l : List T2) (w : World) (hB : Tlvs w v l) (hl : l.length * 24 ≤ 140737488355328) :
    Calls Try.prog 12 #[v] w fun e w' => ∃ v', e = .returned v' ∧ OwnT w' w.heap.size v' l ∧ Below w.heap.size w w' := by
  have hn := OwnT.nil w w.heap.size
  go_enter Try.func12, Try.ntmps12
  go_wp2_with (at_builtin; refine wpList_append_tlvs (o := ⟨some 4, _, _, _, _, _⟩) rfl _ _ rfl rfl w.heap.size _ _ [] l rfl rfl hn hB ?_ (Nat.le_refl _) ?_; (simp; omega); intro v' w' hown hbel; rw [List.nil_append] at hown)
  go_ret
  exact ⟨v', rfl, hown, hbel⟩
end

section
open Go.RowKit Go.Proofs
set_option maxRecDepth 50000
set_option linter.unusedVariables false
set_option linter.unusedSimpArgs false

/-- Not too many, not too long. -/
def fewB (l : List T2) : Bool := l.all (fun q => decide (q.2.length ≤ 600)) && decide (l.length ≤ 20)

theorem few_no {l : List T2} (k : Nat) (hk : k < l.length) (h : ¬ (l[k]).2.length ≤ 600) : fewB l = false := by
  unfold fewB
  rw [Bool.and_eq_false_iff]
  refine .inl ?_
  rw [List.all_eq_false]
  exact ⟨l[k], List.getElem_mem hk, by simpa using h⟩

theorem few_yes {l : List T2} (h : ∀ k (hk : k < l.length), (l[k]).2.length ≤ 600) : fewB l = decide (l.length ≤ 20) := by
  unfold fewB
  have : l.all (fun q => decide (q.2.length ≤ 600)) = true := by
    rw [List.all_eq_true]
    intro x hx
    obtain ⟨k, hk, rfl⟩ := List.getElem_of_mem hx
    simpa using h k hk
  rw [this, Bool.true_and]

theorem ByteArray_eq (a b : List UInt8) : ((⟨a.toArray⟩ : ByteArray) == ⟨b.toArray⟩) = (a == b) := by
  show (a.toArray == b.toArray) = _
  simp

theorem equal_tlv (x y : T2) (w : World) : (Op.equalIn 10000 47 (tlvV x) (tlvV y)).run Try.prog w = .ok (x == y) w := by
  obtain ⟨a, s⟩ := x
  obtain ⟨b, u⟩ := y
  have hb := ByteArray_eq s u
  by_cases h1 : a = b
  · subst h1
    have e : ((a, s) == (a, u)) = (s == u) := by show ((a == a) && (s == u)) = _; rw [beq_self_eq_true, Bool.true_and]
    rw [e]
    by_cases h2 : s = u
    · subst h2
      rw [beq_self_eq_true]
      go_simp
    · have q2 : (s == u) = false := beq_false_of_ne h2
      rw [q2] at hb ⊢
      go_simp
  · have q : (a == b) = false := beq_false_of_ne h1
    have e : ((a, s) == (b, u)) = false := by show ((a == b) && (s == u)) = _; rw [q]; rfl
    rw [e]
    go_simp

theorem rows_same {l m : List T2} (hl : l.length = m.length) (h : ∀ k (h1 : k < l.length) (h2 : k < m.length), l[k] = m[k]) : (l == m) = true := beq_iff_eq.2 (List.ext_getElem hl h)
theorem rows_other {l m : List T2} (k : Nat) (h1 : k < l.length) (h2 : k < m.length) (h : l[k] ≠ m[k]) : (l == m) = false := beq_false_of_ne fun e => h (by subst e; rfl)

set_option maxHeartbeats 1600000 in
theorem sameTlvs_any (v v' : Value) (l m : List T2) (w : World) (hB : Tlvs w v l) (hB' : Tlvs w v' m) (hl : l.length ≤ 140737488355328) (hm : m.length ≤ 140737488355328) :
    Calls Try.prog 18 #[v, v'] w fun e w' => e = .returned (.bool (l == m)) ∧ Below w.heap.size w w' := by
  obtain ⟨p, cap, rfl, hc, -, hat⟩ := hB
  obtain ⟨p', cap', rfl, hc', -, hat'⟩ := hB'
  have HAT := hid fun (wx : World) (h : Below w.heap.size w wx) => hat.below h
  have HAT' := hid fun (wx : World) (h : Below w.heap.size w wx) => hat'.below h
  clear hat hat' hc hc'
  by_cases hlen : l.length = m.length
  · have HY := hid (@rows_same l m hlen)
    have HN := hid (@rows_other l m)
    have HM := hid hlen.symm
    rw [← hlen]
    generalize hF : (l == m) = F at *
    clear hF hlen
    go_enter Try.func18, Try.ntmps18
    go_wp2_with fail
    go_loopw [5] (fun i wr => ∃ k : Nat, k ≤ l.length ∧ i = .int .i64 k ∧ Hid (∀ j (h1 : j < l.length) (h2 : j < m.length), j < k → l[j] = m[j]) ∧ Below w.heap.size w wr) (fun i _ => l.length - (intOf i).toNat)
    case atStart => exact ⟨0, Nat.zero_le _, rfl, hid fun j _ _ h => absurd h (Nat.not_lt_zero _), Below.refl _ _⟩
    case round =>
      obtain ⟨k, hk, rfl, hA, hb⟩ := hrel
      by_cases hlt : k < l.length
      · have hlt2 : k < m.length := by rw [HM.out]; exact hlt
        obtain ⟨b, off, rfl, hrow⟩ := (HAT.out _ hb).row (by omega)
        obtain ⟨b', off', rfl, hrow'⟩ := (HAT'.out _ hb).row (by omega)
        obtain ⟨c, s, hq, H1, H2⟩ := hrow.get k hlt
        obtain ⟨c', s', hq', H3, H4⟩ := hrow'.get k hlt2
        have hE := equal_tlv (c, s) (c', s')
        have HQ : Hid ((l[k] = m[k]) = ((c, s) = (c', s'))) := hid (by rw [hq, hq'])
        clear hrow hrow' hq hq'
        have hks : k + 1 ≤ l.length := hlt
        have hkI : (k : Int) < (l.length : Int) := by omega
        have hkI2 : (0 : Int) ≤ (k : Int) := by omega
        go_upto_region 6 with fail
        have hE2 := hid hE
        clear hE
        cases hs : ((c, s) == (c', s')) with
        | true =>
          have hE := hE2.out
          refine wp_region_held_drew (S := fun w' => Below wr.drew.heap.size wr.drew w') (by kernel_rfl) (Below.refl _ _) ?_
          intro hHeld
          have hbW := Below.drew (Below.refl wr.heap.size wr)
          generalize wr.drew = wd at *
          refine rtake 0 rfl (by rfl) (by kernel_rfl) (by kernel_rfl) (by kernel_rfl) (fun _ _ _ h => h) hHeld (fun wx hwx => by go_simp; try with_reducible rfl) ?_
          try simp only [Act.put, List.setIfInBounds_toArray, List.set_cons_zero, List.set_cons_succ]
          refine rtake 1 rfl (by rfl) (by kernel_rfl) (by kernel_rfl) (by kernel_rfl) (fun _ _ _ h => h) hHeld (fun wx hwx => by go_simp; try with_reducible rfl) ?_
          try simp only [Act.put, List.setIfInBounds_toArray, List.set_cons_zero, List.set_cons_succ]
          refine rtake 2 rfl (by rfl) (by kernel_rfl) (by kernel_rfl) (by kernel_rfl) (fun _ _ _ h => h) hHeld (fun wx hwx => by go_simp; try with_reducible rfl) ?_
          try simp only [Act.put, List.setIfInBounds_toArray, List.set_cons_zero, List.set_cons_succ]
          refine rtake 3 rfl (by rfl) (by kernel_rfl) (by kernel_rfl) (by kernel_rfl) (fun _ _ _ h => h) hHeld (fun wx hwx => by have h1 := H1.out wx (bnext hbW hwx); have h2 := H2.out wx (bnext hbW hwx); go_simp; try with_reducible rfl) ?_
          try simp only [Act.put, List.setIfInBounds_toArray, List.set_cons_zero, List.set_cons_succ]
          refine rtake 4 rfl (by rfl) (by kernel_rfl) (by kernel_rfl) (by kernel_rfl) (fun _ _ _ h => h) hHeld (fun wx hwx => by go_simp; try with_reducible rfl) ?_
          try simp only [Act.put, List.setIfInBounds_toArray, List.set_cons_zero, List.set_cons_succ]
          refine rtake 5 rfl (by rfl) (by kernel_rfl) (by kernel_rfl) (by kernel_rfl) (fun _ _ _ h => h) hHeld (fun wx hwx => by go_simp; try with_reducible rfl) ?_
          try simp only [Act.put, List.setIfInBounds_toArray, List.set_cons_zero, List.set_cons_succ]
          refine rtake 6 rfl (by rfl) (by kernel_rfl) (by kernel_rfl) (by kernel_rfl) (fun _ _ _ h => h) hHeld (fun wx hwx => by go_simp; try with_reducible rfl) ?_
          try simp only [Act.put, List.setIfInBounds_toArray, List.set_cons_zero, List.set_cons_succ]
          refine rtake 7 rfl (by rfl) (by kernel_rfl) (by kernel_rfl) (by kernel_rfl) (fun _ _ _ h => h) hHeld (fun wx hwx => by have h1 := H3.out wx (bnext hbW hwx); have h2 := H4.out wx (bnext hbW hwx); go_simp; try with_reducible rfl) ?_
          try simp only [Act.put, List.setIfInBounds_toArray, List.set_cons_zero, List.set_cons_succ]
          refine rtake 8 rfl (by rfl) (by kernel_rfl) (by kernel_rfl) (by kernel_rfl) (fun _ _ _ h => h) hHeld (fun wx hwx => by have hx := hE wx; rw [hs] at hx; go_simp; try with_reducible rfl) ?_
          try simp only [Act.put, List.setIfInBounds_toArray, List.set_cons_zero, List.set_cons_succ]
          refine wpAnyH_done (by kernel_rfl) ?_ _
          clear hE
          go_wp2_with fail
          go_roundw
          case rel =>
            refine ⟨k + 1, hks, by go_num, hid fun j h1 h2 h => ?_, bnext hb hbW⟩
            by_cases hjk : j = k
            · subst hjk
              rw [HQ.out]
              exact beq_iff_eq.1 hs
            · exact hA.out j h1 h2 (by omega)
          case measure => simp [intOf]; omega
        | false =>
          have hE := hE2.out
          refine wp_region_held_drew (S := fun w' => Below wr.drew.heap.size wr.drew w') (by kernel_rfl) (Below.refl _ _) ?_
          intro hHeld
          have hbW := Below.drew (Below.refl wr.heap.size wr)
          generalize wr.drew = wd at *
          refine rtake 0 rfl (by rfl) (by kernel_rfl) (by kernel_rfl) (by kernel_rfl) (fun _ _ _ h => h) hHeld (fun wx hwx => by go_simp; try with_reducible rfl) ?_
          try simp only [Act.put, List.setIfInBounds_toArray, List.set_cons_zero, List.set_cons_succ]
          refine rtake 1 rfl (by rfl) (by kernel_rfl) (by kernel_rfl) (by kernel_rfl) (fun _ _ _ h => h) hHeld (fun wx hwx => by go_simp; try with_reducible rfl) ?_
          try simp only [Act.put, List.setIfInBounds_toArray, List.set_cons_zero, List.set_cons_succ]
          refine rtake 2 rfl (by rfl) (by kernel_rfl) (by kernel_rfl) (by kernel_rfl) (fun _ _ _ h => h) hHeld (fun wx hwx => by go_simp; try with_reducible rfl) ?_
          try simp only [Act.put, List.setIfInBounds_toArray, List.set_cons_zero, List.set_cons_succ]
          refine rtake 3 rfl (by rfl) (by kernel_rfl) (by kernel_rfl) (by kernel_rfl) (fun _ _ _ h => h) hHeld (fun wx hwx => by have h1 := H1.out wx (bnext hbW hwx); have h2 := H2.out wx (bnext hbW hwx); go_simp; try with_reducible rfl) ?_
          try simp only [Act.put, List.setIfInBounds_toArray, List.set_cons_zero, List.set_cons_succ]
          refine rtake 4 rfl (by rfl) (by kernel_rfl) (by kernel_rfl) (by kernel_rfl) (fun _ _ _ h => h) hHeld (fun wx hwx => by go_simp; try with_reducible rfl) ?_
          try simp only [Act.put, List.setIfInBounds_toArray, List.set_cons_zero, List.set_cons_succ]
          refine rtake 5 rfl (by rfl) (by kernel_rfl) (by kernel_rfl) (by kernel_rfl) (fun _ _ _ h => h) hHeld (fun wx hwx => by go_simp; try with_reducible rfl) ?_
          try simp only [Act.put, List.setIfInBounds_toArray, List.set_cons_zero, List.set_cons_succ]
          refine rtake 6 rfl (by rfl) (by kernel_rfl) (by kernel_rfl) (by kernel_rfl) (fun _ _ _ h => h) hHeld (fun wx hwx => by go_simp; try with_reducible rfl) ?_
          try simp only [Act.put, List.setIfInBounds_toArray, List.set_cons_zero, List.set_cons_succ]
          refine rtake 7 rfl (by rfl) (by kernel_rfl) (by kernel_rfl) (by kernel_rfl) (fun _ _ _ h => h) hHeld (fun wx hwx => by have h1 := H3.out wx (bnext hbW hwx); have h2 := H4.out wx (bnext hbW hwx); go_simp; try with_reducible rfl) ?_
          try simp only [Act.put, List.setIfInBounds_toArray, List.set_cons_zero, List.set_cons_succ]
          refine rtake 8 rfl (by rfl) (by kernel_rfl) (by kernel_rfl) (by kernel_rfl) (fun _ _ _ h => h) hHeld (fun wx hwx => by have hx := hE wx; rw [hs] at hx; go_simp; try with_reducible rfl) ?_
          try simp only [Act.put, List.setIfInBounds_toArray, List.set_cons_zero, List.set_cons_succ]
          refine wpAnyH_done (by kernel_rfl) ?_ _
          clear hE
          go_wp2_with fail
          go_ret
          exact ⟨by rw [HN.out k hlt hlt2 (by rw [ne_eq, HQ.out]; intro e; rw [e] at hs; simp at hs)]; rfl, bnext hb hbW⟩
      · go_wp2_with fail
        go_ret
        exact ⟨by rw [HY.out fun j h1 h2 => hA.out j h1 h2 (by omega)]; rfl, hb⟩
  · have hf : (l == m) = false := beq_false_of_ne fun e => hlen (by rw [e])
    have hi : ((l.length : Int) == (m.length : Int)) = false := beq_false_of_ne (by omega)
    rw [hf]
    clear hf
    go_enter Try.func18, Try.ntmps18
    go_wp2_with fail
    go_ret
    exact ⟨rfl, Below.refl _ _⟩
end

section
open Go.RowKit Go.Proofs
set_option maxRecDepth 50000
set_option linter.unusedVariables false
set_option linter.unusedSimpArgs false

theorem info_tlv : (Try.prog.info? 47).map (·.size) = some 2 := by kernel_rfl

/-- A TLV's cells. -/
abbrev tL (q : T2) : List Value := [.int .i64 q.1, sv q.2]

theorem Box.rowT {w : World} {g : Nat} {xs : List Value} {t : TypeId} (h : Box w g xs t) (ys : List Value) : Box (w.setRow g ys.toArray) g ys t := by
  unfold Box at h ⊢
  rw [setRow_heap w g _ _ t _ h]

theorem Box.rangeT {w : World} {g : Nat} {xs : List Value} {t : TypeId} (h : Box w g xs t) : w.rangeAt g 0 xs := fun j v hj => by rw [Nat.zero_add]; exact h.cell j v hj

/-- 'store' of a TLV as one operation of a plain region. -/
theorem wpList_store_tlv {ops : Array Oper} {rest : List Oper} {op : Oper} {a : Act} {w : World} {Q : Exit → Act → World → Prop} (hgd : op.guard = none) (x y : Operand) (ho : op.op = .store 47 x y)
    (g : Nat) (q : T2) (old : List Value) (t : TypeId) (hx : a.eval x = .pointer (some ⟨g, 0, none⟩)) (hy : a.eval y = tlvV q) (hB : Box w g old t) (hol : old.length = 2)
    (h : wpList Try.prog ops Q rest (a.put op.dst undef) (w.setRow g (tL q).toArray)) : wpList Try.prog ops Q (op :: rest) a w :=
  wpList_store_row hgd _ x y ho g (tL q).toArray hx hy t old.toArray hB (by rw [info_tlv]; rfl) (by simp [hol]) (all_oneCell_toArray (by intro v hv; simp only [List.mem_cons, List.not_mem_nil, or_false] at hv; rcases hv with rfl | rfl <;> rfl)) h

theorem results_tlv_two {fn : Func} {p u : Tmp} (h : fn.results = #[.cell p 47, .tmp u]) (tmps : Array Value) (w : World) (g : Nat) (t : TypeId) (q : T2)
    (hp : tmps.getD p undef = .pointer (some ⟨g, 0, none⟩)) (hB : Box w g (tL q) t) :
    (results fn tmps).run Try.prog w = .ok (.tuple #[tlvV q, tmps.getD u undef]) w := by
  have hp' : tmps[p]?.getD undef = .pointer (some ⟨g, 0, none⟩) := by simpa using hp
  simp [results, h, hp', asAddr, Sem.run_bind, run_loadVar_row w g t 47 (tL q).toArray (0, 0) _ hB Try.underlying47 rfl (by rw [info_tlv]; rfl)]

theorem OwnT.below {w w' : World} {base : Nat} {v : Value} {l : List T2} (h : OwnT w base v l) (hb : Below w.heap.size w w') : OwnT w' base v l := by
  obtain ⟨h1, h2⟩ := h
  refine ⟨h1, ?_⟩
  rcases h2 with h2 | ⟨g, cap, cur, hv, hg, hh, r⟩
  · exact .inl h2
  · exact .inr ⟨g, cap, cur, hv, hg, by rw [hb.block g (Array.getElem?_eq_some_iff.1 hh).1]; exact hh, r⟩

/-- A new row of one TLV. -/
theorem tlvs_lit (w : World) (q : T2) : Tlvs (w.alloc (Obj.cells #[.int .i64 q.1, sv q.2] 47)) (.slice (some ⟨w.heap.size, 0, none⟩) 1 1) [q] := by
  have hB := Box.new w [.int .i64 q.1, sv q.2] 47
  exact ⟨some ⟨w.heap.size, 0, none⟩, 1, rfl, by simp, by unfold maxLen; omega, .inr ⟨w.heap.size, 0, rfl, hB.lt, fun j v hj => by rw [Nat.zero_add]; exact hB.cell j v hj⟩⟩
end

section
open Go.RowKit Go.Proofs
set_option maxRecDepth 50000
set_option linter.unusedVariables false
set_option linter.unusedSimpArgs false

/-- Whether a TLV may be. -/
def checkT (q : T2) : Bool := decide (0 ≤ q.1) && (decide (q.1 ≤ 65535) && (decide (q.2.length % 2 = 0) && decide (q.2.length ≤ 400)))

theorem box_tlv (w : World) (q : T2) : ∃ W, W = w.alloc (Obj.cells #[.int .i64 q.1, sv q.2] 47) ∧ Below w.heap.size w W ∧
    Hid (∀ wx, Below W.heap.size W wx → wx.cell? ⟨w.heap.size, 0, none⟩ = some (.int .i64 q.1)) ∧ Hid (∀ wx, Below W.heap.size W wx → wx.cell? ⟨w.heap.size, 1, none⟩ = some (sv q.2)) := by
  refine ⟨_, rfl, bnew _ _, hid fun wx h => ?_, hid fun wx h => ?_⟩
  · exact ((Box.new w [.int .i64 q.1, sv q.2] _).below h).cell 0 _ rfl
  · exact ((Box.new w [.int .i64 q.1, sv q.2] _).below h).cell 1 _ rfl

theorem even_tmod (n : Nat) : (n : Int).tmod 2 = ((n % 2 : Nat) : Int) := by
  rw [Int.tmod_eq_emod_of_nonneg (by omega)]; omega

set_option maxHeartbeats 800000 in
theorem refCheckT_any (c : Int) (s : List UInt8) (w : World) (hs : s.length ≤ 9223372036854775807) :
    Calls Try.prog 44 #[tlvV (c, s)] w fun e w' => e = .returned (.bool (checkT (c, s))) ∧ Below w.heap.size w w' := by
  have HC : Hid (checkT (c, s) = (decide (0 ≤ c) && (decide (c ≤ 65535) && (decide (s.length % 2 = 0) && decide (s.length ≤ 400))))) := hid rfl
  generalize checkT (c, s) = F at *
  have he := even_tmod s.length
  by_cases h0 : 0 ≤ c
  · by_cases h1 : c ≤ 65535
    · by_cases h2 : s.length % 2 = 0
      · rw [h2] at he
        have h2I : ((s.length : Int) % 2 == 0) = true := by rw [beq_iff_eq]; omega
        by_cases h3 : s.length ≤ 400
        · go_enter Try.func44, Try.ntmps44
          go_wp2_with fail
          go_ret
          exact ⟨by rw [HC.out]; simp [h0, h1, h2, h3]; try omega, bnew _ _⟩
        · go_enter Try.func44, Try.ntmps44
          go_wp2_with fail
          go_ret
          exact ⟨by rw [HC.out]; simp [h0, h1, h2, h3]; try omega, bnew _ _⟩
      · have h2' : s.length % 2 = 1 := by omega
        rw [h2'] at he
        have h2I : ((s.length : Int) % 2 == 0) = false := by rw [beq_eq_false_iff_ne]; omega
        go_enter Try.func44, Try.ntmps44
        go_wp2_with fail
        go_ret
        exact ⟨by rw [HC.out]; simp [h0, h1, h2], bnew _ _⟩
    · go_enter Try.func44, Try.ntmps44
      go_wp2_with fail
      go_ret
      exact ⟨by rw [HC.out, decide_eq_false (show ¬ c ≤ 65535 by omega)]; simp, bnew _ _⟩
  · go_enter Try.func44, Try.ntmps44
    go_wp2_with fail
    go_ret
    exact ⟨by rw [HC.out, decide_eq_false (show ¬ 0 ≤ c by omega)]; simp, bnew _ _⟩
end

section
open Go.RowKit Go.Proofs
set_option maxRecDepth 50000
set_option linter.unusedVariables false
set_option linter.unusedSimpArgs false

/-- Whether a TLV is as api's of its type. -/
def knownT (q : T2) : Bool :=
  if q.1 = 1 then decide (2 ≤ q.2.length) else if q.1 = 6 ∨ q.1 = 7 then decide (q.2.length = 2) else if q.1 = 2 then decide (8 ≤ q.2.length) else if q.1 = 3 then decide (6 ≤ q.2.length)
  else if q.1 = 4 then decide (q.2.length = 6) else if q.1 = 5 then decide (q.2.length = 8) else if q.1 = 8 then decide (q.2.length % 8 = 0 ∧ q.2.length ≤ 128)
  else if q.1 = 9 then decide (16 ≤ q.2.length) else decide (q.1 = 32776)

theorem tmod8 (n : Nat) : (n : Int).tmod 8 = ((n % 8 : Nat) : Int) := by
  rw [Int.tmod_eq_emod_of_nonneg (by omega)]; omega

end

section
open Go.RowKit Go.Proofs
set_option maxRecDepth 50000
set_option linter.unusedVariables false
set_option linter.unusedSimpArgs false

/-- The first TLV of a type, and whether there is one. -/
def findT (l : List T2) (t : Int) : T2 × Bool :=
  match l.find? (fun q => q.1 == t) with
  | some q => (q, true)
  | none => ((0, []), false)

theorem findT_yes {l : List T2} {t : Int} (k : Nat) (hk : k < l.length) (h : ∀ j (hj : j < l.length), j < k → (l[j]).1 ≠ t) (he : (l[k]).1 = t) : findT l t = (l[k], true) := by
  have : l.find? (fun q => q.1 == t) = some l[k] := by
    rw [List.find?_eq_some_iff_getElem]
    refine ⟨by simpa using he, k, hk, rfl, fun j hj => ?_⟩
    simpa using h j (by omega) hj
  unfold findT
  rw [this]

theorem findT_no {l : List T2} {t : Int} (h : ∀ j (hj : j < l.length), (l[j]).1 ≠ t) : findT l t = ((0, []), false) := by
  have : l.find? (fun q => q.1 == t) = none := by
    rw [List.find?_eq_none]
    intro x hx
    obtain ⟨k, hk, rfl⟩ := List.getElem_of_mem hx
    simpa using h k hk
  unfold findT
  rw [this]

end

section
open Go.RowKit Go.Proofs
set_option maxRecDepth 50000
set_option linter.unusedVariables false
set_option linter.unusedSimpArgs false

/-- The TLVs that bytes say from a place on, at most k more. -/
def getF (b : List UInt8) : Nat → Nat → List T2 → List T2 × Int
  | 0, A, acc => if A < b.length then ([], 7) else (acc, 0)
  | k + 1, A, acc =>
    if A < b.length then
      if b.length < A + 4 then ([], 2)
      else if b.length < A + 4 + numAt b (A + 2) 2 then ([], 2)
      else if numAt b (A + 2) 2 % 2 = 0 then getF b k (A + 4 + numAt b (A + 2) 2) (acc ++ [(((numAt b A 2 : Nat) : Int), (b.drop (A + 4)).take (numAt b (A + 2) 2))])
      else ([], 4)
    else (acc, 0)

def getT (b : List UInt8) (at' : Int) : List T2 × Int := if 0 ≤ at' ∧ at' ≤ b.length then getF b 8 at'.toNat [] else ([], 1)

theorem getF_end {b : List UInt8} {k A : Nat} {acc : List T2} (h : b.length ≤ A) : getF b k A acc = (acc, 0) := by
  cases k <;> simp only [getF, if_neg (show ¬ A < b.length by omega)]
theorem getF_full {b : List UInt8} {A : Nat} {acc : List T2} (h : A < b.length) : getF b 0 A acc = ([], 7) := by
  simp only [getF, if_pos h]
theorem getF_short {b : List UInt8} {k A : Nat} {acc : List T2} (h : A < b.length) (h1 : b.length < A + 4) : getF b (k + 1) A acc = ([], 2) := by
  simp only [getF, if_pos h, if_pos h1]
theorem getF_long {b : List UInt8} {k A : Nat} {acc : List T2} (h : A < b.length) (h1 : ¬ b.length < A + 4) (h2 : b.length < A + 4 + numAt b (A + 2) 2) : getF b (k + 1) A acc = ([], 2) := by
  simp only [getF, if_pos h, if_neg h1, if_pos h2]
theorem getF_odd {b : List UInt8} {k A : Nat} {acc : List T2} (h : A < b.length) (h1 : ¬ b.length < A + 4) (h2 : ¬ b.length < A + 4 + numAt b (A + 2) 2) (h3 : ¬ numAt b (A + 2) 2 % 2 = 0) : getF b (k + 1) A acc = ([], 4) := by
  simp only [getF, if_pos h, if_neg h1, if_neg h2, if_neg h3]
theorem getF_more {b : List UInt8} {k A : Nat} {acc : List T2} (h : A < b.length) (h1 : ¬ b.length < A + 4) (h2 : ¬ b.length < A + 4 + numAt b (A + 2) 2) (h3 : numAt b (A + 2) 2 % 2 = 0) :
    getF b (k + 1) A acc = getF b k (A + 4 + numAt b (A + 2) 2) (acc ++ [(((numAt b A 2 : Nat) : Int), (b.drop (A + 4)).take (numAt b (A + 2) 2))]) := by
  simp only [getF, if_pos h, if_neg h1, if_neg h2, if_pos h3]

set_option maxRecDepth 100000 in
set_option maxHeartbeats 4000000 in
theorem refGetT_any (v : Value) (l : List UInt8) (at' : Int) (w : World) (hB : Bytes w v l) (hl : l.length ≤ 140737488355328) (ha : -9223372036854775808 ≤ at' ∧ at' ≤ 9223372036854775807) :
    Calls Try.prog 33 #[v, .int .i64 at'] w fun e w' => ∃ v', e = .returned (.tuple #[v', .int .i64 (getT l at').2]) ∧ OwnT w' w.heap.size v' (getT l at').1 ∧ Below w.heap.size w w' := by
  have HB := hid fun (w' : World) (h : Below w.heap.size w w') => hB.below h
  obtain ⟨p, cap, rfl, hcap, hmax, hat⟩ := hB
  have HC := hid hcap
  have HX := hid hmax
  clear hat hcap hmax
  by_cases h0 : 0 ≤ at'
  · by_cases h1 : at' ≤ l.length
    · obtain ⟨A0, rfl⟩ := Int.eq_ofNat_of_zero_le h0
      have HF : Hid (getT l A0 = getF l 8 A0 []) := hid (by unfold getT; rw [if_pos ⟨h0, h1⟩]; rfl)
      have hA0 : A0 ≤ l.length := by omega
      generalize getT l A0 = F at *
      go_enter Try.func33, Try.ntmps33
      go_wp2_with fail
      simp only [show decide (l.length < A0) = false from decide_eq_false (by omega), show decide ((A0 : Int) < 0) = false from decide_eq_false (by omega), Bool.or_self]
      go_loopw [1, 6] (fun ia vl wr => ∃ (A : Nat) (acc : List T2), A ≤ l.length ∧ ia = .int .i64 A ∧ acc.length ≤ 8 ∧ OwnT wr w.heap.size vl acc ∧ Below w.heap.size w wr ∧ Hid (F = getF l (8 - acc.length) A acc)) (fun ia _ _ => l.length - (intOf ia).toNat)
      case atStart => exact ⟨A0, [], hA0, rfl, Nat.zero_le _, OwnT.nil _ _, Below.refl _ _, HF⟩
      case round =>
        obtain ⟨A, acc, hA, rfl, hacc, hown, hb, hG⟩ := hrel
        by_cases hlt : A < l.length
        · obtain ⟨pv, cv, rfl, -, -, -⟩ := id hown.tlvs
          by_cases hfull : acc.length = 8
          · have HE := hid (hG.out.trans (show getF l (8 - acc.length) A acc = ([], 7) by rw [hfull]; exact getF_full hlt))
            clear hG
            have hI : ((acc.length : Int) == 8) = true := by rw [hfull]; rfl
            go_wp2_with fail
            go_ret2
            exact ⟨_, by rw [HE.out]; rfl, by rw [HE.out]; exact OwnT.nil _ _, hb⟩
          · obtain ⟨m, hm⟩ : ∃ m, 8 - acc.length = m + 1 := ⟨7 - acc.length, by omega⟩
            rw [hm] at hG
            have hI : ((acc.length : Int) == 8) = false := by rw [beq_eq_false_iff_ne]; omega
            by_cases h4 : l.length < A + 4
            · have HE := hid (hG.out.trans (getF_short hlt h4))
              clear hG
              go_wp2_with fail
              go_ret2
              exact ⟨_, by rw [HE.out]; rfl, by rw [HE.out]; exact OwnT.nil _ _, hb⟩
            · go_wp2_with fail
              refine (refGet_ok _ l A 2 wr (HB.out _ hb) hl (by omega) (by decide) (by decide) (standB_true (by omega) (by decide) (by omega))).mono ?_
              rintro e w' ⟨rfl, rfl⟩
              go_wp2_with fail
              refine (refGet_ok _ l (A + 2) 2 wr (HB.out _ hb) hl (by omega) (by decide) (by decide) (standB_true (by omega) (by decide) (by omega))).mono ?_
              rintro e w' ⟨rfl, rfl⟩
              rw [show ((A : Int) + 2).toNat = A + 2 by omega, show Int.toNat 2 = 2 from rfl]
              have HT := num_at_lt l A 2 (by decide)
              have HN := num_at_lt l (A + 2) 2 (by decide)
              have HE1 := hid (@getF_long l m A acc hlt h4)
              have HE2 := hid (@getF_odd l m A acc hlt h4)
              have HE3 := hid (@getF_more l m A acc hlt h4)
              generalize hn : numAt l (A + 2) 2 = n at *
              generalize ht : numAt l A 2 = t at *
              by_cases h5 : l.length < A + 4 + n
              · have HE := hid (hG.out.trans (HE1.out h5))
                clear hG HE1 HE2 HE3
                go_wp2_with fail
                go_ret2
                exact ⟨_, by rw [HE.out]; rfl, by rw [HE.out]; exact OwnT.nil _ _, hb⟩
              · by_cases h6 : n % 2 = 0
                · have HE := hid (hG.out.trans (HE3.out h5 h6))
                  clear hG HE1 HE2 HE3
                  have hBr := HB.out _ hb
                  obtain ⟨q', c', hv, -, -, hat⟩ := hBr
                  cases hv
                  obtain ⟨b, off, rfl, hlb, hcell⟩ := hat.pos (by omega)
                  have hstr := (Bytes.cut (w := wr) (A + 4) n (cap - (A + 4)) hlb hcell (by omega) HC.out HX.out rfl).str
                  have hcc := HC.out
                  have hmx := HX.out
                  unfold maxLen at hmx
                  clear hcell hat hn ht
                  generalize hs : (l.drop (A + 4)).take n = s at *
                  have hO1 := hown.below (bnew wr (Obj.cells #[.int .i64 (t : Int), sv s] 47))
                  have hL1 := tlvs_lit wr ((t : Int), s)
                  have hB1 := bnext hb (bnew wr (Obj.cells #[.int .i64 (t : Int), sv s] 47))
                  by_cases hcz : cap = A + 4
                  · obtain rfl : n = 0 := by omega
                    subst hcz
                    obtain rfl : s = [] := by rw [← hs, List.take_zero]
                    clear hstr
                    have hS := (show Bytes wr (.slice (some ⟨b, off, none⟩) 0 0) [] from ⟨_, 0, rfl, Nat.le_refl _, Nat.zero_le _, .inl rfl⟩).str
                    go_wp2_with (at_builtin; refine wpList_append_tlvs (o := ⟨some 67, _, _, _, _, _⟩) rfl _ _ rfl rfl w.heap.size _ _ acc [((t : Int), ([] : List UInt8))] rfl rfl hO1 hL1 ?_ hB1.size ?_; (simp; omega); intro v' w' hown' hbel'; replace hB1 := hB1.trans hbel')
                    go_roundw
                    case rel => exact ⟨A + 4 + 0, acc ++ [((t : Int), ([] : List UInt8))], by omega, by go_num, by simp; omega, hown', hB1, hid (by rw [HE.out, List.length_append, List.length_singleton, show 8 - (acc.length + 1) = m by omega])⟩
                    case measure => simp [intOf]; omega
                  · have hcz2 : A + 4 < cap := by omega
                    go_wp2_with (at_builtin; refine wpList_append_tlvs (o := ⟨some 67, _, _, _, _, _⟩) rfl _ _ rfl rfl w.heap.size _ _ acc [((t : Int), s)] rfl rfl hO1 hL1 ?_ hB1.size ?_; (simp; omega); intro v' w' hown' hbel'; replace hB1 := hB1.trans hbel')
                    go_roundw
                    case rel => exact ⟨A + 4 + n, acc ++ [((t : Int), s)], by omega, by go_num, by simp; omega, hown', hB1, hid (by rw [HE.out, List.length_append, List.length_singleton, show 8 - (acc.length + 1) = m by omega])⟩
                    case measure => simp [intOf]; omega
                · have HE := hid (hG.out.trans (HE2.out h5 h6))
                  clear hG HE1 HE2 HE3
                  go_wp2_with fail
                  go_ret2
                  exact ⟨_, by rw [HE.out]; rfl, by rw [HE.out]; exact OwnT.nil _ _, hb⟩
        · have HE := hid (hG.out.trans (getF_end (by omega)))
          clear hG
          go_wp2_with fail
          go_ret2
          exact ⟨_, by rw [HE.out]; rfl, by rw [HE.out]; exact hown, hb⟩
    · have HF : Hid (getT l at' = ([], 1)) := hid (by unfold getT; rw [if_neg (by omega)])
      generalize getT l at' = F at *
      go_enter Try.func33, Try.ntmps33
      go_wp2_with fail
      go_ret2
      exact ⟨_, by rw [HF.out]; rfl, by rw [HF.out]; exact OwnT.nil _ _, Below.refl _ _⟩
  · have HF : Hid (getT l at' = ([], 1)) := hid (by unfold getT; rw [if_neg (by omega)])
    generalize getT l at' = F at *
    go_enter Try.func33, Try.ntmps33
    go_wp2_with fail
    go_ret2
    exact ⟨_, by rw [HF.out]; rfl, by rw [HF.out]; exact OwnT.nil _ _, Below.refl _ _⟩
end
end Go.Proofs.Ytohgpnlihfcecaa
