/- A table as it lies: whose it is, its window, five records, how many count; copies among rows of any elements. -/
import Derived.Test.YtdkgcggpgombaaaFor
import Derived.Test.YtdkgcggpgombaaaStr
namespace Go.Proofs.Ytdkgcggpgombaaa
open Go.RowKit Go.Proofs
set_option maxRecDepth 50000
set_option linter.unusedVariables false
set_option linter.unusedSimpArgs false

theorem recT : StrT recK 46 := ⟨⟨_, Try.underlying46, rfl⟩, by kernel_rfl⟩
theorem rec_info : (Try.prog.info? 46).map (fun i => (i.zero, i.size, i.bytes)) = some (some (.agg (rcL zeroR).toArray), recK.n, 136) := by kernel_rfl

def tabL (own port win : Int) (rs : List Rc) (n : Nat) : List Value := [.int .u64 own, .int .i64 port, .int .i64 win] ++ recK.cells rs ++ [.int .i64 (n : Int)]
theorem tabL_length {own port win : Int} {rs : List Rc} {n : Nat} (h : rs.length = 5) : (tabL own port win rs n).length = 89 := by
  unfold tabL
  rw [List.length_append, List.length_append, recK.cells_length, h]
  rfl
theorem tab_at {own port win : Int} {rs : List Rc} {n : Nat} (h : rs.length = 5) (j : Nat) (hj : j < 85) : (tabL own port win rs n)[3 + j]? = (recK.cells rs)[j]? := by
  unfold tabL
  have hc : (recK.cells rs).length = 85 := by rw [recK.cells_length, h]; rfl
  rw [List.getElem?_append_left (by simp [hc]; omega), List.getElem?_append_right (by simp)]
  congr 1
  simp
theorem tab_count {own port win : Int} {rs : List Rc} {n : Nat} (h : rs.length = 5) : (tabL own port win rs n)[88]? = some (.int .i64 (n : Int)) := by
  unfold tabL
  have hc : (recK.cells rs).length = 85 := by rw [recK.cells_length, h]; rfl
  rw [List.getElem?_append_right (by simp [hc])]
  simp [hc]
theorem tab_set {own port win : Int} {rs : List Rc} {n m : Nat} (h : rs.length = 5) : (tabL own port win rs n).set 88 (.int .i64 (m : Int)) = tabL own port win rs m := by
  unfold tabL
  have hc : (recK.cells rs).length = 85 := by rw [recK.cells_length, h]; rfl
  rw [List.set_append_right _ _ (by simp [hc])]
  simp [hc]
theorem Box.rec {w : World} {g : Nat} {t : TypeId} {own port win : Int} {rs : List Rc} {n : Nat} (hB : Box w g (tabL own port win rs n) t) (h : rs.length = 5) (i : Nat) (hi : i < 5) : w.rangeAt g (3 + i * 17) (rcL (rs[i]'(by omega))) := fun j v hj => by
  have hj17 : j < 17 := (List.getElem?_eq_some_iff.1 hj).1
  have hc := recK.cells_get rs i j (by omega) hj17
  refine hB.cell (3 + i * 17 + j) v ?_
  rw [show 3 + i * 17 + j = 3 + (i * 17 + j) by omega, tab_at h _ (by omega)]
  exact hc.trans hj
/-- Records over records: from place p on, in the middle. -/
theorem Box.recs {w : World} {g : Nat} {t : TypeId} {own port win : Int} {n : Nat} (xs ys old zs : List Rc) (hl : ys.length = old.length) (hB : Box w g (tabL own port win (xs ++ old ++ zs) n) t) :
    Box (w.setCells g (3 + xs.length * 17) (recK.cells ys)) g (tabL own port win (xs ++ ys ++ zs) n) t := by
  have e : ∀ l : List Rc, tabL own port win (xs ++ l ++ zs) n = ([.int .u64 own, .int .i64 port, .int .i64 win] ++ recK.cells xs) ++ recK.cells l ++ (recK.cells zs ++ [.int .i64 (n : Int)]) := by
    intro l
    unfold tabL
    rw [recK.cells_append, recK.cells_append]
    simp
  rw [e] at hB ⊢
  have h := Box.mid (recK.cells ys) (recK.cells old) _ _ w (by rw [recK.cells_length, recK.cells_length, hl]) hB
  rw [List.length_append, recK.cells_length] at h
  exact h
theorem Box.rec_set {w : World} {g : Nat} {t : TypeId} {own port win : Int} {rs : List Rc} {n : Nat} (hB : Box w g (tabL own port win rs n) t) (h : rs.length = 5) (i : Nat) (hi : i < 5) (r : Rc) :
    Box (w.setCells g (3 + i * 17) (rcL r)) g (tabL own port win (rs.set i r) n) t := by
  have e1 : rs = rs.take i ++ [rs[i]'(by omega)] ++ rs.drop (i + 1) := by
    rw [← take_snoc rs i (by omega), List.take_append_drop]
  have e2 : rs.set i r = rs.take i ++ [r] ++ rs.drop (i + 1) := by
    rw [List.set_eq_take_append_cons_drop, if_pos (by omega)]
    simp
  rw [e1] at hB
  have h2 := Box.recs (rs.take i) [r] [rs[i]'(by omega)] (rs.drop (i + 1)) rfl hB
  have e3 : (rs.take i).length = i := by rw [List.length_take]; omega
  have e4 : recK.cells [r] = rcL r := by simp [RowK.cells, recK]
  rw [e3, e4] at h2
  rw [e2]
  exact h2

/-- What a record tells is told by 64 bits; its times are ticks. -/
def RcIn (r : Rc) : Prop := (-9223372036854775808 ≤ r.v.st ∧ r.v.st ≤ 9223372036854775807) ∧ (-1 ≤ r.fi ∧ r.fi ≤ 1099511627776) ∧ (0 ≤ r.la ∧ r.la ≤ 1099511627776)
def TabR (xs : List Value) (t : Ft) : Prop := ∃ rs : List Rc, rs.length = 5 ∧ t.l.length ≤ 5 ∧ xs = tabL t.own t.port t.win rs t.l.length ∧ rs.take t.l.length = t.l ∧ (1 ≤ t.win ∧ t.win ≤ 1048576) ∧ ∀ r ∈ t.l, RcIn r
theorem tab_open {w : World} {g : Nat} {t : Ft} (h : FAt TabR w g t) : ∃ rs : List Rc, rs.length = 5 ∧ t.l.length ≤ 5 ∧ Box w g (tabL t.own t.port t.win rs t.l.length) 55 ∧ rs.take t.l.length = t.l ∧ (1 ≤ t.win ∧ t.win ≤ 1048576) ∧ ∀ r ∈ t.l, RcIn r := by
  obtain ⟨xs, hB, rs, h1, h2, rfl, h3, h4, h5⟩ := h
  exact ⟨rs, h1, h2, hB, h3, h4, h5⟩
theorem tab_shut {w : World} {g : Nat} {t : Ft} {rs : List Rc} (h5 : rs.length = 5) (hn : t.l.length ≤ 5) (hB : Box w g (tabL t.own t.port t.win rs t.l.length) 55) (ht : rs.take t.l.length = t.l) (hw : 1 ≤ t.win ∧ t.win ≤ 1048576) (hin : ∀ r ∈ t.l, RcIn r) : FAt TabR w g t :=
  ⟨_, hB, rs, h5, hn, rfl, ht, hw, hin⟩
theorem take_at {α : Type} {rs l : List α} {n : Nat} (h : rs.take n = l) (i : Nat) (hi : i < l.length) (hr : i < rs.length) : rs[i] = l[i] := by
  subst h
  rw [List.getElem_take]

theorem drawnN_below {B : Nat} {w w1 : World} (h : Below B w w1) (n : Nat) : Below B w (w1.drewN n) := h.trans ⟨rfl, rfl, rfl, Nat.le_refl _, fun _ _ => rfl⟩
theorem drewN_below (w : World) (n : Nat) : Below w.heap.size w (w.drewN n) := ⟨rfl, rfl, rfl, Nat.le_refl _, fun _ _ => rfl⟩

/-- 'copy(dst, src)' of elements of any number of cells, into the middle of a block: all is read before anything is written. -/
theorem RowK.run_copy {α : Type} {K : RowK α} (w : World) (dT sT ty elem : TypeId) (b o dLen dCap : Nat) (a : Addr) (sLen sCap : Nat) (l : List α)
    (hu : Try.prog.underlying dT = some (.slice elem)) (hs : (Try.prog.info? elem).map (·.size) = some K.n) (hn : l.length = Nat.min sLen dLen)
    (hsrc : ∀ j v, (K.cells l)[j]? = some v → w.cell? (a.add j) = some v) (hc : w.there b o (K.cells l).length) :
    (Builtin.copy_ #[dT, sT] ty #[.slice (some ⟨b, o, none⟩) dLen dCap, .slice (some a) sLen sCap]).run Try.prog w = .ok (goInt l.length) (w.setCells b o (K.cells l)) := by
  have hl := run_loadCells_list (P := Try.prog) w a (K.cells l) hsrc
  have hst := run_storeCells_cells (P := Try.prog) b o (K.cells l) 0 w (fun j hj => by simpa using (hc j hj).1) (fun j hj => by simpa using (hc j hj).2) (K.cells_one l)
  rw [K.cells_length] at hl
  cases hq : Try.prog.info? elem with
  | none => simp [hq] at hs
  | some i =>
    have hi : i.size = K.n := by simpa [hq] using hs
    simp [Builtin.copy_, run_underlying hu, Builtin.lenOf, Builtin.firstCells, sizeOf, typeInfo, hq, hi, ← hn, hl, hst]
theorem RowK.op_copy {α : Type} {K : RowK α} {op : Oper} {a : Act} {w : World} {K' : Act → World → Prop} {Q : Exit → Act → World → Prop} (d s : Operand) (dT sT elem : TypeId)
    (ho : op.op = .call { callee := .builtin .copy, args := #[d, s], argTypes := #[dT, sT] })
    (b o dLen dCap : Nat) (ad : Addr) (sLen sCap : Nat) (l : List α) (hd : a.eval d = .slice (some ⟨b, o, none⟩) dLen dCap) (hsv : a.eval s = .slice (some ad) sLen sCap)
    (hu : Try.prog.underlying dT = some (.slice elem)) (hs : (Try.prog.info? elem).map (·.size) = some K.n) (hn : l.length = Nat.min sLen dLen)
    (hsrc : ∀ j v, (K.cells l)[j]? = some v → w.cell? (ad.add j) = some v) (hc : w.there b o (K.cells l).length)
    (h : K' (a.put op.dst (goInt l.length)) (w.setCells b o (K.cells l))) : op.wp Try.prog a w K' Q := by
  have hrun := K.run_copy w dT sT op.type elem b o dLen dCap ad sLen sCap l hu hs hn hsrc hc
  unfold Oper.wp
  simp [execOp, ho, resolve, invoke, builtin, hd, hsv, hrun, Result.andThen]
  exact h

/-! What a table says of a sender. -/
/-- The place of a sender's record, or the one behind all. -/
def findN (c p : Int) : List Rc → Nat
  | [] => 0
  | r :: rs => if r.v.sc = c ∧ r.v.sp = p then 0 else findN c p rs + 1
theorem findN_le (c p : Int) : ∀ l : List Rc, findN c p l ≤ l.length
  | [] => Nat.le_refl _
  | r :: rs => by
    have := findN_le c p rs
    unfold findN
    split
    · exact Nat.zero_le _
    · rw [List.length_cons]; omega
theorem findN_is (c p : Int) : ∀ (l : List Rc) (i : Nat) (hi : i < l.length), (∀ j (hj : j < i), ¬ ((l[j]'(by omega)).v.sc = c ∧ (l[j]'(by omega)).v.sp = p)) → (l[i].v.sc = c ∧ l[i].v.sp = p) → findN c p l = i
  | r :: rs, 0, hi, _, h => by
    have h' : r.v.sc = c ∧ r.v.sp = p := h
    unfold findN
    rw [if_pos h']
  | r :: rs, i + 1, hi, hn, h => by
    have h' : ¬ (r.v.sc = c ∧ r.v.sp = p) := hn 0 (by omega)
    unfold findN
    rw [if_neg h', findN_is c p rs i (by simpa using hi) (fun j hj => hn (j + 1) (by omega)) h]
theorem findN_none (c p : Int) : ∀ (l : List Rc), (∀ j (hj : j < l.length), ¬ (l[j].v.sc = c ∧ l[j].v.sp = p)) → findN c p l = l.length
  | [], _ => rfl
  | r :: rs, hn => by
    have h' : ¬ (r.v.sc = c ∧ r.v.sp = p) := hn 0 (by simp)
    unfold findN
    rw [if_neg h', findN_none c p rs (fun j hj => hn (j + 1) (by simpa using hj))]
    rfl
theorem putF_there (t : Ft) (h : Hd) (d : Bd) (now : Int) : ∀ (l : List Rc) (m : Nat) (hi : findN h.sc h.sp l < l.length),
    putF t h d now l m = if oldR l[findN h.sc h.sp l] h.sq now then (l, 9) else (l.set (findN h.sc h.sp l) (recF t h d l[findN h.sc h.sp l].la now), 0)
  | [], m, hi => by simp at hi
  | r :: rs, m, hi => by
    by_cases hr : r.v.sc = h.sc ∧ r.v.sp = h.sp
    · have e : findN h.sc h.sp (r :: rs) = 0 := by unfold findN; rw [if_pos hr]
      unfold putF
      rw [if_pos hr]
      simp only [e, List.getElem_cons_zero, List.set_cons_zero]
    · have e : findN h.sc h.sp (r :: rs) = findN h.sc h.sp rs + 1 := by rw [findN, if_neg hr]
      have hi2 : findN h.sc h.sp rs < rs.length := by rw [e] at hi; simpa using hi
      unfold putF
      rw [if_neg hr, putF_there t h d now rs (m + 1) hi2]
      simp only [e, List.getElem_cons_succ, List.set_cons_succ]
      split <;> rfl
theorem putF_not (t : Ft) (h : Hd) (d : Bd) (now : Int) : ∀ (l : List Rc) (m : Nat), findN h.sc h.sp l = l.length →
    putF t h d now l m = if 5 ≤ m + l.length then (l, 7) else (l ++ [recF t h d (-1) now], 0)
  | [], m, _ => rfl
  | r :: rs, m, hi => by
    have hr : ¬ (r.v.sc = h.sc ∧ r.v.sp = h.sp) := by
      intro hr
      rw [findN, if_pos hr] at hi
      simp at hi
    rw [findN, if_neg hr] at hi
    unfold putF
    rw [if_neg hr, putF_not t h d now rs (m + 1) (by simpa using hi), List.length_cons, show m + 1 + rs.length = m + (rs.length + 1) by omega]
    split <;> rfl
theorem take_set {α : Type} {rs l : List α} (h : rs.take l.length = l) (i : Nat) (hi : i < l.length) (r : α) : (rs.set i r).take (l.set i r).length = l.set i r := by
  rw [List.length_set, List.take_set, h]
theorem take_more {α : Type} {rs l : List α} (h : rs.take l.length = l) (hl : l.length < rs.length) (r : α) : (rs.set l.length r).take (l ++ [r]).length = l ++ [r] := by
  rw [List.length_append, List.length_singleton, List.take_succ_eq_append_getElem (by rw [List.length_set]; exact hl), List.getElem_set_self, List.take_set_of_le (Nat.le_refl _), h]
/-- Five records, one of those that count is taken away, the ones behind it close up. -/
theorem take_gone {α : Type} {rs l : List α} (h5 : rs.length = 5) (h : rs.take l.length = l) (p : Nat) (hp : p < l.length) (hl : l.length ≤ 5) (z : α) :
    ((rs.take p ++ rs.drop (p + 1) ++ rs.drop 4).set (l.length - 1) z).take (l.length - 1) = l.eraseIdx p := by
  rw [List.take_set_of_le (Nat.le_refl _)]
  obtain ⟨n, hn⟩ : ∃ n, l.length = n := ⟨_, rfl⟩
  rw [hn] at h hp hl ⊢
  subst h
  match rs, h5 with
  | [a, b, c, d, e], _ =>
    clear hn
    have hn : n = 0 ∨ n = 1 ∨ n = 2 ∨ n = 3 ∨ n = 4 ∨ n = 5 := by omega
    have hp5 : p = 0 ∨ p = 1 ∨ p = 2 ∨ p = 3 ∨ p = 4 := by omega
    rcases hn with rfl | rfl | rfl | rfl | rfl | rfl <;> rcases hp5 with rfl | rfl | rfl | rfl | rfl <;> first | rfl | (exfalso; omega)
theorem within_of {W th now : Int} (h0 : 0 ≤ th) (hW : 1 ≤ W) : withinB W th now = decide (now < th + W) := by
  unfold withinB
  rw [decide_eq_decide]
  omega
theorem ageT_step {l : List Rc} {f : Rc → Bool} (j : Nat) (hj : j < l.length) :
    (f l[j] = true → l.take (j + 1) ++ (l.drop (j + 1)).filter f = l.take j ++ (l.drop j).filter f) ∧
    (f l[j] = false → (l.take (j + 1) ++ (l.drop (j + 1)).filter f).eraseIdx j = l.take j ++ (l.drop j).filter f) := by
  have e : l.drop j = l[j] :: l.drop (j + 1) := List.drop_eq_getElem_cons hj
  constructor
  · intro h
    rw [e, List.filter_cons_of_pos h, take_snoc l j hj, List.append_assoc]
    rfl
  · intro h
    rw [e, List.filter_cons_of_neg (by simp [h]), take_snoc l j hj]
    have e2 : (l.take j).length = j := by rw [List.length_take]; omega
    rw [List.append_assoc, List.eraseIdx_append_of_length_le (by omega), e2, Nat.sub_self]
    rfl
end Go.Proofs.Ytdkgcggpgombaaa
