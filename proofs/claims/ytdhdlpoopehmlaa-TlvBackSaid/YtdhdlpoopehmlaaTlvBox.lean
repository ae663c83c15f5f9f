/- A TLV in a box: stored whole, loaded whole, a result. -/
import Derived.Test.YtdhdlpoopehmlaaTlv
import Derived.Test.YtdhdlpoopehmlaaPerm
namespace Go.Proofs.Ytdhdlpoopehmlaa
open Go.RowKit Go.Proofs
set_option linter.unusedVariables false
set_option linter.unusedSimpArgs false

theorem info_tlv : (Try.prog.info? 32).map (·.size) = some 2 := by kernel_rfl

/-- A TLV's cells. -/
abbrev tL (q : T2) : List Value := [.int .i64 q.1, sv q.2]

theorem Box.rowT {w : World} {g : Nat} {xs : List Value} {t : TypeId} (h : Box w g xs t) (ys : List Value) : Box (w.setRow g ys.toArray) g ys t := by
  unfold Box at h ⊢
  rw [setRow_heap w g _ _ t _ h]

theorem Box.rangeT {w : World} {g : Nat} {xs : List Value} {t : TypeId} (h : Box w g xs t) : w.rangeAt g 0 xs := fun j v hj => by rw [Nat.zero_add]; exact h.cell j v hj

/-- 'store' of a TLV as one operation of a plain region. -/
theorem wpList_store_tlv {ops : Array Oper} {rest : List Oper} {op : Oper} {a : Act} {w : World} {Q : Exit → Act → World → Prop} (hgd : op.guard = none) (x y : Operand) (ho : op.op = .store 32 x y)
    (g : Nat) (q : T2) (old : List Value) (t : TypeId) (hx : a.eval x = .pointer (some ⟨g, 0, none⟩)) (hy : a.eval y = tlvV q) (hB : Box w g old t) (hol : old.length = 2)
    (h : wpList Try.prog ops Q rest (a.put op.dst undef) (w.setRow g (tL q).toArray)) : wpList Try.prog ops Q (op :: rest) a w :=
  wpList_store_row hgd _ x y ho g (tL q).toArray hx hy t old.toArray hB (by rw [info_tlv]; rfl) (by simp [hol]) (all_oneCell_toArray (by intro v hv; simp only [List.mem_cons, List.not_mem_nil, or_false] at hv; rcases hv with rfl | rfl <;> rfl)) h

theorem results_tlv_two {fn : Func} {p u : Tmp} (h : fn.results = #[.cell p 32, .tmp u]) (tmps : Array Value) (w : World) (g : Nat) (t : TypeId) (q : T2)
    (hp : tmps.getD p undef = .pointer (some ⟨g, 0, none⟩)) (hB : Box w g (tL q) t) :
    (results fn tmps).run Try.prog w = .ok (.tuple #[tlvV q, tmps.getD u undef]) w := by
  have hp' : tmps[p]?.getD undef = .pointer (some ⟨g, 0, none⟩) := by simpa using hp
  simp [results, h, hp', asAddr, Sem.run_bind, run_loadVar_row w g t 32 (tL q).toArray (0, 0) _ hB Try.underlying32 rfl (by rw [info_tlv]; rfl)]

theorem OwnT.below {w w' : World} {base : Nat} {v : Value} {l : List T2} (h : OwnT w base v l) (hb : Below w.heap.size w w') : OwnT w' base v l := by
  obtain ⟨h1, h2⟩ := h
  refine ⟨h1, ?_⟩
  rcases h2 with h2 | ⟨g, cap, cur, hv, hg, hh, r⟩
  · exact .inl h2
  · exact .inr ⟨g, cap, cur, hv, hg, by rw [hb.block g (Array.getElem?_eq_some_iff.1 hh).1]; exact hh, r⟩

/-- A new row of one TLV. -/
theorem tlvs_lit (w : World) (q : T2) : Tlvs (w.alloc (Obj.cells #[.int .i64 q.1, sv q.2] 32)) (.slice (some ⟨w.heap.size, 0, none⟩) 1 1) [q] := by
  have hB := Box.new w [.int .i64 q.1, sv q.2] 32
  exact ⟨some ⟨w.heap.size, 0, none⟩, 1, rfl, by simp, by unfold maxLen; omega, .inr ⟨w.heap.size, 0, rfl, hB.lt, fun j v hj => by rw [Nat.zero_add]; exact hB.cell j v hj⟩⟩
end Go.Proofs.Ytdhdlpoopehmlaa
