/- '[]byte(s)' of a string that is no constant. -/
import Derived.Test.YtgjffmhlehcoiaaLib
import Derived.Lib.ConvBytes
namespace Go.Proofs.Ytgjffmhlehcoiaa
open Go.RowKit Go.Proofs
set_option maxRecDepth 50000
set_option linter.unusedVariables false

theorem below_bytesWorld (w : World) (e : TypeId) (s : ByteArray) : Below w.heap.size w (Go.Lib.bytesWorld w e s) :=
  ⟨rfl, rfl, rfl, by rw [Go.Lib.bytesWorld_size]; omega, fun k hk => Go.Lib.bytesWorld_at_old w e s k hk⟩

theorem convert_str (w : World) (m : List UInt8) (hm : m.length ≤ 140737488355328) :
    ∃ v w', (convert 9 42 (.string ⟨m.toArray⟩)).run Try.prog w = .ok v w' ∧ Bytes w' v m ∧ Below w.heap.size w w' := by
  have hsz : (⟨m.toArray⟩ : ByteArray).size = m.length := by show m.toArray.size = _; simp
  refine ⟨_, _, Go.Lib.run_convert_string_bytes w 9 42 5 ⟨m.toArray⟩ Try.underlying9 Try.underlying42 Try.underlying5, ?_, below_bytesWorld w _ _⟩
  rw [hsz]
  refine ⟨_, _, rfl, grownCap_ge w _ _ _, grownCap_le_maxLen w _ _ _ (by unfold maxLen; omega), .inr ⟨w.heap.size, 0, rfl, by rw [Go.Lib.bytesWorld_size]; omega, fun i hi => ?_⟩⟩
  rw [Nat.zero_add, Go.Lib.bytesWorld_cell w _ _ i (by rw [hsz]; exact hi)]
  simp [hi]

theorem wpList_convert_str {w : World} {ops : Array Oper} {rest : List Oper} {o : Oper} {a : Act} {Q : Exit → Act → World → Prop} (hgd : o.guard = none) (x : Operand)
    (ho : o.op = .convert 9 42 x) (m : List UInt8) (hx : a.eval x = .string ⟨m.toArray⟩) (hm : m.length ≤ 140737488355328)
    (h : ∀ v' w', Bytes w' v' m → Below w.heap.size w w' → wpList Try.prog ops Q rest (a.put o.dst v') w') : wpList Try.prog ops Q (o :: rest) a w :=
  wpList_plain hgd fun K hK => by
    obtain ⟨v', w', hr, h1, h2⟩ := convert_str w m hm
    unfold Oper.wp execOp
    simp only [ho, Sem.run_bind, Sem.run_pure, hx, hr, Result.andThen_ok]
    exact hK _ _ (h v' w' h1 h2)
end Go.Proofs.Ytgjffmhlehcoiaa
