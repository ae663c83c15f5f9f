/- Contracts of package octets. -/
import Derived.Test.YtelonfmmcpgodaaLib
namespace Go.Proofs.Ytelonfmmcpgodaa
open Go.RowKit Go.Proofs
set_option maxRecDepth 50000
set_option linter.unusedVariables false

open Go.RowKit Go.Proofs

theorem info5 : (Try.prog.info? 5).map (fun i => (i.zero, i.size, i.bytes)) = some (some (.int .u8 0), 1, 1) := by kernel_rfl

/-- Do n bytes stand from at on? -/
def standB (len at' n : Int) : Bool := decide (0 ≤ at' ∧ 0 ≤ n ∧ n ≤ len - at')

theorem standB_true {len at' n : Int} (h0 : 0 ≤ at') (h1 : 0 ≤ n) (h2 : n ≤ len - at') : standB len at' n = true := decide_eq_true ⟨h0, h1, h2⟩

theorem standB_false {len at' n : Int} (h : ¬ (0 ≤ at' ∧ 0 ≤ n ∧ n ≤ len - at')) : standB len at' n = false := decide_eq_false h

theorem standB_iff {len at' n : Int} : standB len at' n = true ↔ 0 ≤ at' ∧ 0 ≤ n ∧ n ≤ len - at' := by simp [standB]








end Go.Proofs.Ytelonfmmcpgodaa
