/- Contracts of package octets: the exported calls. -/
import Derived.Test.YtelonfmmcpgodaaOct
namespace Go.Proofs.Ytelonfmmcpgodaa
open Go.RowKit Go.Proofs
set_option maxRecDepth 50000
set_option linter.unusedVariables false

open Go.RowKit Go.Proofs

theorem stand_putS (x k : Int) (h0 : 0 ≤ k) (h8 : k ≤ 8) : standB (([] ++ putS x k).length : Nat) 0 k = true := by
  rw [List.nil_append, putS_length x k h0 h8]
  exact standB_true (by decide) h0 (by omega)

theorem stand_behind (c : UInt8) (x k : Int) (h0 : 0 ≤ k) (h8 : k ≤ 8) : standB (([c] ++ putS x k).length : Nat) 1 k = true := by
  rw [List.length_append, putS_length x k h0 h8]
  exact standB_true (by decide) h0 (by simp; omega)
end Go.Proofs.Ytelonfmmcpgodaa
