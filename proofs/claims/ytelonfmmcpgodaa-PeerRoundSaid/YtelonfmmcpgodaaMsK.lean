/- A message by how it lies. -/
import Derived.Test.YtelonfmmcpgodaaMsgB
import Derived.Test.YtelonfmmcpgodaaStr
namespace Go.Proofs.Ytelonfmmcpgodaa
open Go.RowKit Go.Proofs
set_option maxRecDepth 50000
set_option linter.unusedVariables false
set_option linter.unusedSimpArgs false

def msK : RowK (Hd × Bd) := ⟨fun m => msgF m.1 m.2, 23, by decide, fun _ => rfl, fun m => msgL_one _ _ (bdL_one _)⟩
theorem msT : StrT msK 31 := ⟨⟨_, Try.underlying31, rfl⟩, by kernel_rfl⟩
def zeroM : Hd × Bd := (hd0, bd0)

set_option maxRecDepth 100000 in
set_option maxHeartbeats 8000000 in
theorem same_ms (m : Hd × Bd) (w : World) : (Op.equalIn 10000 31 (.agg (msK.enc m).toArray) (.agg (msK.enc m).toArray)).run Try.prog w = .ok true w := by
  obtain ⟨h, d⟩ := m
  unfold msK msgF msgL bdL
  go_simp
end Go.Proofs.Ytelonfmmcpgodaa
