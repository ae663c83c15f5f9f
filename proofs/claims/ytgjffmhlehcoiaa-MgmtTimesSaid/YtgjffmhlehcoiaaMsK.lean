/- A message by how it lies. -/
import Derived.Test.YtgjffmhlehcoiaaMsgB
import Derived.Test.YtgjffmhlehcoiaaStr
namespace Go.Proofs.Ytgjffmhlehcoiaa
open Go.RowKit Go.Proofs
set_option maxRecDepth 50000
set_option linter.unusedVariables false
set_option linter.unusedSimpArgs false
end Go.Proofs.Ytgjffmhlehcoiaa
