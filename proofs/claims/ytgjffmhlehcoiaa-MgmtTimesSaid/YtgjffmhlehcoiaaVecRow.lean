/- Rows of vectors: carillonlaw00.Vectors (a copy). -/
import Derived.Test.YtgjffmhlehcoiaaRowG
import Derived.Test.YtgjffmhlehcoiaaVecVal
namespace Go.Proofs.Ytgjffmhlehcoiaa
open Go.RowKit Go.Proofs
set_option maxRecDepth 50000
set_option linter.unusedVariables false
set_option linter.unusedSimpArgs false
end Go.Proofs.Ytgjffmhlehcoiaa
