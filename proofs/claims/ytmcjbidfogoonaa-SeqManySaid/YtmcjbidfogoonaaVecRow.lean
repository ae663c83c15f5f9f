/- Rows of vectors: carillonlaw00.Vectors (a copy). -/
import Derived.Test.YtmcjbidfogoonaaRowG
import Derived.Test.YtmcjbidfogoonaaVecVal
namespace Go.Proofs.Ytmcjbidfogoonaa
open Go.RowKit Go.Proofs
set_option maxRecDepth 50000
set_option linter.unusedVariables false
set_option linter.unusedSimpArgs false
end Go.Proofs.Ytmcjbidfogoonaa
