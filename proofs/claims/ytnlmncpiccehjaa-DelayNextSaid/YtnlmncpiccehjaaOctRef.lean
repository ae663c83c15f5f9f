/- Contracts of the document's own answer for package octets. -/
import Derived.Test.YtnlmncpiccehjaaOct
namespace Go.Proofs.Ytnlmncpiccehjaa
open Go.RowKit Go.Proofs
set_option maxRecDepth 50000
set_option linter.unusedVariables false

open Go.RowKit Go.Proofs
set_option linter.unusedVariables false



end Go.Proofs.Ytnlmncpiccehjaa
