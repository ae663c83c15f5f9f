/- Contracts of the document's own answer for package octets. -/
import Derived.Test.YtmcjbidfogoonaaOct
namespace Go.Proofs.Ytmcjbidfogoonaa
open Go.RowKit Go.Proofs
set_option maxRecDepth 50000
set_option linter.unusedVariables false

open Go.RowKit Go.Proofs
set_option linter.unusedVariables false



end Go.Proofs.Ytmcjbidfogoonaa
