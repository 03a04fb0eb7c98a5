/- What the document's Volume answers. -/
import Derived.Test.YtonhmihmnkicdaaRcVol
namespace Go.Proofs.Ytonhmihmnkicdaa
open Go.RowKit
set_option linter.unusedVariables false
end Go.Proofs.Ytonhmihmnkicdaa
