/- What the document's Check answers. -/
import Derived.Test.YtonhmihmnkicdaaRcCheck
import Derived.Test.YtonhmihmnkicdaaRcRefVol
namespace Go.Proofs.Ytonhmihmnkicdaa
open Go.RowKit
set_option linter.unusedVariables false
end Go.Proofs.Ytonhmihmnkicdaa
