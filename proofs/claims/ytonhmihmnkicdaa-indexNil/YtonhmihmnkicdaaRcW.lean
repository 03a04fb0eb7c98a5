/- What record.Write answers. -/
import Derived.Test.YtonhmihmnkicdaaRcCheck
namespace Go.Proofs.Ytonhmihmnkicdaa
open Go.RowKit
set_option linter.unusedVariables false
end Go.Proofs.Ytonhmihmnkicdaa
