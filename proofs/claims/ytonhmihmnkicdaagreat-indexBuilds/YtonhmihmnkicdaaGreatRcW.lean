/- What record.Write answers. -/
import Derived.Test.YtonhmihmnkicdaaGreatRcCheck
namespace Go.Proofs.YtonhmihmnkicdaaGreat
open Go.RowKit
set_option linter.unusedVariables false
end Go.Proofs.YtonhmihmnkicdaaGreat
