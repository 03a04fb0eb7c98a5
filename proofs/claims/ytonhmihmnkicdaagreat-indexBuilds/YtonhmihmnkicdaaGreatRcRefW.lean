/- What the document's Write answers. -/
import Derived.Test.YtonhmihmnkicdaaGreatRcRefCheck
import Derived.Test.YtonhmihmnkicdaaGreatRcW
import Derived.Test.YtonhmihmnkicdaaGreatPkRefs
namespace Go.Proofs.YtonhmihmnkicdaaGreat
open Go.RowKit
set_option linter.unusedVariables false
theorem no_over {a b : Nat} (h : a + b ≤ 1000000) : ¬ 9223372036854775807 < a + b := by omega
end Go.Proofs.YtonhmihmnkicdaaGreat
