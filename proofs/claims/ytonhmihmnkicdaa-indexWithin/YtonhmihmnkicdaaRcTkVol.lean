/- What record.takenVolume answers. -/
import Derived.Test.YtonhmihmnkicdaaRcRd
namespace Go.Proofs.Ytonhmihmnkicdaa
open Go.RowKit
set_option linter.unusedVariables false
theorem vol_size_ : (Try.prog.info? 29).map (·.size) = some 4 := by kernel_rfl
end Go.Proofs.Ytonhmihmnkicdaa
