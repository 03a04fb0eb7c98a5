/- What the document's needle.Check answers. (For seats without the document's digests: in the place of NeCheck, behind RcKey.) -/
import Derived.Test.YtlpibpkbgmcclaaDoorRcKey
import Derived.Test.YtlpibpkbgmcclaaDoorPkRefsX
import Derived.Lib.QuietBelow
import Derived.Deep.Cut
namespace Go.Proofs.YtlpibpkbgmcclaaDoor
open Go.RowKit
set_option linter.unusedVariables false
end Go.Proofs.YtlpibpkbgmcclaaDoor
