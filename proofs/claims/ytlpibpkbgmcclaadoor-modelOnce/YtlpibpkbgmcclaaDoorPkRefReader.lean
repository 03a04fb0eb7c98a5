/- What the calls of the document's reader answer. -/
import Derived.Test.YtlpibpkbgmcclaaDoorPkRefRead
namespace Go.Proofs.YtlpibpkbgmcclaaDoor
open Go.RowKit
end Go.Proofs.YtlpibpkbgmcclaaDoor
