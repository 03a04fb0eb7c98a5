/- What the calls of the document's reader answer. -/
import Derived.Test.YtgcjcojmhfkbjaaDoorPkRefRead
namespace Go.Proofs.YtgcjcojmhfkbjaaDoor
open Go.RowKit
end Go.Proofs.YtgcjcojmhfkbjaaDoor
