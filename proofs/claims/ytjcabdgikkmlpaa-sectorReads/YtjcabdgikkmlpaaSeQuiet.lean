/- Calls of layer 7's law inside regions that draw their order. -/
import Derived.Test.YtjcabdgikkmlpaaSeLive
namespace Go.Proofs.Ytjcabdgikkmlpaa
open Go.RowKit
set_option linter.unusedVariables false
theorem told_q (h : Hd) (wr : World) : ∀ q os, Calls Try.prog 18 #[.agg (hcs h)] (Go.Sort.grow (redrawn wr q) os) fun e w'' => e = .returned (.agg (hcs h)) ∧ ∃ p : Regrown, w'' = Go.Sort.grow (redrawn wr p.d) p.os := fun q os => Calls.regrown_of (told_any h _)
theorem own_q (h : Hd) (wr : World) : ∀ q os, Calls Try.prog 12 #[.agg (hcs h)] (Go.Sort.grow (redrawn wr q) os) fun e w'' => e = .returned (.agg (hcs h)) ∧ ∃ p : Regrown, w'' = Go.Sort.grow (redrawn wr p.d) p.os := fun q os => Calls.regrown_of (own_any h _)
theorem live_q (wr : World) : ∀ q os, Calls Try.prog 10 #[] (Go.Sort.grow (redrawn wr q) os) fun e w'' => e = .returned (.bool true) ∧ ∃ p : Regrown, w'' = Go.Sort.grow (redrawn wr p.d) p.os := fun q os => Calls.regrown_of (slive_any _)
end Go.Proofs.Ytjcabdgikkmlpaa
