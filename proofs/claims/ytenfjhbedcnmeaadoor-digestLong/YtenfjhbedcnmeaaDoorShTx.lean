/- A state in memory, kept where nothing below is written. -/
import Derived.Test.YtenfjhbedcnmeaaDoorShFin
namespace Go.Proofs.YtenfjhbedcnmeaaDoor
open Go.RowKit
theorem TxSt.below {w w' : World} {b B : Nat} {f : Nat → Nat} {n : Nat} (h : TxSt w b f n) (hb : Below B w w') (hB : b < B) : TxSt w' b f n := FnAt.below h hb hB
theorem TxSt.lt {w : World} {b : Nat} {f : Nat → Nat} {n : Nat} (h : TxSt w b f n) : b < w.heap.size := FnAt.lt h
end Go.Proofs.YtenfjhbedcnmeaaDoor
