/- The zero value of the disks. -/
import Derived.Test.YtnpioaidbmllkaaDkMem
namespace Go.Proofs.Ytnpioaidbmllkaa
open Go.RowKit
theorem zero_info : (Try.prog.info? 53).map (fun i => i.zero) = some (some (.agg (fnC 1368 (bkV fun _ => dk0)))) := by kernel_rfl
theorem bank_cells : (fnC 1368 (bkV fun _ => dk0)).size = 1368 := fnC_size _ _
theorem zero_bank (w : World) : Sem.run Try.prog (zeroValue 53) w = .ok (.agg (fnC 1368 (bkV fun _ => dk0))) w := by
  have h := zero_info
  cases hi : Try.prog.info? 53 with
  | none => rw [hi] at h; cases h
  | some i =>
    rw [hi] at h
    have hz : i.zero = some (.agg (fnC 1368 (bkV fun _ => dk0))) := by simpa using h
    simp [zeroValue, typeInfo, hi, hz]
end Go.Proofs.Ytnpioaidbmllkaa
