/- A disk is lost, or replaced. -/
import Derived.Test.YtnpioaidbmllkaaDkSet
import Derived.Test.YtnpioaidbmllkaaDkFind
namespace Go.Proofs.Ytnpioaidbmllkaa
open Go.RowKit
theorem disk_info : (Try.prog.info? 50).map (fun i => i.zero) = some (some (.agg (fnC 114 (dkV dk0)))) := by kernel_rfl
theorem disk_size : (Try.prog.info? 50).map (·.size) = some 114 := by kernel_rfl
theorem disk_size' (x : Dk) : (Try.prog.info? 50).map (·.size) = some (fnC 114 (dkV x)).size := by rw [fnC_size]; exact disk_size
theorem zero_disk (w : World) : Sem.run Try.prog (zeroValue 50) w = .ok (.agg (fnC 114 (dkV dk0))) w := by
  have h := disk_info
  cases hi : Try.prog.info? 50 with
  | none => rw [hi] at h; cases h
  | some i =>
    rw [hi] at h
    have hz : i.zero = some (.agg (fnC 114 (dkV dk0))) := by simpa using h
    simp [zeroValue, typeInfo, hi, hz]
def dkL : Dk := ⟨true, fun _ => ByteArray.empty, .slice none 0 0, []⟩
theorem lost_cells : (fnC 114 (dkV dk0)).setIfInBounds 0 (.bool true) = fnC 114 (dkV dkL) := by
  rw [fnC_set]
  refine fnC_congr fun q _ => ?_
  by_cases c : q = 0
  · rw [if_pos c]; unfold dkV; rw [if_pos c]; rfl
  · rw [if_neg c]; unfold dkV; rw [if_neg c, if_neg c]; rfl
theorem dkV_one (x : Dk) (h : x.wv.oneCell' = true) : (fnC 114 (dkV x)).all (·.oneCell') = true := fnC_one fun p _ => by
  unfold dkV; split
  · rfl
  · split
    · exact h
    · rfl
theorem Bk.there {w : World} {b : Nat} {D : Nat → Dk} (h : Bk w b D) {d : Nat} (hd : d < 12) : w.there b (d * 114) 114 := fun j hj => ⟨by rw [h.mem.cell (by omega)]; rfl, h.free _⟩
set_option maxRecDepth 100000 in
set_option maxHeartbeats 2000000 in
theorem exchange_ok (b d : Nat) (x : Dk) (D : Nat → Dk) (w : World) (h : Bk w b D) (hd : d < 12) (hx : x.wv = .slice none 0 0) (hw : x.ws = []) :
    Calls Try.prog 44 #[.pointer (some ⟨b, 0, none⟩), .int .i64 (d : Int), .agg (fnC 114 (dkV x))] w fun e w' => e = .returned (.int .i64 0) ∧ Bk w' b (upd D d x) ∧ Step b D w (upd D d x) w' := by
  have hb1 : Below w.heap.size w (w.alloc (.cells (fnC 114 (dkV x)) 50)) := (Below.refl _ _).alloc (Nat.le_refl _) _
  have H1 := h.below hb1
  have HN := hide (H1.exchange hd x (by rw [hx, hw]; exact ⟨rfl, .inl ⟨rfl, rfl⟩⟩) (.inl (by rw [hx]; rfl)) (by rw [hw]; intro y hy; cases hy) (by rw [hx]; intro e; cases e))
  have HB1 := hide hb1
  have HT := hide (H1.there hd)
  have HA : Hid ((w.alloc (.cells (fnC 114 (dkV x)) 50)).heap[w.heap.size]? = some (.cells (fnC 114 (dkV x)) 50 (0, 0))) := heap_alloc_new _ _
  have hcs : (fnC 114 (dkV x)).size = 114 := fnC_size _ _
  have HO := hide (dkV_one x (by rw [hx]; rfl))
  have HSI := hide (disk_size' x)
  clear h hb1 H1 hx hw
  generalize fnC 114 (dkV x) = C at *
  go_enter Try.func44, Try.ntmps44
  go_wp2_with fail
  refine (known_ok b d _ hd).mono ?_
  rintro e w1 ⟨rfl, rfl⟩
  generalize hW : w.alloc (.cells C 50) = W at *
  have HW := hide hW
  clear hW
  go_wp2_with (first | (refine wpList_load_row rfl 50 (.tmp 5) rfl w.heap.size rfl 50 C (0, 0) _ HA.out Try.underlying50 rfl HSI.out ?_) | (refine wpList_store_mid rfl 50 (.tmp 20) (.tmp 19) rfl b (d * 114) C rfl rfl (by rw [hcs]; exact HT.out) HSI.out HO.out ?_))
  go_ret
  exact ⟨rfl, HN.out.1, (Step.of_below HB1.out).trans HN.out.2⟩
end Go.Proofs.Ytnpioaidbmllkaa
