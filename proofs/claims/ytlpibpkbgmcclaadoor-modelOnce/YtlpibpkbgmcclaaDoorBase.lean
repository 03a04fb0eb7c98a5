/- Strings as numbers; small words that every walk uses. No function of the program and no type's number stands here. (For seats that have no field.Table: in the place of GfTab and Mem's first part.) -/
import Derived.Test.YtlpibpkbgmcclaaDoorChecked
import Derived.WalkKit
import Derived.WalkSpells
import Derived.WalkLawsBesides
import Derived.Laws.BytesArg
import Derived.Laws.CopyOwn
import Derived.Laws.BitsAllLaws
import Derived.Deep.QuietTactic
import Derived.BigQuiet
namespace Go.Proofs.YtlpibpkbgmcclaaDoor
open Go.RowKit
theorem hide {p : Prop} (h : p) : Hid p := h
theorem ret_int {k : IntKind} {a b : Int} (h : a = b) : Ending.returned (.int k a) = .returned (.int k b) := by rw [h]
theorem ret_bool {a b : Bool} (h : a = b) : Ending.returned (.bool a) = .returned (.bool b) := by rw [h]
theorem ret_str {a b : ByteArray} (h : a = b) : Ending.returned (.string a) = .returned (.string b) := by rw [h]
/-- the byte at p, as a number (0 beyond the end) -/
def bt (s : ByteArray) (p : Nat) : Nat := if h : p < s.size then (s[p]'h).toNat else 0
theorem bt_eq {s : ByteArray} {p : Nat} (h : p < s.size) : (s[p]'h).toNat = bt s p := by unfold bt; rw [dif_pos h]
theorem bt_lt (s : ByteArray) (p : Nat) : bt s p < 256 := by
  unfold bt; split
  · exact UInt8.toNat_lt _
  · decide
/-- the string of L bytes f 0, f 1, .. -/
def mkS (L : Nat) (f : Nat → Nat) : ByteArray := strOfNums ((List.range L).map fun p => ((f p : Nat) : Int))
theorem mkS_size (L : Nat) (f : Nat → Nat) : (mkS L f).size = L := by unfold mkS; rw [strOfNums_size]; simp
theorem mkS_bt {L : Nat} {f : Nat → Nat} {p : Nat} (hp : p < L) (h : f p < 256) : bt (mkS L f) p = f p := by
  have hs : p < (mkS L f).size := by rw [mkS_size]; exact hp
  rw [← bt_eq hs]
  show (((mkS L f).data)[p]'hs).toNat = f p
  have : (mkS L f).data = (((List.range L).map fun p => ((f p : Nat) : Int)).map fun n => UInt8.ofNat n.toNat).toArray := rfl
  simp only [this, List.getElem_toArray, List.getElem_map, List.getElem_range, Int.toNat_natCast, UInt8.toNat_ofNat']
  omega
theorem ext_bt {s t : ByteArray} (hs : s.size = t.size) (h : ∀ p, p < s.size → bt s p = bt t p) : s = t := by
  apply ByteArray.ext
  apply Array.ext
  · exact hs
  · intro i h1 h2
    have := h i h1
    rw [← bt_eq h1, ← bt_eq (s := t) h2] at this
    exact UInt8.toNat_inj.1 this
theorem mkS_congr {L : Nat} {f g : Nat → Nat} (h : ∀ p, p < L → f p = g p) : mkS L f = mkS L g := by
  unfold mkS; congr 1
  exact List.map_congr_left fun p hp => by rw [h p (List.mem_range.1 hp)]
theorem mkS_self (s : ByteArray) : mkS s.size (bt s) = s := by
  apply ext_bt (mkS_size _ _)
  intro p hp
  rw [mkS_size] at hp
  exact mkS_bt hp (bt_lt _ _)
end Go.Proofs.YtlpibpkbgmcclaaDoor
