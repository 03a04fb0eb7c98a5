/- What New, Write and Waits of the disks answer. -/
import Derived.Test.YtnpioaidbmllkaaDkSet
import Derived.Test.YtnpioaidbmllkaaDkFind
import Derived.Test.YtnpioaidbmllkaaDkZero
import Derived.Maps.AppendAt
namespace Go.Proofs.Ytnpioaidbmllkaa
open Go.RowKit
set_option maxRecDepth 100000 in
set_option maxHeartbeats 2000000 in
theorem new_any (w : World) : Calls Try.prog 9 #[] w fun e w' => ∃ b, e = .returned (.pointer (some ⟨b, 0, none⟩)) ∧ b = w.heap.size ∧ Bk w' b (fun _ => dk0) ∧ Below w.heap.size w w' := by
  have hz := zero_bank
  have HB := hide (bank_new w)
  have hc := bank_cells
  generalize fnC 1368 (bkV fun _ => dk0) = C at *
  go_enter Try.func9, Try.ntmps9
  go_wp2_with fail
  go_ret
  exact ⟨_, rfl, rfl, HB.out, (Below.refl _ _).alloc (Nat.le_refl _) _⟩
theorem wr_info : (Try.prog.info? 72).map (fun i => (i.zero, i.size, i.bytes)) = some (some (.agg #[.int .i64 0, .string ByteArray.empty]), 2, 24) := by kernel_rfl
theorem row_form {w : World} {base : Nat} {e : TypeId} {size : Nat} {v : Value} {n : Nat} {xs : List Value} (h : w.ownsRow base e size v n xs) : ∃ a c, v = .slice a n c := by
  obtain ⟨_, ⟨rfl, rfl⟩ | ⟨g, cap, cur, rfl, _⟩⟩ := h
  · exact ⟨_, _, rfl⟩
  · exact ⟨_, _, rfl⟩
theorem two_new (w : World) (x : Int) (s : ByteArray) (t : TypeId) : ∀ j u, ([.int .i64 x, .string s] : List Value)[j]? = some u → (w.alloc (.cells #[.int .i64 x, .string s] t)).cell? ((⟨w.heap.size, 0, none⟩ : Addr).add j) = some u := fun j u h => by
  have ha : (⟨w.heap.size, 0, none⟩ : Addr).add j = ⟨w.heap.size, j, none⟩ := by unfold Addr.add; split <;> simp_all
  rw [ha, cell_of_block (c := #[.int .i64 x, .string s]) (heap_alloc_new _ _)]
  simpa using h
set_option maxRecDepth 100000 in
set_option maxHeartbeats 2000000 in
theorem write_ok (b d n : Nat) (s : ByteArray) (D : Nat → Dk) (w : World) (h : Bk w b D) (hd : d < 12) (hn : n < 112) (hl : (D d).lost = false) (hs : s.size ≤ 200) (hlen : (D d).ws.length < 1000000) :
    Calls Try.prog 19 #[.pointer (some ⟨b, 0, none⟩), .int .i64 (d : Int), .int .i64 (n : Int), .string s] w fun e w' => e = .returned (.int .i64 0) ∧ ∃ v', Bk w' b (upd D d ⟨(D d).lost, (D d).sec, v', (D d).ws ++ [(n, s)]⟩) ∧ Step b D w (upd D d ⟨(D d).lost, (D d).sec, v', (D d).ws ++ [(n, s)]⟩) w' := by
  have H := hide h
  have hE : eTake D (d : Int) (n : Int) s = 0 := by
    have h1 : eLive D (d : Int) = 0 := by unfold eLive; rw [if_neg (by omega), Int.toNat_natCast, hl]; rfl
    have h2 : eHave D (d : Int) (n : Int) = 0 := by unfold eHave; rw [h1, if_neg (by decide), if_neg (by omega)]
    unfold eTake; rw [h2, if_neg (by decide), if_neg (by omega)]
  have hT := taking_any b (d : Int) (n : Int) s D w h (by omega)
  rw [hE, pDisk_ok, Int.toNat_natCast] at hT
  have HT := hide hT
  have hc := h.wait hd
  have hf := h.free (d * 114 + 113)
  obtain ⟨i0, hi0, hz0, hz1, hz2⟩ := info_parts wr_info
  have HI := hide hi0
  have HI0 := hide hz0
  have HI1 := hide hz1
  have HI2 := hide hz2
  clear hi0 hz0 hz1 hz2 hT hE h hl
  go_enter Try.func19, Try.ntmps19
  go_wp2_with fail
  refine HT.out.mono ?_
  rintro e w1 ⟨rfl, rfl⟩
  go_wp2_with (first | (at_builtin; refine wpList_append_own_at _ rfl (.tmp 26) (.tmp 30) 48 rfl 0 72 i0 (.agg #[.int .i64 0, .string ByteArray.empty]) 2 24 Try.underlying48 HI.out HI0.out HI1.out HI2.out rfl (by decide) _ (D d).ws.length (wtV (D d).ws) rfl (row_keep (H.out.rows d hd) (fun g hg => Below.heap_alloc _ _ _ (row_lt (H.out.rows d hd) hg))) ⟨w.heap.size, 0, none⟩ 1 1 [.int .i64 (n : Int), .string s] rfl rfl (two_new _ _ _ _) (by simp [Value.oneCell']) (by unfold maxLen; omega) (by omega) (Nat.zero_le _) ?_; intro v' w3 hown hgr hnil hat; clear hnil; obtain ⟨a9, c9, hv9⟩ := row_form hown; subst hv9; have HN := hide (H.out.push hd hn s hown hgr hat); have hc3 : (w3.cell? ⟨b, d * 114 + 113, none⟩) = some (D d).wv := push_cell H.out hd hgr; have hf3 : w3.frozen? ⟨b, d * 114 + 113, none⟩ = false := push_free H.out hd hgr; clear hown hgr hat hc hf))
  go_ret
  exact ⟨rfl, _, HN.out.1, HN.out.2⟩
set_option maxRecDepth 100000 in
set_option maxHeartbeats 2000000 in
theorem write_bad (b : Nat) (d n : Int) (s : ByteArray) (D : Nat → Dk) (w : World) (h : Bk w b D) (hs : s.size ≤ 9223372036854775807) (he : eTake D d n s ≠ 0) :
    Calls Try.prog 19 #[.pointer (some ⟨b, 0, none⟩), .int .i64 d, .int .i64 n, .string s] w fun e w' => e = .returned (.int .i64 (eTake D d n s : Nat)) ∧ w = w' := by
  have hT := taking_any b d n s D w h hs
  rw [pDisk_bad he] at hT
  have HT := hide hT
  clear hT h
  generalize eTake D d n s = E at *
  have hq : ((E : Int) != 0) = true := by simp; omega
  go_enter Try.func19, Try.ntmps19
  go_wp2_with fail
  refine HT.out.mono ?_
  rintro e w1 ⟨rfl, rfl⟩
  go_wp2_with fail
  go_ret
  exact ⟨rfl, rfl⟩
set_option maxRecDepth 100000 in
set_option maxHeartbeats 2000000 in
theorem write_nil (d n : Int) (s : ByteArray) (w : World) : Calls Try.prog 19 #[.pointer none, .int .i64 d, .int .i64 n, .string s] w fun e w' => e = .returned (.int .i64 1) ∧ w = w' := by
  go_enter Try.func19, Try.ntmps19
  go_wp2_with fail
  refine (taking_nil d n s w).mono ?_
  rintro e w1 ⟨rfl, rfl⟩
  go_wp2_with fail
  go_ret
  exact ⟨rfl, rfl⟩
set_option maxRecDepth 100000 in
set_option maxHeartbeats 2000000 in
theorem waits_nil (d : Int) (w : World) : Calls Try.prog 17 #[.pointer none, .int .i64 d] w fun e w' => e = .returned (.int .i64 0) ∧ w = w' := by
  go_enter Try.func17, Try.ntmps17
  go_wp2_with fail
  refine (live_nil d w).mono ?_
  rintro e w1 ⟨rfl, rfl⟩
  go_wp2_with fail
  go_ret
  exact ⟨rfl, rfl⟩
def nWaits (D : Nat → Dk) (d : Int) : Nat := if eLive D d = 0 then (D d.toNat).ws.length else 0
set_option maxRecDepth 100000 in
set_option maxHeartbeats 2000000 in
theorem waits_any (b : Nat) (d : Int) (D : Nat → Dk) (w : World) (h : Bk w b D) : Calls Try.prog 17 #[.pointer (some ⟨b, 0, none⟩), .int .i64 d] w fun e w' => e = .returned (.int .i64 (nWaits D d : Nat)) ∧ w = w' := by
  have HL := hide (liveD_any b d D w h)
  unfold nWaits
  by_cases he : eLive D d = 0
  · rw [if_pos he]
    rw [he, pDisk_ok] at HL
    have hd : d.toNat < 12 := by unfold eLive at he; split at he; · cases he
                                 · omega
    have hc := h.wait hd
    obtain ⟨a, c, hv⟩ := row_form (h.rows d.toNat hd)
    rw [hv] at hc
    clear h he hv
    generalize d.toNat = k at *
    generalize (D k).ws.length = L at *
    go_enter Try.func17, Try.ntmps17
    go_wp2_with fail
    refine HL.out.mono ?_
    rintro e w1 ⟨rfl, rfl⟩
    go_wp2_with fail
    go_ret
    exact ⟨rfl, rfl⟩
  · rw [if_neg he]
    rw [pDisk_bad he] at HL
    clear h
    generalize eLive D d = E at *
    have hq : ((E : Int) != 0) = true := by simp; omega
    go_enter Try.func17, Try.ntmps17
    go_wp2_with fail
    refine HL.out.mono ?_
    rintro e w1 ⟨rfl, rfl⟩
    go_wp2_with fail
    go_ret
    exact ⟨rfl, rfl⟩
end Go.Proofs.Ytnpioaidbmllkaa
