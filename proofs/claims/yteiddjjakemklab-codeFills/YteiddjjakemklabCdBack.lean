/- What Fill answers where the shards that there are are a codeword's. -/
import Derived.Test.YteiddjjakemklabCdOpen
namespace Go.Proofs.Yteiddjjakemklab
open Go.RowKit
theorem sel_mem {ls : List ByteArray} {hv : List Bool} {s : ByteArray} (h : s ∈ selS ls hv) : ∃ i, i < 9 ∧ hv[i]? = some true ∧ s = ls[i]?.getD ByteArray.empty := by
  unfold selS at h
  rw [selTo_snd, selTo_fst, List.mem_map] at h
  obtain ⟨i, hi, rfl⟩ := h
  rw [List.mem_filter, List.mem_range] at hi
  refine ⟨i, hi.1, ?_, rfl⟩
  have h2 := hi.2
  cases h : hv[i]? with
  | none => rw [h] at h2; cases h2
  | some b => rw [h] at h2; simp at h2; rw [h2]
theorem sel_all {ls : List ByteArray} {hv : List Bool} {L : Nat} (hs : ∀ i, i < 9 → hv[i]? = some true → (ls[i]?.getD ByteArray.empty).size = L) : ∀ s ∈ selS ls hv, s.size = L := by
  intro s h
  obtain ⟨i, hi, hh, rfl⟩ := sel_mem h
  exact hs i hi hh
theorem lenS_all {ls : List ByteArray} {hv : List Bool} {L : Nat} (hs : ∀ s ∈ selS ls hv, s.size = L) : lenS ls hv ≤ L ∧ (selS ls hv ≠ [] → lenS ls hv = L) ∧ al (selS ls hv) = true := by
  unfold lenS
  cases h : selS ls hv with
  | nil => exact ⟨by simp, fun h => absurd rfl h, rfl⟩
  | cons x xs =>
    rw [h] at hs
    have h0 := hs x (by simp)
    refine ⟨by simp [h0], fun _ => by simp [h0], al_iff.2 fun s h' => ?_⟩
    rw [hs s h']; simp [h0]
/-- Fill's answer, out of a codeword's shards -/
def BackPost (w : World) (hv : List Bool) (data : List ByteArray) (L : Nat) (e : Ending) (w' : World) : Prop :=
  (cntOf hv < 6 ∧ e = .returned (.tuple #[.slice none 0 0, .int .i64 2]) ∧ Below w.heap.size w w') ∨ (6 ≤ cntOf hv ∧ NineAt w data L e w')
theorem fill_back (b bs o bh oh caps caph L : Nat) (ls : List ByteArray) (hv : List Bool) (data : List ByteArray) (w : World) (ht : TabAt w b)
    (hls : ls.length = 9) (hhv : hv.length = 9) (hbs : bs < w.heap.size) (hbh : bh < w.heap.size) (hLb : L ≤ 1000) (hd : data.length = 6) (hz : ∀ s ∈ data, s.size = L)
    (hs : ∀ i, i < 9 → hv[i]? = some true → ls[i]? = some (sh data L i))
    (hcs : ∀ (i : Nat) (s : ByteArray), ls[i]? = some s → w.cell? ⟨bs, o + i, none⟩ = some (.string s)) (hch : ∀ (i : Nat) (s : Bool), hv[i]? = some s → w.cell? ⟨bh, oh + i, none⟩ = some (.bool s)) :
    Calls Try.prog 17 #[.pointer (some ⟨b, 0, none⟩), .slice (some ⟨bs, o, none⟩) 9 caps, .slice (some ⟨bh, oh, none⟩) 9 caph] w (BackPost w hv data L) := by
  obtain ⟨hl1, hl2, hal⟩ := lenS_all (sel_all (ls := ls) (hv := hv) (L := L) fun i hi hh => by rw [hs i hi hh]; exact sh_size _ _ _)
  obtain ⟨k, hk, he, hF⟩ := fill_cert b bs o bh oh caps caph ls hv w ht hls hhv hbs hbh (by omega) hcs hch
  refine hF.mono ?_
  have hlen : (selS ls hv).length = cntOf hv := by unfold selS; rw [List.length_map, sel_cnt]
  rintro e w' (⟨h, _⟩ | ⟨_, h, h2, hb⟩ | ⟨_, h6, g, he', hg, hf, hb⟩)
  · unfold selS at hal; rw [hal] at h; cases h
  · rw [sel_cnt] at h; exact .inl ⟨h, h2, hb⟩
  · rw [sel_cnt] at h6
    refine .inr ⟨h6, g, he', hg, ?_, hb⟩
    rw [hl2 (fun e => by rw [e] at hlen; simp at hlen; omega)] at hf
    rw [data_back hk (data := data) hd hz (fun t ht => ?_)] at hf
    · exact hf
    · rw [he h6, List.getElem?_take, if_pos ht]
      unfold selS
      rw [selTo_snd, selTo_fst, List.getElem?_map]
      unfold idxOf
      obtain ⟨i, hi⟩ : ∃ i, ((List.range 9).filter fun i => hv[i]?.getD false)[t]? = some i := ⟨_, List.getElem?_eq_getElem (by unfold cntOf at h6; omega)⟩
      have hm := List.mem_of_getElem? hi
      rw [List.mem_filter, List.mem_range] at hm
      rw [List.getD_eq_getElem?_getD, List.getElem?_take, if_pos ht, hi]
      have hv' : hv[i]? = some true := by
        cases h : hv[i]? with
        | none => rw [h] at hm; simp at hm
        | some b => rw [h] at hm; simp at hm; rw [hm.2]
      simp [hs i hm.1 hv']
end Go.Proofs.Yteiddjjakemklab
