/- What needle.Read and the reference's Read answer at every text. -/
import Derived.Test.YtomcdajoeakhdaaDoorNeMath
import Derived.Test.YtomcdajoeakhdaaDoorNeReadX
import Derived.Test.YtomcdajoeakhdaaDoorNeReadY
import Derived.Test.YtomcdajoeakhdaaDoorNeRefX
import Derived.Test.YtomcdajoeakhdaaDoorNeRefY
namespace Go.Proofs.YtomcdajoeakhdaaDoor
open Go.RowKit
theorem nread_any (s : ByteArray) (w : World) (hK : KAt w) (hs : s.size ≤ 100000) : Calls Tryd.prog 15 #[.string s] w fun r w' => r = .returned (.tuple #[.agg (ncs (nrN s)), .string (nrR s), .int .i64 (nrE s)]) ∧ Below w.heap.size w w' := by
  obtain ⟨K, hK0⟩ : ∃ K, tT s = K := ⟨_, rfl⟩
  obtain ⟨S, hS0⟩ : ∃ S, tR s = S := ⟨_, rfl⟩
  obtain ⟨V, hV0⟩ : ∃ V, tT S = V := ⟨_, rfl⟩
  obtain ⟨B, hB0⟩ : ∃ B, tR S = B := ⟨_, rfl⟩
  have eN : rdN s = ⟨K, V⟩ := by unfold rdN; rw [hS0, hK0, hV0]
  have eB : rdB s = B := by unfold rdB; rw [hS0, hB0]
  by_cases h1 : tE s = 0
  case neg =>
    obtain ⟨e, b1, b2⟩ := nr_A h1
    rw [b1, b2, e]
    exact nread_A s w hs h1
  by_cases h2 : tE S = 0
  case neg =>
    obtain ⟨e, b1, b2⟩ := nr_B hS0 h1 h2
    rw [b1, b2, e]
    subst hS0
    exact nread_B s w hs h1 h2
  have h0 := two_C hS0 h1 h2
  have hk : K.size ≤ 100000 := by have := tT_size s; rw [hK0] at this; omega
  have hv : V.size ≤ 100000 := by have := tT_le2 hs; rw [hS0, hV0] at this; exact this
  by_cases h3 : B.size < 32
  · obtain ⟨e, b1, b2⟩ := nr_C1 h0 (by rw [eB]; exact h3)
    rw [b1, b2, e]
    exact nread_C1 s w hK hs K S V B hK0 hS0 hV0 hB0 h1 h2 hk hv h3
  by_cases h4 : B.extract 0 32 = dg V
  case neg =>
    obtain ⟨e, b1, b2⟩ := nr_C2 h0 (by rw [eB]; omega) (by rw [eB, eN]; exact h4)
    rw [b1, b2, e]
    exact nread_C2 s w hK hs K S V B hK0 hS0 hV0 hB0 h1 h2 hk hv (by omega) h4
  by_cases h5 : ckE ⟨K, V⟩ = 0
  case neg =>
    obtain ⟨e, b1, b2⟩ := nr_C3 h0 (by rw [eB]; omega) (by rw [eB, eN]; exact h4) (by rw [eN]; exact h5)
    rw [b1, b2, e, eN]
    exact nread_C3 s w hK hs K S V B hK0 hS0 hV0 hB0 h1 h2 hk hv (by omega) h4 _ rfl h5
  obtain ⟨e, b1, b2⟩ := nr_C4 h0 (by rw [eB]; omega) (by rw [eB, eN]; exact h4) (by rw [eN]; exact h5)
  rw [b1, b2, e, eN, eB]
  exact nread_C4 s w hK hs K S V B hK0 hS0 hV0 hB0 h1 h2 hk hv (by omega) h4 h5
theorem rread_any (s : ByteArray) (w : World) (hs : s.size ≤ 100000) : Calls Tryd.prog 16 #[.string s] w fun r w' => r = .returned (.tuple #[.agg (ncs (nrN s)), .string (nrR s), .int .i64 (nrE s)]) ∧ Below w.heap.size w w' := by
  obtain ⟨K, hK0⟩ : ∃ K, tT s = K := ⟨_, rfl⟩
  obtain ⟨S, hS0⟩ : ∃ S, tR s = S := ⟨_, rfl⟩
  obtain ⟨V, hV0⟩ : ∃ V, tT S = V := ⟨_, rfl⟩
  obtain ⟨B, hB0⟩ : ∃ B, tR S = B := ⟨_, rfl⟩
  have eN : rdN s = ⟨K, V⟩ := by unfold rdN; rw [hS0, hK0, hV0]
  have eB : rdB s = B := by unfold rdB; rw [hS0, hB0]
  by_cases h1 : tE s = 0
  case neg =>
    obtain ⟨e, b1, b2⟩ := nr_A h1
    rw [b1, b2, e]
    exact rread_A s w hs h1
  by_cases h2 : tE S = 0
  case neg =>
    obtain ⟨e, b1, b2⟩ := nr_B hS0 h1 h2
    rw [b1, b2, e]
    exact rread_B s w hs K S hK0 hS0 h1 h2
  have h0 := two_C hS0 h1 h2
  have hk : K.size ≤ 100000 := by have := tT_size s; rw [hK0] at this; omega
  have hv : V.size ≤ 100000 := by have := tT_le2 hs; rw [hS0, hV0] at this; exact this
  by_cases h3 : B.size < 32
  · obtain ⟨e, b1, b2⟩ := nr_C1 h0 (by rw [eB]; exact h3)
    rw [b1, b2, e]
    exact rread_C1 s w hs K S V B hK0 hS0 hV0 hB0 h1 h2 hk hv h3
  by_cases h4 : B.extract 0 32 = dg V
  case neg =>
    obtain ⟨e, b1, b2⟩ := nr_C2 h0 (by rw [eB]; omega) (by rw [eB, eN]; exact h4)
    rw [b1, b2, e]
    exact rread_C2 s w hs K S V B hK0 hS0 hV0 hB0 h1 h2 hk hv (by omega) h4
  by_cases h5 : ckE ⟨K, V⟩ = 0
  case neg =>
    obtain ⟨e, b1, b2⟩ := nr_C3 h0 (by rw [eB]; omega) (by rw [eB, eN]; exact h4) (by rw [eN]; exact h5)
    rw [b1, b2, e, eN]
    exact rread_C3 s w hs K S V B hK0 hS0 hV0 hB0 h1 h2 hk hv (by omega) h4 _ rfl h5
  obtain ⟨e, b1, b2⟩ := nr_C4 h0 (by rw [eB]; omega) (by rw [eB, eN]; exact h4) (by rw [eN]; exact h5)
  rw [b1, b2, e, eN, eB]
  exact rread_C4 s w hs K S V B hK0 hS0 hV0 hB0 h1 h2 hk hv (by omega) h4 h5
end Go.Proofs.YtomcdajoeakhdaaDoor
