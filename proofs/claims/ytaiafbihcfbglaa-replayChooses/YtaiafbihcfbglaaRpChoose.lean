/- What replay.Choose answers: the longest prefix of any logs, and which it is. -/
import Derived.Test.YtaiafbihcfbglaaRpLogs
import Derived.Test.YtaiafbihcfbglaaRpPrefix
namespace Go.Proofs.Ytaiafbihcfbglaa
open Go.RowKit
set_option linter.unusedVariables false
set_option maxRecDepth 100000 in
set_option maxHeartbeats 8000000 in
theorem choose_any (a : Option Addr) (c n : Nat) (gs : List LG) (w : World) (hl : gs.length = n) (hn : n ≤ 9223372036854775807) (h : LogsAt w a gs) (hsz : ∀ g ∈ gs, g.ss.length ≤ 9223372036854775807 ∧ ∀ s ∈ g.ss, s.size ≤ 150000000000000) : Calls Try.prog 22 #[.slice a n c] w (ChP gs w) := by
  have HL := hide hl
  have HR := hide h
  have HZ := hide hsz
  clear hl h hsz
  go_enter Try.func22, Try.ntmps22
  go_wp2_with fail
  go_loopw [4, 5, 11] (fun x y z wr => ∃ k : Nat, k ≤ n ∧ z = .int .i64 k ∧ ChI gs k w wr x y) (fun _ _ z _ => n - (intOf z).toNat)
  case atStart => exact ⟨0, by omega, rfl, ChI.nil gs w⟩
  case round =>
    obtain ⟨k, hk, rfl, l, la, lc, rfl, hlc, rfl, hlm, hlr, hlb⟩ := hrel
    have HLM := hide hlm
    have HLR := hide hlr
    have HLB := hide hlb
    have HLL : Hid (l.length = (choR (lgS gs) k).1.length) := by show _ = _; rw [← hlm, List.length_map]
    clear hlm hlr hlb
    by_cases hlt : k < n
    · have hd : decide ((k : Int) < (n : Int)) = true := by simp; omega
      have hdi : (k : Int) < (n : Int) := by omega
      have hd0 : (0 : Int) ≤ (k : Int) := by omega
      obtain ⟨g, hg⟩ : ∃ x, gs[k]? = some x := ⟨_, List.getElem?_eq_getElem (by have := HL.out; omega)⟩
      obtain ⟨b1, o1, rfl, hb1, e1, hst⟩ := (HR.out.below HLB.out).nth hg
      obtain ⟨z1, z2⟩ := HZ.out g (List.mem_of_getElem? hg)
      have HST := hide hst
      have HZ2 := hide z2
      have HYES := hide (fun q => choR_yes hg q)
      have HNO := hide (fun q1 q2 => choR_no hg q1 q2)
      clear hg hst z2
      obtain ⟨ga, gc, gss⟩ := g
      simp only at e1 HST z1 HZ2 HYES HNO
      obtain ⟨gn, hgn⟩ : ∃ gn, gss.length = gn := ⟨_, rfl⟩
      have HGN := hide hgn
      rw [hgn] at e1 z1
      clear hgn
      go_wp2_with fail
      refine (prefix_any ga gn gc gss wr HGN.out z1 HST.out HZ2.out).mono ?_
      rintro e w1 ⟨m, ma, mc, rfl, hmc, hmm, hmr, hmb⟩
      have HMM := hide hmm
      have HMR := hide hmr
      have HMB : Hid (Below w.heap.size w w1) := HLB.out.trans (hmb.mono HLB.out.size)
      have HLR1 := hide (HLR.out.below hmb)
      have HML : Hid (m.length = (prefR gss).length) := by show _ = _; rw [← hmm, List.length_map]
      clear hmm hmr hmb HLR
      by_cases hneg : (choR (lgS gs) k).2 < 0
      · have d1 : decide ((choR (lgS gs) k).2 < 0) = true := by simpa using hneg
        have HE := hide (HYES.out (.inl hneg))
        clear hneg HYES HNO
        generalize choR (lgS gs) k = C at *
        go_wp2_with fail
        exact ⟨⟨k + 1, by omega, by go_num, m, ma, mc, rfl, hmc, by rw [HE.out], by rw [HE.out]; exact HMM.out, HMR.out, HMB.out⟩, by simp [intOf]; omega⟩
      · have d1 : decide ((choR (lgS gs) k).2 < 0) = false := by simpa using hneg
        by_cases hlen : l.length < m.length
        · have d2 : decide ((l.length : Int) < (m.length : Int)) = true := by simp; omega
          have d3 : (l.length : Int) < (m.length : Int) := by omega
          have HE := hide (HYES.out (.inr (by have := HLL.out; have := HML.out; omega)))
          clear hneg HYES HNO
          generalize choR (lgS gs) k = C at *
          go_wp2_with fail
          exact ⟨⟨k + 1, by omega, by go_num, m, ma, mc, rfl, hmc, by rw [HE.out], by rw [HE.out]; exact HMM.out, HMR.out, HMB.out⟩, by simp [intOf]; omega⟩
        · have d2 : decide ((l.length : Int) < (m.length : Int)) = false := by simp; omega
          have d3 : ¬ (l.length : Int) < (m.length : Int) := by omega
          have HE := hide (HNO.out (by omega) (by have := HLL.out; have := HML.out; omega))
          clear hneg HYES HNO
          generalize choR (lgS gs) k = C at *
          go_wp2_with fail
          exact ⟨⟨k + 1, by omega, by go_num, l, la, lc, rfl, hlc, by rw [HE.out], by rw [HE.out]; exact HLM.out, HLR1.out, HMB.out⟩, by simp [intOf]; omega⟩
    · have hd : decide ((k : Int) < (n : Int)) = false := by simp; omega
      have hdi : ¬ (k : Int) < (n : Int) := by omega
      have HE : Hid (k = gs.length) := by have := HL.out; show k = _; omega
      have HF : Hid (ChP gs w (.returned (.tuple #[.slice la l.length lc, .int .i64 (choR (lgS gs) k).2])) wr) := ⟨_, _, rfl, l, la, lc, rfl, hlc, by rw [← HE.out], by rw [← HE.out]; exact HLM.out, HLR.out, HLB.out⟩
      generalize choR (lgS gs) k = C at *
      go_wp2_with fail
      try go_ret2
      exact HF.out
end Go.Proofs.Ytaiafbihcfbglaa
