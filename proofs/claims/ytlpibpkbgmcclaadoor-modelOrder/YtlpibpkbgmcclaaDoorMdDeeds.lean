/- What deeds of a model answers: what each kind does. -/
import Derived.Test.YtlpibpkbgmcclaaDoorMdMem
import Derived.Handy
namespace Go.Proofs.YtlpibpkbgmcclaaDoor
open Go.RowKit
set_option linter.unusedVariables false
def fnV (f : Nat) (x : Nat) : Value := .func (.func f) #[.pointer (some ⟨x, 0, none⟩)] #[]
def dsF (x : Nat) : Int → Option Value := fun d => if d = 0 then some (fnV 26 x) else if d = 1 then some (fnV 27 x) else if d = 2 then some (fnV 28 x) else if d = 3 then some (fnV 29 x) else if d = 4 then some (fnV 30 x) else none
set_option maxRecDepth 100000 in
set_option maxHeartbeats 8000000 in
theorem md_deeds (x : Nat) (w : World) : Calls Tryd.prog 17 #[.pointer (some ⟨x, 0, none⟩)] w fun e w' => ∃ g, e = .returned (.map (some g)) ∧ MAt w' 3 g 5 lInt OkI (dsF x) ∧ Below w.heap.size w w' := by
  have hmf : ∀ (f : Nat) (v : Value) W, (Instr.makeFunc (Fn.func f) #[v] #[]).run Tryd.prog W = .ok (.func (.func f) #[v] #[]) W := fun f v W => by rfl
  have hmm := @run_makeMap Tryd.prog
  have HM0 := hide (MAt.made w 3 lInt OkI)
  have HB0 : Hid (Bm w.heap.size w (w.alloc (.map #[] 0))) := Bm.of_below ((Below.refl _ _).alloc (Nat.le_refl _) _)
  go_enter Tryd.func17, Tryd.ntmps17
  go_wp2_with (first | (refine wp_mins rfl (.tmp 3) (.const (.int .i64 0)) (.tmp 5) 45 rfl 33 ke_int Tryd.underlying45 (by decide) 0 (by unfold OkI; omega) (fnV 26 x) rfl HM0.out rfl rfl ?_; intro w1 hm1 ht1; have HM1 := hide hm1; have HB1 := hide (HB0.out.trans (turn_bm ht1)); clear hm1 ht1) | (refine wp_mins rfl (.tmp 3) (.const (.int .i64 1)) (.tmp 7) 45 rfl 33 ke_int Tryd.underlying45 (by decide) 1 (by unfold OkI; omega) (fnV 27 x) rfl HM1.out rfl rfl ?_; intro w2 hm2 ht2; have HM2 := hide hm2; have HB2 := hide (HB1.out.trans (turn_bm ht2)); clear hm2 ht2) | (refine wp_mins rfl (.tmp 3) (.const (.int .i64 2)) (.tmp 9) 45 rfl 33 ke_int Tryd.underlying45 (by decide) 2 (by unfold OkI; omega) (fnV 28 x) rfl HM2.out rfl rfl ?_; intro w3 hm3 ht3; have HM3 := hide hm3; have HB3 := hide (HB2.out.trans (turn_bm ht3)); clear hm3 ht3) | (refine wp_mins rfl (.tmp 3) (.const (.int .i64 3)) (.tmp 11) 45 rfl 33 ke_int Tryd.underlying45 (by decide) 3 (by unfold OkI; omega) (fnV 29 x) rfl HM3.out rfl rfl ?_; intro w4 hm4 ht4; have HM4 := hide hm4; have HB4 := hide (HB3.out.trans (turn_bm ht4)); clear hm4 ht4) | (refine wp_mins rfl (.tmp 3) (.const (.int .i64 4)) (.tmp 13) 45 rfl 33 ke_int Tryd.underlying45 (by decide) 4 (by unfold OkI; omega) (fnV 30 x) rfl HM4.out rfl rfl ?_; intro w5 hm5 ht5; have HM5 := hide hm5; have HB5 := hide (HB4.out.trans (turn_bm ht5)); clear hm5 ht5))
  first | go_ret | go_returns
  refine ⟨w.heap.size, rfl, HM5.out.congr fun d _ => ?_, ⟨HB5.out.os, HB5.out.tape, HB5.out.output, HB5.out.size, fun i hi => HB5.out.blk i hi (by omega)⟩⟩
  unfold mset dsF
  by_cases h4 : d = 4
  · subst h4; rfl
  · rw [if_neg h4]
    by_cases h3 : d = 3
    · subst h3; rfl
    · rw [if_neg h3]
      by_cases h2 : d = 2
      · subst h2; rfl
      · rw [if_neg h2]
        by_cases h1 : d = 1
        · subst h1; rfl
        · rw [if_neg h1]
          by_cases h0 : d = 0
          · subst h0; rfl
          · simp [h0, h1, h2, h3, h4]
end Go.Proofs.YtlpibpkbgmcclaaDoor
