/-
  PROVED: for every input, platelayerlaw15.SlotReads returns true, leaves its arguments as they were, and ends without a panic.
  Conditions: those of the given card alone (the listed variable errors.errorType is as the program's text lays it).
-/
import Derived.Test.YthmpimjmajoimaaGreatDoorSr01
import Derived.Test.YthmpimjmajoimaaGreatDoorSr43
import Derived.Test.YthmpimjmajoimaaGreatDoorSr44
import Derived.Test.YthmpimjmajoimaaGreatDoorCards
import Derived.Test.YthmpimjmajoimaaGreatDoorTie
import Derived.SevenTiedAt
import Derived.OpenShut
namespace Go.Proofs.YthmpimjmajoimaaGreatDoor
open Go.ChangeShapes Go.WideShapes Go.RowKit Go.Joins

set_option maxRecDepth 100000 in
theorem slotReads_lifted (os : Os) (started : os.Started) (H : Type) (enc : TypeId × Value → H) :
    ReturnsInHanded {} Tryz.checked os 4 .any (fun w args => (Rows.slotReadsSpec.pre enc Tryz.prog Tryz.f4 [] false w args ∧ laidMetH Tryz.prog laid1 w) ∧ sizedMet enc Tryz.prog Tryz.f4 (OpenSpec.ofChange Rows.slotReadsSpec) false w args)
      (Rows.slotReadsSpec.post enc Tryz.prog Tryz.f4 false true false false) := by
  refine returnsInHanded_of_change_and (C := Tryz.checked) (X := fun w _ => laidMetH Tryz.prog laid1 w) (fun _ _ _ hh h => h.of_heap hh) ownP started (by kernel_rfl) Tryz.func4
    (ChangeSpec.witness_at (enc := enc) (C := Tryz.checked) (os := os) (X := fun w _ => laidMetH Tryz.prog laid1 w) false (laidWorld os) #[.int .i64 0, .slice none 0 0] 8 rfl (by kernel_rfl) (by kernel_rfl) (by kernel_rfl) (by kernel_rfl) (by kernel_rfl) (laidWorld_met os _)) ?_
  intro W base args ds gs before hval0 hW _ _ hL _
  have hval : ∀ (j : Nat) t v, Tryz.f4.params[j]? = some t → args[j]? = some v → Value.okWide Tryz.prog W .any base t v := hval0
  have hW' := hW
  obtain ⟨p, q, hA0, hV0, rfl, hfz, hnd⟩ := hW
  have hA : DataW.TrodAll enc Tryz.prog W 0 (fun _ => true) true Tryz.f4.params.toList args.toList ds p := hA0
  have hV : DataW.TrodVars enc Tryz.prog W (fun _ => true) [] gs q := hV0
  rw [Tryz.params4] at hA hval
  obtain ⟨v0, v1, d0, d1, p0, p1, rfl, rfl, rfl, h0, h1⟩ := trodAll_two hA
  obtain ⟨p, rfl, rfl, rfl, wp⟩ := open_int Tryz.underlying3 (hval 0 3 v0 rfl rfl) h0
  obtain ⟨L, hL3, hLb⟩ := openRR (hval 1 59 v1 rfl rfl) h1
  have hg := gl_of_laid hL
  obtain ⟨rfl, rfl⟩ := trodVars_none hV
  have fin : ∀ W', Below W.heap.size W W' → Rows.slotReadsSpec.post enc Tryz.prog Tryz.f4 false true false false W #[.int .i64 p, v1] (.bool true) W' := fun W' hb =>
    law_post laidOutP (by intro t ht; have hp : Tryz.f4.params.toList = [3, 59] := by rw [Tryz.params4]
                          rw [hp] at ht
                          have hall : ([3, 59].all fun t => Tryz.prog.readableRec t && decide (t < Tryz.prog.types.size)) = true := by kernel_rfl
                          simpa using List.all_eq_true.1 hall t ht) rfl (by kernel_rfl) Tryz.underlying4 hW' (by simp [Rows.slotReadsSpec]) hb
  exact (sreads_true slO hg p v1 L hL3 hLb).mono fun r W' ⟨hr, hb⟩ => ⟨_, hr, fin W' hb⟩

theorem slotReads_holds : Rows.SlotReadsSaid :=
  OpenClaim.holds_of_wide 4 Tryz.f4 rfl rfl rfl rfl rfl rfl rfl ⟨rfl, rfl, rfl, rfl, rfl⟩ rfl rfl rfl rfl rfl (by kernel_rfl) Tryz.func4 (by kernel_rfl)
    (of_decide_eq_true (by kernel_rfl)) (by unfold Func.isWrapper; first | (rw [if_pos (by decide +kernel)]; kernel_rfl) | (rw [if_neg (by decide +kernel)]; exact ⟨rfl, rfl⟩))
    (fun os started H enc _ => slotReads_lifted os started H enc)

theorem slotReads_card : Rows.SlotReadsCardSaid :=
  Claim7.holds_tied_plain_at .later [] [.handle] true Rows.slotReadsCard.stood.harness true
    slotReads_holds (fun _ h => by cases h) (by kernel_rfl) (fun _ h => by cases h) slotReads_row_tie rfl ⟨rfl, rfl⟩ (by kernel_rfl) rfl
    (fun f fn hf hfn => by
      obtain rfl : f = 4 := Option.some.inj ((show Tryz.prog.funcNamed "platelayer/platelayerlaw15.SlotReads" = some 4 by kernel_rfl).symm.trans hf) |>.symm
      obtain rfl : fn = Tryz.f4 := (Option.some.inj (Tryz.func4.symm.trans hfn)).symm
      exact ⟨by kernel_rfl, fun j t ht => by
        rw [Tryz.params4] at ht
        have hm : t ∈ [3, 59] := by simpa using Array.mem_of_getElem? ht
        have hall : ([3, 59].all fun u => !Tryz.prog.wantsStandIn u) = true := by kernel_rfl
        exact (show Tryz.prog.wantsStandIn t = false by simpa using List.all_eq_true.1 hall t hm)⟩)
    (by kernel_rfl)
#print axioms slotReads_card
end Go.Proofs.YthmpimjmajoimaaGreatDoor
