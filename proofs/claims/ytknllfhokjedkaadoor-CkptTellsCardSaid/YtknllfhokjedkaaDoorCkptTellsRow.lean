/-
  PROVED: for every input, platelayerlaw06.CkptTells returns true, leaves its arguments as they were, and ends without a panic.
  Conditions: those of the given card alone (the listed variable errors.errorType is as the program's text lays it).
-/
import Derived.Test.YtknllfhokjedkaaDoorLawLaidA
import Derived.Test.YtknllfhokjedkaaDoorLawCk
import Derived.Test.YtknllfhokjedkaaDoorCkptM
import Derived.Test.YtknllfhokjedkaaDoorCards
import Derived.Test.YtknllfhokjedkaaDoorTie
import Derived.SevenTiedAt
import Derived.OpenShut
namespace Go.Proofs.YtknllfhokjedkaaDoor
open Go.ChangeShapes Go.WideShapes Go.RowKit Go.Joins

set_option maxRecDepth 100000 in
theorem ckptTells_lifted (os : Os) (started : os.Started) (H : Type) (enc : TypeId × Value → H) :
    ReturnsInHanded {} Tryd.checked os 3 .any (fun w args => (Rows.ckptTellsSpec.pre enc Tryd.prog Tryd.f3 [] false w args ∧ laidMetH Tryd.prog laid1 w) ∧ sizedMet enc Tryd.prog Tryd.f3 (OpenSpec.ofChange Rows.ckptTellsSpec) false w args)
      (Rows.ckptTellsSpec.post enc Tryd.prog Tryd.f3 false true false false) := by
  refine returnsInHanded_of_change_and (C := Tryd.checked) (X := fun w _ => laidMetH Tryd.prog laid1 w) (fun _ _ _ hh h => h.of_heap hh) ownP started (by kernel_rfl) Tryd.func3
    (ChangeSpec.witness_at (enc := enc) (C := Tryd.checked) (os := os) (X := fun w _ => laidMetH Tryd.prog laid1 w) false (laidWorld os) #[.agg #[.int .u32 0, .int .u32 0, .int .u32 0, .int .i64 0, .int .i64 0, .int .i64 0, .slice none 0 0], .agg #[.int .u32 0, .int .u32 0, .int .u32 0, .int .i64 0, .int .i64 0, .int .i64 0, .slice none 0 0], .slice none 0 0] 8 rfl (by kernel_rfl) (by kernel_rfl) (by kernel_rfl) (by kernel_rfl) (by kernel_rfl) (laidWorld_met os _)) ?_
  intro W base args ds gs before hval0 hW _ _ hL _
  have hval : ∀ (j : Nat) t v, Tryd.f3.params[j]? = some t → args[j]? = some v → Value.okWide Tryd.prog W .any base t v := hval0
  have hW' := hW
  obtain ⟨p, q, hA0, hV0, rfl, hfz, hnd⟩ := hW
  have hA : DataW.TrodAll enc Tryd.prog W 0 (fun _ => true) true Tryd.f3.params.toList args.toList ds p := hA0
  have hV : DataW.TrodVars enc Tryd.prog W (fun _ => true) [] gs q := hV0
  rw [Tryd.params3] at hA hval
  obtain ⟨v0, v1, v2, d0, d1, d2, p0, p1, p2, rfl, rfl, rfl, h0, h1, h2⟩ := trodAll_three hA
  obtain ⟨nu, se, sq, z, p, b, A, dir, cc, rfl, hw, hz, hp, hb0, hc, hr⟩ := open_check (hval 0 27 v0 rfl rfl) h0
  obtain ⟨nu2, se2, sq2, z2, p2, b2, A2, dir2, cc2, rfl, hw2, hz2, hp2, hb2, hc2, hr2⟩ := open_check (hval 1 27 v1 rfl rfl) h1
  obtain ⟨l, hrow, hx⟩ := open_rows Tryd.underlying28 Tryd.underlying55 Tryd.underlying5 (by kernel_rfl) (by kernel_rfl) (hval 2 28 v2 rfl rfl) h2
  obtain ⟨AV, cv, vs, rfl, hvc, hv, hvr⟩ := hrow
  have hg := gl_of_laid hL
  obtain ⟨rfl, rfl⟩ := trodVars_none hV
  have fin : ∀ W', Below W.heap.size W W' → Rows.ckptTellsSpec.post enc Tryd.prog Tryd.f3 false true false false W #[kV nu se sq z p b (.slice A dir.length cc), kV nu2 se2 sq2 z2 p2 b2 (.slice A2 dir2.length cc2), .slice AV l.length cv] (.bool true) W' := fun W' hb =>
    law_post laidOutP (by intro t ht; have hp : Tryd.f3.params.toList = [27, 27, 28] := by rw [Tryd.params3]
                          rw [hp] at ht
                          have hall : ([27, 27, 28].all fun t => Tryd.prog.readableRec t && decide (t < Tryd.prog.types.size)) = true := by kernel_rfl
                          simpa using List.all_eq_true.1 hall t ht) rfl (by kernel_rfl) Tryd.underlying4 hW' (by simp [Rows.ckptTellsSpec]) hb
  by_cases hlg : largeB l = true ∨ 100 < dir.length ∨ 100 < dir2.length
  · exact (ktells_large hg nu se sq z p b nu2 se2 sq2 z2 p2 b2 ⟨AV, cv, vs, rfl, hvc, hv, hvr⟩ hlg).mono fun r W' ⟨hr, hb⟩ => ⟨_, hr, fin W' hb⟩
  · simp only [not_or] at hlg
    exact (ktells_true hg nu se sq z p b nu2 se2 sq2 z2 p2 b2 hr rfl hw hz hp hb0 hr2 rfl rfl hvc hv hvr hx (by simpa using hlg.1) (by omega) (by omega)).mono fun r W' ⟨hr, hb⟩ => ⟨_, hr, fin W' hb⟩

theorem ckptTells_holds : Rows.CkptTellsSaid :=
  OpenClaim.holds_of_wide 3 Tryd.f3 rfl rfl rfl rfl rfl rfl rfl ⟨rfl, rfl, rfl, rfl, rfl⟩ rfl rfl rfl rfl rfl (by kernel_rfl) Tryd.func3 (by kernel_rfl)
    (of_decide_eq_true (by kernel_rfl)) (by unfold Func.isWrapper; first | (rw [if_pos (by decide +kernel)]; kernel_rfl) | (rw [if_neg (by decide +kernel)]; exact ⟨rfl, rfl⟩))
    (fun os started H enc _ => ckptTells_lifted os started H enc)

theorem ckptTells_card : Rows.CkptTellsCardSaid :=
  Claim7.holds_tied_plain_at .later [] [.handle] true Rows.ckptTellsCard.stood.harness true
    ckptTells_holds (fun _ h => by cases h) (by kernel_rfl) (fun _ h => by cases h) ckptTells_row_tie rfl ⟨rfl, rfl⟩ (by kernel_rfl) rfl
    (fun f fn hf hfn => by
      obtain rfl : f = 3 := Option.some.inj ((show Tryd.prog.funcNamed "platelayer/platelayerlaw06.CkptTells" = some 3 by kernel_rfl).symm.trans hf) |>.symm
      obtain rfl : fn = Tryd.f3 := (Option.some.inj (Tryd.func3.symm.trans hfn)).symm
      exact ⟨by kernel_rfl, fun j t ht => by
        rw [Tryd.params3] at ht
        have hm : t ∈ [27, 27, 28] := by simpa using Array.mem_of_getElem? ht
        have hall : ([27, 27, 28].all fun u => !Tryd.prog.wantsStandIn u) = true := by kernel_rfl
        exact (show Tryd.prog.wantsStandIn t = false by simpa using List.all_eq_true.1 hall t hm)⟩)
    (by kernel_rfl)
#print axioms ckptTells_card
end Go.Proofs.YtknllfhokjedkaaDoor
