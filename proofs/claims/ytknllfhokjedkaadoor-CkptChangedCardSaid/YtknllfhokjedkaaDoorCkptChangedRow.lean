/-
  PROVED: for every input, platelayerlaw06.CkptChanged returns true, leaves its arguments as they were, and ends without a panic.
  Conditions: those of the given card alone (the listed variable errors.errorType is as the program's text lays it).
-/
import Derived.Test.YtknllfhokjedkaaDoorLawLaidA
import Derived.Test.YtknllfhokjedkaaDoorLawCk
import Derived.Test.YtknllfhokjedkaaDoorCkptP
import Derived.Test.YtknllfhokjedkaaDoorCards
import Derived.Test.YtknllfhokjedkaaDoorTie
import Derived.SevenTiedAt
import Derived.OpenShut
namespace Go.Proofs.YtknllfhokjedkaaDoor
open Go.ChangeShapes Go.WideShapes Go.RowKit Go.Joins

set_option maxRecDepth 100000 in
theorem ckptChanged_lifted (os : Os) (started : os.Started) (H : Type) (enc : TypeId × Value → H) :
    ReturnsInHanded {} Tryd.checked os 5 .any (fun w args => (Rows.ckptChangedSpec.pre enc Tryd.prog Tryd.f5 [] false w args ∧ laidMetH Tryd.prog laid1 w) ∧ sizedMet enc Tryd.prog Tryd.f5 (OpenSpec.ofChange Rows.ckptChangedSpec) false w args)
      (Rows.ckptChangedSpec.post enc Tryd.prog Tryd.f5 false true false false) := by
  refine returnsInHanded_of_change_and (C := Tryd.checked) (X := fun w _ => laidMetH Tryd.prog laid1 w) (fun _ _ _ hh h => h.of_heap hh) ownP started (by kernel_rfl) Tryd.func5
    (ChangeSpec.witness_at (enc := enc) (C := Tryd.checked) (os := os) (X := fun w _ => laidMetH Tryd.prog laid1 w) false (laidWorld os) #[.agg #[.int .u32 0, .int .u32 0, .int .u32 0, .int .i64 0, .int .i64 0, .int .i64 0, .slice none 0 0], .int .i64 0, .int .i64 0, .int .u8 0] 8 rfl (by kernel_rfl) (by kernel_rfl) (by kernel_rfl) (by kernel_rfl) (by kernel_rfl) (laidWorld_met os _)) ?_
  intro W base args ds gs before hval0 hW _ _ hL _
  have hval : ∀ (j : Nat) t v, Tryd.f5.params[j]? = some t → args[j]? = some v → Value.okWide Tryd.prog W .any base t v := hval0
  have hW' := hW
  obtain ⟨p, q, hA0, hV0, rfl, hfz, hnd⟩ := hW
  have hA : DataW.TrodAll enc Tryd.prog W 0 (fun _ => true) true Tryd.f5.params.toList args.toList ds p := hA0
  have hV : DataW.TrodVars enc Tryd.prog W (fun _ => true) [] gs q := hV0
  rw [Tryd.params5] at hA hval
  obtain ⟨v0, v1, v2, v3, d0, d1, d2, d3, p0, p1, p2, p3, rfl, rfl, rfl, h0, h1, h2, h3⟩ := trodAll_four hA
  obtain ⟨nu, se, sq, z, p, b, A, dir, cc, rfl, hw, hz, hp, hb0, hc, hr⟩ := open_check (hval 0 27 v0 rfl rfl) h0
  obtain ⟨kb, rfl, rfl, rfl, wkb⟩ := open_int Tryd.underlying3 (hval 1 3 v1 rfl rfl) h1
  obtain ⟨ka, rfl, rfl, rfl, wka⟩ := open_int Tryd.underlying3 (hval 2 3 v2 rfl rfl) h2
  obtain ⟨x, rfl, rfl, rfl, wx⟩ := open_int Tryd.underlying5 (hval 3 5 v3 rfl rfl) h3
  have hx := byte_wf wx
  have hg := gl_of_laid hL
  obtain ⟨rfl, rfl⟩ := trodVars_none hV
  have fin : ∀ W', Below W.heap.size W W' → Rows.ckptChangedSpec.post enc Tryd.prog Tryd.f5 false true false false W #[kV nu se sq z p b (.slice A dir.length cc), .int .i64 kb, .int .i64 ka, .int .u8 x] (.bool true) W' := fun W' hb =>
    law_post laidOutP (by intro t ht; have hp : Tryd.f5.params.toList = [27, 3, 3, 5] := by rw [Tryd.params5]
                          rw [hp] at ht
                          have hall : ([27, 3, 3, 5].all fun t => Tryd.prog.readableRec t && decide (t < Tryd.prog.types.size)) = true := by kernel_rfl
                          simpa using List.all_eq_true.1 hall t ht) rfl (by kernel_rfl) Tryd.underlying4 hW' (by simp [Rows.ckptChangedSpec]) hb
  by_cases h1 : rightC z p b dir.length = true
  · by_cases h2 : kb < 0
    · exact (kchanged_no1 hg nu se sq z p b kb ka x h1 h2).mono fun r W' ⟨hr, hb⟩ => ⟨_, hr, fin W' hb⟩
    · by_cases h3 : ka < 0
      · exact (kchanged_no2 hg nu se sq z p b kb ka x h1 (by omega) h3).mono fun r W' ⟨hr, hb⟩ => ⟨_, hr, fin W' hb⟩
      · by_cases h4 : 16 ≤ ka
        · exact (kchanged_no3 hg nu se sq z p b kb ka x h1 (by omega) (by omega) h4).mono fun r W' ⟨hr, hb⟩ => ⟨_, hr, fin W' hb⟩
        · by_cases h5 : manyC b ≤ kb
          · exact (kchanged_far hg nu se sq z p b kb ka x hr rfl hw ⟨hz, hp, hb0⟩ h1 (by omega) (by omega) (by omega) h5).mono fun r W' ⟨hr, hb⟩ => ⟨_, hr, fin W' hb⟩
          · exact (kchanged_true hg nu se sq z p b kb ka x hr rfl hw ⟨hz, hp, hb0⟩ h1 (by omega) (by omega) (by omega) (by omega) hx).mono fun r W' ⟨hr, hb⟩ => ⟨_, hr, fin W' hb⟩
  · exact (kchanged_no0 hg nu se sq z p b kb ka x (by simpa using h1)).mono fun r W' ⟨hr, hb⟩ => ⟨_, hr, fin W' hb⟩

theorem ckptChanged_holds : Rows.CkptChangedSaid :=
  OpenClaim.holds_of_wide 5 Tryd.f5 rfl rfl rfl rfl rfl rfl rfl ⟨rfl, rfl, rfl, rfl, rfl⟩ rfl rfl rfl rfl rfl (by kernel_rfl) Tryd.func5 (by kernel_rfl)
    (of_decide_eq_true (by kernel_rfl)) (by unfold Func.isWrapper; first | (rw [if_pos (by decide +kernel)]; kernel_rfl) | (rw [if_neg (by decide +kernel)]; exact ⟨rfl, rfl⟩))
    (fun os started H enc _ => ckptChanged_lifted os started H enc)

theorem ckptChanged_card : Rows.CkptChangedCardSaid :=
  Claim7.holds_tied_plain_at .later [] [.handle] true Rows.ckptChangedCard.stood.harness true
    ckptChanged_holds (fun _ h => by cases h) (by kernel_rfl) (fun _ h => by cases h) ckptChanged_row_tie rfl ⟨rfl, rfl⟩ (by kernel_rfl) rfl
    (fun f fn hf hfn => by
      obtain rfl : f = 5 := Option.some.inj ((show Tryd.prog.funcNamed "platelayer/platelayerlaw06.CkptChanged" = some 5 by kernel_rfl).symm.trans hf) |>.symm
      obtain rfl : fn = Tryd.f5 := (Option.some.inj (Tryd.func5.symm.trans hfn)).symm
      exact ⟨by kernel_rfl, fun j t ht => by
        rw [Tryd.params5] at ht
        have hm : t ∈ [27, 3, 3, 5] := by simpa using Array.mem_of_getElem? ht
        have hall : ([27, 3, 3, 5].all fun u => !Tryd.prog.wantsStandIn u) = true := by kernel_rfl
        exact (show Tryd.prog.wantsStandIn t = false by simpa using List.all_eq_true.1 hall t hm)⟩)
    (by kernel_rfl)
#print axioms ckptChanged_card
end Go.Proofs.YtknllfhokjedkaaDoor
