/-
  PROVED: for every input, platelayerlaw04.HeadTells returns true, leaves its arguments as they were, and ends without a panic.
  Conditions: those of the given card alone (the listed variable errors.errorType is as the program's text lays it).
-/
import Derived.Test.YtnkkifnglkajfaaDoorLawLaidA
import Derived.Test.YtnkkifnglkajfaaDoorLawBytes
import Derived.Test.YtnkkifnglkajfaaDoorHeadM
import Derived.Test.YtnkkifnglkajfaaDoorCards
import Derived.Test.YtnkkifnglkajfaaDoorTie
import Derived.SevenTiedAt
import Derived.OpenShut
import Derived.Lib.SmallJoins
namespace Go.Proofs.YtnkkifnglkajfaaDoor
open Go.ChangeShapes Go.WideShapes Go.RowKit Go.Joins

set_option maxRecDepth 100000 in
theorem headTells_lifted (os : Os) (started : os.Started) (H : Type) (enc : TypeId × Value → H) :
    ReturnsInHanded {} Tryd.checked os 3 .any (fun w args => (Rows.headTellsSpec.pre enc Tryd.prog Tryd.f3 [] false w args ∧ laidMetH Tryd.prog laid1 w) ∧ sizedMet enc Tryd.prog Tryd.f3 (OpenSpec.ofChange Rows.headTellsSpec) false w args)
      (Rows.headTellsSpec.post enc Tryd.prog Tryd.f3 false true false false) := by
  refine returnsInHanded_of_change_and (C := Tryd.checked) (X := fun w _ => laidMetH Tryd.prog laid1 w) (fun _ _ _ hh h => h.of_heap hh) ownP started (by kernel_rfl) Tryd.func3
    (ChangeSpec.witness_at (enc := enc) (C := Tryd.checked) (os := os) (X := fun w _ => laidMetH Tryd.prog laid1 w) false (laidWorld os) #[.agg #[.int .u8 0, .int .u32 0, .int .u32 0, .int .u32 0], .slice none 0 0, .slice none 0 0] 8 rfl (by kernel_rfl) (by kernel_rfl) (by kernel_rfl) (by kernel_rfl) (by kernel_rfl) (laidWorld_met os _)) ?_
  intro W base args ds gs before hval0 hW _ _ hL _
  have hval : ∀ (j : Nat) t v, Tryd.f3.params[j]? = some t → args[j]? = some v → Value.okWide Tryd.prog W .any base t v := hval0
  have hW' := hW
  obtain ⟨p, q, hA0, hV0, rfl, hfz, hnd⟩ := hW
  have hA : DataW.TrodAll enc Tryd.prog W 0 (fun _ => true) true Tryd.f3.params.toList args.toList ds p := hA0
  have hV : DataW.TrodVars enc Tryd.prog W (fun _ => true) [] gs q := hV0
  rw [Tryd.params3] at hA hval
  obtain ⟨v0, v1, v2, d0, d1, d2, p0, p1, p2, rfl, rfl, rfl, h0, h1, h2⟩ := trodAll_three hA
  obtain ⟨u0, u1, u2, u3, y0, y1, y2, y3, m, rfl, rfl, rfl, hy0, hy1, hy2, hy3⟩ := open_agg4 Tryd.underlying24 (by kernel_rfl) (by kernel_rfl) (hval 0 24 v0 rfl rfl) h0
  obtain ⟨k, e0, rfl, wk⟩ := DataW.trod_int Tryd.underlying5 hy0
  obtain ⟨s, e1, rfl, ws⟩ := DataW.trod_int Tryd.underlying22 hy1
  obtain ⟨i, e2, rfl, wi⟩ := DataW.trod_int Tryd.underlying22 hy2
  obtain ⟨qq, e3, rfl, wq⟩ := DataW.trod_int Tryd.underlying22 hy3
  simp only [List.cons.injEq, and_true] at e0 e1 e2 e3
  subst e0 e1 e2 e3
  have s0 := u32_wf ws
  have i0 := u32_wf wi
  have q0 := u32_wf wq
  obtain ⟨A1, xs1, c1, rfl, hc1, hx1, hr1, hz1⟩ := open_bytes Tryd.underlying25 Tryd.underlying5 (by kernel_rfl) (hval 1 25 v1 rfl rfl) h1
  obtain ⟨A2, xs2, c2, rfl, hc2, hx2, hr2, hz2⟩ := open_bytes Tryd.underlying25 Tryd.underlying5 (by kernel_rfl) (hval 2 25 v2 rfl rfl) h2
  have hg := gl_of_laid hL
  obtain ⟨rfl, rfl⟩ := trodVars_none hV
  have fin : ∀ W', Below W.heap.size W W' → Rows.headTellsSpec.post enc Tryd.prog Tryd.f3 false true false false W #[.agg #[.int .u8 k, .int .u32 s, .int .u32 i, .int .u32 qq], .slice A1 xs1.length c1, .slice A2 xs2.length c2] (.bool true) W' := fun W' hb =>
    law_post laidOutP (by intro t ht; have hp : Tryd.f3.params.toList = [24, 25, 25] := by rw [Tryd.params3]
                          rw [hp] at ht
                          have hall : ([24, 25, 25].all fun t => Tryd.prog.readableRec t && decide (t < Tryd.prog.types.size)) = true := by kernel_rfl
                          simpa using List.all_eq_true.1 hall t ht) rfl (by kernel_rfl) Tryd.underlying4 hW' (by simp [Rows.headTellsSpec]) hb
  by_cases hl : 1000 < xs1.length ∨ 1000 < xs2.length
  · exact (htells_long hg A1 A2 xs1.length xs2.length c1 c2 k s i qq hl).mono fun r W' ⟨hr, hb⟩ => ⟨_, hr, fin W' hb⟩
  · exact (htells_true hg A1 A2 xs1 xs2 xs1.length xs2.length c1 c2 k s i qq hr1 hr2 hx1 hx2 rfl rfl hc1 hc2 (by omega) (by omega) s0 i0 q0).mono fun r W' ⟨hr, hb⟩ => ⟨_, hr, fin W' hb⟩

theorem headTells_holds : Rows.HeadTellsSaid :=
  OpenClaim.holds_of_wide 3 Tryd.f3 rfl rfl rfl rfl rfl rfl rfl ⟨rfl, rfl, rfl, rfl, rfl⟩ rfl rfl rfl rfl rfl (by kernel_rfl) Tryd.func3 (by kernel_rfl)
    (of_decide_eq_true (by kernel_rfl)) (by unfold Func.isWrapper; first | (rw [if_pos (by decide +kernel)]; kernel_rfl) | (rw [if_neg (by decide +kernel)]; exact ⟨rfl, rfl⟩))
    (fun os started H enc _ => headTells_lifted os started H enc)

theorem headTells_card : Rows.HeadTellsCardSaid :=
  Claim7.holds_tied_plain_at .later [] [.handle] true Rows.headTellsCard.stood.harness true
    headTells_holds (fun _ h => by cases h) (by kernel_rfl) (fun _ h => by cases h) headTells_row_tie rfl ⟨rfl, rfl⟩ (by kernel_rfl) rfl
    (fun f fn hf hfn => by
      obtain rfl : f = 3 := Option.some.inj ((show Tryd.prog.funcNamed "platelayer/platelayerlaw04.HeadTells" = some 3 by kernel_rfl).symm.trans hf) |>.symm
      obtain rfl : fn = Tryd.f3 := (Option.some.inj (Tryd.func3.symm.trans hfn)).symm
      exact ⟨by kernel_rfl, fun j t ht => by
        rw [Tryd.params3] at ht
        have hm : t ∈ [24, 25, 25] := by simpa using Array.mem_of_getElem? ht
        have hall : ([24, 25, 25].all fun u => !Tryd.prog.wantsStandIn u) = true := by kernel_rfl
        exact (show Tryd.prog.wantsStandIn t = false by simpa using List.all_eq_true.1 hall t hm)⟩)
    (by kernel_rfl)
#print axioms headTells_card
end Go.Proofs.YtnkkifnglkajfaaDoor
