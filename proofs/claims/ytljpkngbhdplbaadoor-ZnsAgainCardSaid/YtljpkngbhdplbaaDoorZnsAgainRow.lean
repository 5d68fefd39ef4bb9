/-
  PROVED: for every input, platelayerlaw07.ZnsAgain returns true, leaves its arguments as they were, and ends without a panic.
  Conditions: those of the given card alone (the listed variable errors.errorType is as the program's text lays it).
-/
import Derived.Test.YtljpkngbhdplbaaDoorLawLaidA
import Derived.Test.YtljpkngbhdplbaaDoorLawZn
import Derived.Test.YtljpkngbhdplbaaDoorZnsW
import Derived.Test.YtljpkngbhdplbaaDoorZnInst
import Derived.Test.YtljpkngbhdplbaaDoorCards
import Derived.Test.YtljpkngbhdplbaaDoorTie
import Derived.SevenTiedAt
import Derived.OpenShut
namespace Go.Proofs.YtljpkngbhdplbaaDoor
open Go.ChangeShapes Go.WideShapes Go.RowKit Go.Joins

set_option maxRecDepth 100000 in
theorem znsAgain_lifted (os : Os) (started : os.Started) (H : Type) (enc : TypeId × Value → H) :
    ReturnsInHanded {} Tryd.checked os 7 .any (fun w args => (Rows.znsAgainSpec.pre enc Tryd.prog Tryd.f7 [] false w args ∧ laidMetH Tryd.prog laid1 w) ∧ sizedMet enc Tryd.prog Tryd.f7 (OpenSpec.ofChange Rows.znsAgainSpec) false w args)
      (Rows.znsAgainSpec.post enc Tryd.prog Tryd.f7 false true false false) := by
  refine returnsInHanded_of_change_and (C := Tryd.checked) (X := fun w _ => laidMetH Tryd.prog laid1 w) (fun _ _ _ hh h => h.of_heap hh) ownP started (by kernel_rfl) Tryd.func7
    (ChangeSpec.witness_at (enc := enc) (C := Tryd.checked) (os := os) (X := fun w _ => laidMetH Tryd.prog laid1 w) false (laidWorld os) #[.int .i64 0, .int .i64 0, .slice none 0 0, .agg #[.int .i64 0, .int .i64 0, .int .i64 0, .slice none 0 0, .slice none 0 0, .slice none 0 0], .agg #[.int .i64 0, .int .i64 0, .int .i64 0, .slice none 0 0, .slice none 0 0, .slice none 0 0]] 8 rfl (by kernel_rfl) (by kernel_rfl) (by kernel_rfl) (by kernel_rfl) (by kernel_rfl) (laidWorld_met os _)) ?_
  intro W base args ds gs before hval0 hW _ _ hL _
  have hval : ∀ (j : Nat) t v, Tryd.f7.params[j]? = some t → args[j]? = some v → Value.okWide Tryd.prog W .any base t v := hval0
  have hW' := hW
  obtain ⟨p, q, hA0, hV0, rfl, hfz, hnd⟩ := hW
  have hA : DataW.TrodAll enc Tryd.prog W 0 (fun _ => true) true Tryd.f7.params.toList args.toList ds p := hA0
  have hV : DataW.TrodVars enc Tryd.prog W (fun _ => true) [] gs q := hV0
  rw [Tryd.params7] at hA hval
  obtain ⟨v0, v1, v2, v3, v4, d0, d1, d2, d3, d4, p0, p1, p2, p3, p4, rfl, rfl, rfl, h0, h1, h2, h3, h4⟩ := trodAll_five hA
  obtain ⟨n, rfl, rfl, rfl, wn⟩ := open_int Tryd.underlying3 (hval 0 3 v0 rfl rfl) h0
  obtain ⟨p, rfl, rfl, rfl, wp⟩ := open_int Tryd.underlying3 (hval 1 3 v1 rfl rfl) h1
  obtain ⟨A, c, l, rfl, hA2, hAc, hok⟩ := open_acts (hval 2 22 v2 rfl rfl) h2
  obtain ⟨y1, b1, k1, t1, rfl, hf1, ho1⟩ := open_act_arg (hval 3 39 v3 rfl rfl) h3
  obtain ⟨y2, b2, k2, t2, rfl, hf2, ho2⟩ := open_act_arg (hval 4 39 v4 rfl rfl) h4
  have hg := gl_of_laid hL
  obtain ⟨rfl, rfl⟩ := trodVars_none hV
  have fin : ∀ W', Below W.heap.size W W' → Rows.znsAgainSpec.post enc Tryd.prog Tryd.f7 false true false false W #[.int .i64 n, .int .i64 p, .slice A l.length c, actV y1 b1 k1 t1, actV y2 b2 k2 t2] (.bool true) W' := fun W' hb =>
    law_post laidOutP (by intro t ht; have hp : Tryd.f7.params.toList = [3, 3, 22, 39, 39] := by rw [Tryd.params7]
                          rw [hp] at ht
                          have hall : ([3, 3, 22, 39, 39].all fun t => Tryd.prog.readableRec t && decide (t < Tryd.prog.types.size)) = true := by kernel_rfl
                          simpa using List.all_eq_true.1 hall t ht) rfl (by kernel_rfl) Tryd.underlying4 hW' (by simp [Rows.znsAgainSpec]) hb
  exact (zagain_true zOps hg n p A l.length c l rfl hA2 hok y1 y2 b1 k1 t1 b2 k2 t2 hf1 hf2 ho1 ho2).mono fun r W' ⟨hr, hb⟩ => ⟨_, hr, fin W' hb⟩

theorem znsAgain_holds : Rows.ZnsAgainSaid :=
  OpenClaim.holds_of_wide 7 Tryd.f7 rfl rfl rfl rfl rfl rfl rfl ⟨rfl, rfl, rfl, rfl, rfl⟩ rfl rfl rfl rfl rfl (by kernel_rfl) Tryd.func7 (by kernel_rfl)
    (of_decide_eq_true (by kernel_rfl)) (by unfold Func.isWrapper; first | (rw [if_pos (by decide +kernel)]; kernel_rfl) | (rw [if_neg (by decide +kernel)]; exact ⟨rfl, rfl⟩))
    (fun os started H enc _ => znsAgain_lifted os started H enc)

theorem znsAgain_card : Rows.ZnsAgainCardSaid :=
  Claim7.holds_tied_plain_at .later [] [.handle] true Rows.znsAgainCard.stood.harness true
    znsAgain_holds (fun _ h => by cases h) (by kernel_rfl) (fun _ h => by cases h) znsAgain_row_tie rfl ⟨rfl, rfl⟩ (by kernel_rfl) rfl
    (fun f fn hf hfn => by
      obtain rfl : f = 7 := Option.some.inj ((show Tryd.prog.funcNamed "platelayer/platelayerlaw07.ZnsAgain" = some 7 by kernel_rfl).symm.trans hf) |>.symm
      obtain rfl : fn = Tryd.f7 := (Option.some.inj (Tryd.func7.symm.trans hfn)).symm
      exact ⟨by kernel_rfl, fun j t ht => by
        rw [Tryd.params7] at ht
        have hm : t ∈ [3, 3, 22, 39, 39] := by simpa using Array.mem_of_getElem? ht
        have hall : ([3, 3, 22, 39, 39].all fun u => !Tryd.prog.wantsStandIn u) = true := by kernel_rfl
        exact (show Tryd.prog.wantsStandIn t = false by simpa using List.all_eq_true.1 hall t hm)⟩)
    (by kernel_rfl)
#print axioms znsAgain_card
end Go.Proofs.YtljpkngbhdplbaaDoor
