/-
  PROVED: for every code e, every slice of steps l, every text op and every code other, platelayerlaw01.FaultTells(e, l, op, other) returns true, leaves its arguments as they were, and ends without a panic.
  Conditions: those of the given card alone (the listed variable errors.errorType is as the program's text lays it).
-/
import Derived.Test.YtppanjdhfecmpaaDoorLawLaid
import Derived.Test.YtppanjdhfecmpaaDoorFaultO
import Derived.Test.YtppanjdhfecmpaaDoorCards
import Derived.Test.YtppanjdhfecmpaaDoorTie
import Derived.SevenTiedAt
import Derived.Lib.SmallJoins
import Derived.ChangeMaps5
namespace Go.Proofs.YtppanjdhfecmpaaDoor
open Go.ChangeShapes Go.WideShapes Go.RowKit Go.Joins Go.ChangeMaps

set_option maxRecDepth 100000 in
theorem tells_lifted (os : Os) (started : os.Started) (H : Type) (enc : TypeId × Value → H) :
    ReturnsInHanded {} Tryd.checked os 3 .any (fun w args => (Rows.faultTellsSpec.pre enc Tryd.prog Tryd.f3 [] false w args ∧ laidMetH Tryd.prog laid1 w) ∧ sizedMet enc Tryd.prog Tryd.f3 (OpenSpec.ofChange Rows.faultTellsSpec) false w args)
      (Rows.faultTellsSpec.post enc Tryd.prog Tryd.f3 false true false false) := by
  refine returnsInHanded_of_change_and (C := Tryd.checked) (X := fun w _ => laidMetH Tryd.prog laid1 w) (fun _ _ _ hh h => h.of_heap hh) ownK started (by kernel_rfl) Tryd.func3
    (ChangeSpec.witness_at (enc := enc) (C := Tryd.checked) (os := os) (X := fun w _ => laidMetH Tryd.prog laid1 w) false (laidWorld os) #[.int .i64 0, .slice none 0 0, .string ByteArray.empty, .int .i64 0] 8 rfl (by kernel_rfl) (by kernel_rfl) (by kernel_rfl) (by kernel_rfl) (by kernel_rfl) (laidWorld_met os _)) ?_
  intro W base args ds gs before hval0 hW _ _ hL _
  have hval : ∀ (j : Nat) t v, Tryd.f3.params[j]? = some t → args[j]? = some v → Value.okWide Tryd.prog W .any base t v := hval0
  have hW' := hW
  obtain ⟨p, q, hA0, hV0, rfl, hfz, hnd⟩ := hW
  have hA : DataW.TrodAll enc Tryd.prog W 0 (fun _ => true) true Tryd.f3.params.toList args.toList ds p := hA0
  have hV : DataW.TrodVars enc Tryd.prog W (fun _ => true) [] gs q := hV0
  rw [Tryd.params3] at hA hval
  obtain ⟨v0, v1, v2, v3, d0, d1, d2, d3, p0, p1, p2, p3, rfl, rfl, rfl, h0, h1, h2, h3⟩ := trodAll_four hA
  obtain ⟨e, rfl, rfl, rfl, hwe⟩ := open_int Tryd.underlying22 (hval 0 22 v0 rfl rfl) h0
  obtain ⟨A, l, c, rfl, hc, hsteps⟩ := open_steps Tryd.underlying23 Tryd.underlying44 (by kernel_rfl) rfl rfl (by kernel_rfl) (by kernel_rfl) Tryd.underlying9 Tryd.underlying3 (hval 1 23 v1 rfl rfl) h1
  obtain ⟨op, rfl, rfl, rfl, _⟩ := open_string Tryd.underlying9 (hval 2 9 v2 rfl rfl) h2
  obtain ⟨o, rfl, rfl, rfl, _⟩ := open_int Tryd.underlying22 (hval 3 22 v3 rfl rfl) h3
  have hg := gl_of_laid hL
  obtain ⟨rfl, rfl⟩ := trodVars_none hV
  have fin : ∀ W', Below W.heap.size W W' → Rows.faultTellsSpec.post enc Tryd.prog Tryd.f3 false true false false W #[.int .i64 e, .slice A l.length c, .string op, .int .i64 o] (.bool true) W' := fun W' hb =>
    law_post laidOutP (by intro t ht; have hp : Tryd.f3.params.toList = [22, 23, 9, 22] := by rw [Tryd.params3]
                          rw [hp] at ht
                          have hall : ([22, 23, 9, 22].all fun t => Tryd.prog.readableRec t && decide (t < Tryd.prog.types.size)) = true := by kernel_rfl
                          simpa using List.all_eq_true.1 hall t ht) rfl (by kernel_rfl) Tryd.underlying4 hW' (by simp [Rows.faultTellsSpec]) hb
  by_cases hn : 100 < l.length
  · exact (tells_long hg e A l.length c op o hn).mono fun r W' ⟨hr, hb⟩ => ⟨_, hr, fin W' hb⟩
  · by_cases he : e = 0
    · subst he
      exact (tells_ok hg A l c op o (by omega) hsteps).mono fun r W' ⟨hr, hb⟩ => ⟨_, hr, fin W' hb⟩
    · exact (tells_true hg e (by simpa using he) A l c op o (by omega) hsteps).mono fun r W' ⟨hr, hb⟩ => ⟨_, hr, fin W' hb⟩

theorem tells_holds : Rows.FaultTellsSaid :=
  OpenClaim.holds_of_wide 3 Tryd.f3 rfl rfl rfl rfl rfl rfl rfl ⟨rfl, rfl, rfl, rfl, rfl⟩ rfl rfl rfl rfl rfl (by kernel_rfl) Tryd.func3 (by kernel_rfl)
    (of_decide_eq_true (by kernel_rfl)) (by unfold Func.isWrapper; first | (rw [if_pos (by decide +kernel)]; kernel_rfl) | (rw [if_neg (by decide +kernel)]; exact ⟨rfl, rfl⟩))
    (fun os started H enc _ => tells_lifted os started H enc)

theorem tells_card : Rows.FaultTellsCardSaid :=
  Claim7.holds_tied_plain_at .later [] [.handle] true Rows.faultTellsCard.stood.harness true
    tells_holds (fun _ h => by cases h) (by kernel_rfl) (fun _ h => by cases h) faultTells_row_tie rfl ⟨rfl, rfl⟩ (by kernel_rfl) rfl
    (fun f fn hf hfn => by
      obtain rfl : f = 3 := Option.some.inj ((show Tryd.prog.funcNamed "platelayer/platelayerlaw01.FaultTells" = some 3 by kernel_rfl).symm.trans hf) |>.symm
      obtain rfl : fn = Tryd.f3 := (Option.some.inj (Tryd.func3.symm.trans hfn)).symm
      exact ⟨by kernel_rfl, fun j t ht => by
        rw [Tryd.params3] at ht
        have hm : t ∈ [22, 23, 9, 22] := by simpa using Array.mem_of_getElem? ht
        have hall : ([22, 23, 9, 22].all fun u => !Tryd.prog.wantsStandIn u) = true := by kernel_rfl
        exact (show Tryd.prog.wantsStandIn t = false by simpa using List.all_eq_true.1 hall t hm)⟩)
    (by kernel_rfl)
#print axioms tells_card
end Go.Proofs.YtppanjdhfecmpaaDoor
