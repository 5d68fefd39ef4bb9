/-
  PROVED: for every code e, every slice of steps l and every step more, platelayerlaw01.FaultWraps(e, l, more) returns true, leaves its arguments as they were, and ends without a panic.
  Conditions: those of the given card alone (the listed variable errors.errorType is as the program's text lays it).
-/
import Derived.Test.YtppanjdhfecmpaaDoorLawLaid
import Derived.Test.YtppanjdhfecmpaaDoorFaultM
import Derived.Test.YtppanjdhfecmpaaDoorCards
import Derived.Test.YtppanjdhfecmpaaDoorTie
import Derived.SevenTiedAt
import Derived.Lib.SmallJoins
namespace Go.Proofs.YtppanjdhfecmpaaDoor
open Go.ChangeShapes Go.WideShapes Go.RowKit Go.Joins

set_option maxRecDepth 100000 in
theorem wraps_lifted (os : Os) (started : os.Started) (H : Type) (enc : TypeId × Value → H) :
    ReturnsInHanded {} Tryd.checked os 4 .any (fun w args => (Rows.faultWrapsSpec.pre enc Tryd.prog Tryd.f4 [] false w args ∧ laidMetH Tryd.prog laid1 w) ∧ sizedMet enc Tryd.prog Tryd.f4 (OpenSpec.ofChange Rows.faultWrapsSpec) false w args)
      (Rows.faultWrapsSpec.post enc Tryd.prog Tryd.f4 false true false false) := by
  refine returnsInHanded_of_change_and (C := Tryd.checked) (X := fun w _ => laidMetH Tryd.prog laid1 w) (fun _ _ _ hh h => h.of_heap hh) ownK started (by kernel_rfl) Tryd.func4
    (ChangeSpec.witness_at (enc := enc) (C := Tryd.checked) (os := os) (X := fun w _ => laidMetH Tryd.prog laid1 w) false (laidWorld os) #[.int .i64 0, .slice none 0 0, .agg #[.string ByteArray.empty, .int .i64 0]] 8 rfl (by kernel_rfl) (by kernel_rfl) (by kernel_rfl) (by kernel_rfl) (by kernel_rfl) (laidWorld_met os _)) ?_
  intro W base args ds gs before hval0 hW _ _ hL _
  have hval : ∀ (j : Nat) t v, Tryd.f4.params[j]? = some t → args[j]? = some v → Value.okWide Tryd.prog W .any base t v := hval0
  have hW' := hW
  obtain ⟨p, q, hA0, hV0, rfl, hfz, hnd⟩ := hW
  have hA : DataW.TrodAll enc Tryd.prog W 0 (fun _ => true) true Tryd.f4.params.toList args.toList ds p := hA0
  have hV : DataW.TrodVars enc Tryd.prog W (fun _ => true) [] gs q := hV0
  rw [Tryd.params4] at hA hval
  obtain ⟨v0, v1, v2, d0, d1, d2, p0, p1, p2, rfl, rfl, rfl, h0, h1, h2⟩ := trodAll_three hA
  obtain ⟨e, rfl, rfl, rfl, hwe⟩ := open_int Tryd.underlying22 (hval 0 22 v0 rfl rfl) h0
  obtain ⟨A, l, c, rfl, hc, hsteps⟩ := open_steps Tryd.underlying23 Tryd.underlying44 (by kernel_rfl) rfl rfl (by kernel_rfl) (by kernel_rfl) Tryd.underlying9 Tryd.underlying3 (hval 1 23 v1 rfl rfl) h1
  obtain ⟨c0, c1, y0, y1, m, rfl, rfl, rfl, hy0, hy1⟩ := open_agg2 Tryd.underlying44 (by kernel_rfl) (by kernel_rfl) (hval 2 44 v2 rfl rfl) h2
  obtain ⟨op, eo, _⟩ := DataW.trod_string Tryd.underlying9 hy0
  obtain ⟨n, en, _⟩ := DataW.trod_int Tryd.underlying3 hy1
  simp only [List.cons.injEq, and_true] at eo en
  subst eo en
  have hg := gl_of_laid hL
  obtain ⟨rfl, rfl⟩ := trodVars_none hV
  have fin : ∀ W', Below W.heap.size W W' → Rows.faultWrapsSpec.post enc Tryd.prog Tryd.f4 false true false false W #[.int .i64 e, .slice A l.length c, .agg #[.string op, .int .i64 n]] (.bool true) W' := fun W' hb =>
    law_post laidOutP (by intro t ht; have hp : Tryd.f4.params.toList = [22, 23, 44] := by rw [Tryd.params4]
                          rw [hp] at ht
                          have hall : ([22, 23, 44].all fun t => Tryd.prog.readableRec t && decide (t < Tryd.prog.types.size)) = true := by kernel_rfl
                          simpa using List.all_eq_true.1 hall t ht) rfl (by kernel_rfl) Tryd.underlying4 hW' (by simp [Rows.faultWrapsSpec]) hb
  by_cases hn : 100 < l.length
  · exact (wraps_long hg e A l.length c op n hn).mono fun r W' ⟨hr, hb⟩ => ⟨_, hr, fin W' hb⟩
  · by_cases he : e = 0
    · subst he
      exact (wraps_ok hg A l c op n (by omega) hsteps).mono fun r W' ⟨hr, hb⟩ => ⟨_, hr, fin W' hb⟩
    · exact (wraps_true hg e (by simpa using he) A l c op n (by omega) hsteps).mono fun r W' ⟨hr, hb⟩ => ⟨_, hr, fin W' hb⟩

theorem wraps_holds : Rows.FaultWrapsSaid :=
  OpenClaim.holds_of_wide 4 Tryd.f4 rfl rfl rfl rfl rfl rfl rfl ⟨rfl, rfl, rfl, rfl, rfl⟩ rfl rfl rfl rfl rfl (by kernel_rfl) Tryd.func4 (by kernel_rfl)
    (of_decide_eq_true (by kernel_rfl)) (by unfold Func.isWrapper; first | (rw [if_pos (by decide +kernel)]; kernel_rfl) | (rw [if_neg (by decide +kernel)]; exact ⟨rfl, rfl⟩))
    (fun os started H enc _ => wraps_lifted os started H enc)

theorem wraps_card : Rows.FaultWrapsCardSaid :=
  Claim7.holds_tied_plain_at .later [] [.handle] true Rows.faultWrapsCard.stood.harness true
    wraps_holds (fun _ h => by cases h) (by kernel_rfl) (fun _ h => by cases h) faultWraps_row_tie rfl ⟨rfl, rfl⟩ (by kernel_rfl) rfl
    (fun f fn hf hfn => by
      obtain rfl : f = 4 := Option.some.inj ((show Tryd.prog.funcNamed "platelayer/platelayerlaw01.FaultWraps" = some 4 by kernel_rfl).symm.trans hf) |>.symm
      obtain rfl : fn = Tryd.f4 := (Option.some.inj (Tryd.func4.symm.trans hfn)).symm
      exact ⟨by kernel_rfl, fun j t ht => by
        rw [Tryd.params4] at ht
        have hm : t ∈ [22, 23, 44] := by simpa using Array.mem_of_getElem? ht
        have hall : ([22, 23, 44].all fun u => !Tryd.prog.wantsStandIn u) = true := by kernel_rfl
        exact (show Tryd.prog.wantsStandIn t = false by simpa using List.all_eq_true.1 hall t hm)⟩)
    (by kernel_rfl)
#print axioms wraps_card
end Go.Proofs.YtppanjdhfecmpaaDoor
