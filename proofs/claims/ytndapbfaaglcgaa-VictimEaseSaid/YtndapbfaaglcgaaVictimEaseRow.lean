/-
  PROVED: for every input, platelayerlaw12.VictimEase returns true, leaves its arguments as they were, and ends without a panic.
  Conditions: none beyond the given row.
-/
import Derived.Test.YtndapbfaaglcgaaVcI
import Derived.Test.YtndapbfaaglcgaaLawVc
import Derived.ProofKit
import Derived.Lib.SmallJoins
namespace Go.Proofs.Ytndapbfaaglcgaa
open Go.ChangeShapes Go.WideShapes Go.ChangeAt Go.RowKit Go.Joins

set_option maxRecDepth 100000 in
theorem victimEase_lifted (O : VOps) (os : Os) (started : os.Started) (H : Type) (enc : TypeId × Value → H) :
    ReturnsInHanded {} Try.checked os 6 .any (Rows.victimEaseSpec.pre6 enc Try.prog Try.f6 Rows.victimEaseRow.domain false) (Rows.victimEaseSpec.post enc Try.prog Try.f6 false true false false) := by
  refine returnsInHanded_of_change (C := Try.checked) ownP started (by kernel_rfl) Try.func6
    (ChangeSpec.witness6 (enc := enc) (C := Try.checked) false ⟨#[], #[.int .i64 0, .int .i64 0, .slice none 0 0, .slice none 0 0], []⟩ 8 (by kernel_rfl) (by kernel_rfl) (by kernel_rfl) (by kernel_rfl)) ?_
  intro W base args ds gs before hval0 hW _ _
  have hval : ∀ (j : Nat) t v, Try.f6.params[j]? = some t → args[j]? = some v → Value.okWide Try.prog W .any base t v := hval0
  have hW' := hW
  obtain ⟨pp, q, hA0, hV, rfl, _, _⟩ := hW
  have hA : DataW.TrodAll enc Try.prog W 0 (fun _ => true) true Try.f6.params.toList args.toList ds pp := hA0
  rw [Try.params6] at hA hval
  obtain ⟨v0, v1, v2, v3, d0, d1, d2, d3, p0, p1, p2, p3, rfl, rfl, rfl, h0, h1, h2, h3⟩ := trodAll_four hA
  obtain ⟨pg, rfl, rfl, rfl, _⟩ := open_int Try.underlying3 (hval 0 3 v0 rfl rfl) h0
  obtain ⟨ex, rfl, rfl, rfl, _⟩ := open_int Try.underlying3 (hval 1 3 v1 rfl rfl) h1
  obtain ⟨A, c, l, rfl, hnc, hz, hr, hg⟩ := open_zones (hval 2 22 v2 rfl rfl) h2
  obtain ⟨F, cf, fs, rfl, hfr⟩ := open_nums (hval 3 29 v3 rfl rfl) h3
  obtain ⟨rfl, rfl⟩ := trodVars_none hV
  have fin : ∀ W', Below W.heap.size W W' → Rows.victimEaseSpec.post enc Try.prog Try.f6 false true false false W #[.int .i64 pg, .int .i64 ex, .slice A l.length c, .slice F fs.length cf] (.bool true) W' := fun W' hb =>
    law_post laidOutP (by intro t ht; have hp : Try.f6.params.toList = [3, 3, 22, 29] := by rw [Try.params6]
                          rw [hp] at ht
                          have hall : ([3, 3, 22, 29].all fun t => Try.prog.readableRec t && decide (t < Try.prog.types.size)) = true := by kernel_rfl
                          simpa using List.all_eq_true.1 hall t ht) rfl (by kernel_rfl) Try.underlying4 hW' (by simp [Rows.victimEaseSpec]) hb
  exact (vcease_true O pg ex A l.length c l rfl hr hnc hz hg F fs.length cf fs rfl hfr).mono fun r W' ⟨hr, hb⟩ => ⟨_, hr, fin W' hb⟩

theorem victimEase_of (O : VOps) : Rows.VictimEaseSaid :=
  OpenClaim.holds_of_wide 6 Try.f6 rfl rfl rfl rfl rfl rfl rfl ⟨rfl, rfl, rfl, rfl, rfl⟩ rfl rfl rfl rfl rfl (by kernel_rfl) Try.func6 (by kernel_rfl)
    (of_decide_eq_true (by kernel_rfl)) (by unfold Func.isWrapper; first | (rw [if_pos (by decide +kernel)]; kernel_rfl) | (rw [if_neg (by decide +kernel)]; exact ⟨rfl, rfl⟩))
    (fun os started H enc _ => victimEase_lifted O os started H enc)
#print axioms victimEase_of
end Go.Proofs.Ytndapbfaaglcgaa
