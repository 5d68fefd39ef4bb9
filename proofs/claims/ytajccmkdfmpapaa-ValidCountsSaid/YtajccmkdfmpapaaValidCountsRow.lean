/-
  PROVED: for every input, platelayerlaw11.ValidCounts returns true, leaves its arguments as they were, and ends without a panic.
  Conditions: none beyond the given row.
-/
import Derived.Test.YtajccmkdfmpapaaVaG
import Derived.Test.YtajccmkdfmpapaaLawVa
import Derived.ProofKit
import Derived.Lib.SmallJoins
namespace Go.Proofs.Ytajccmkdfmpapaa
open Go.ChangeShapes Go.WideShapes Go.ChangeAt Go.RowKit Go.Joins

set_option maxRecDepth 100000 in
theorem validCounts_lifted (os : Os) (started : os.Started) (H : Type) (enc : TypeId × Value → H) :
    ReturnsInHanded {} Try.checked os 3 .any (Rows.validCountsSpec.pre6 enc Try.prog Try.f3 Rows.validCountsRow.domain false) (Rows.validCountsSpec.post enc Try.prog Try.f3 false true false false) := by
  refine returnsInHanded_of_change (C := Try.checked) ownP started (by kernel_rfl) Try.func3
    (ChangeSpec.witness6 (enc := enc) (C := Try.checked) false ⟨#[], #[.agg #[.int .i64 0, .int .i64 0, .int .i64 0], .slice none 0 0], []⟩ 8 (by kernel_rfl) (by kernel_rfl) (by kernel_rfl) (by kernel_rfl)) ?_
  intro W base args ds gs before hval0 hW _ _
  have hval : ∀ (j : Nat) t v, Try.f3.params[j]? = some t → args[j]? = some v → Value.okWide Try.prog W .any base t v := hval0
  have hW' := hW
  obtain ⟨pp, q, hA0, hV, rfl, _, _⟩ := hW
  have hA : DataW.TrodAll enc Try.prog W 0 (fun _ => true) true Try.f3.params.toList args.toList ds pp := hA0
  rw [Try.params3] at hA hval
  obtain ⟨v0, v1, d0, d1, p0, p1, rfl, rfl, rfl, h0, h1⟩ := trodAll_two hA
  obtain ⟨z, pg, bk, rfl⟩ := open_geo (hval 0 23 v0 rfl rfl) h0
  obtain ⟨A, c, l, rfl, hr⟩ := open_vacts (hval 1 24 v1 rfl rfl) h1
  obtain ⟨rfl, rfl⟩ := trodVars_none hV
  have fin : ∀ W', Below W.heap.size W W' → Rows.validCountsSpec.post enc Try.prog Try.f3 false true false false W #[.agg #[.int .i64 z, .int .i64 pg, .int .i64 bk], .slice A l.length c] (.bool true) W' := fun W' hb =>
    law_post laidOutP (by intro t ht; have hp : Try.f3.params.toList = [23, 24] := by rw [Try.params3]
                          rw [hp] at ht
                          have hall : ([23, 24].all fun t => Try.prog.readableRec t && decide (t < Try.prog.types.size)) = true := by kernel_rfl
                          simpa using List.all_eq_true.1 hall t ht) rfl (by kernel_rfl) Try.underlying4 hW' (by simp [Rows.validCountsSpec]) hb
  exact (vcounts_true z pg bk A l.length c l rfl hr).mono fun r W' ⟨hr, hb⟩ => ⟨_, hr, fin W' hb⟩

theorem validCounts_holds : Rows.ValidCountsSaid :=
  OpenClaim.holds_of_wide 3 Try.f3 rfl rfl rfl rfl rfl rfl rfl ⟨rfl, rfl, rfl, rfl, rfl⟩ rfl rfl rfl rfl rfl (by kernel_rfl) Try.func3 (by kernel_rfl)
    (of_decide_eq_true (by kernel_rfl)) (by unfold Func.isWrapper; first | (rw [if_pos (by decide +kernel)]; kernel_rfl) | (rw [if_neg (by decide +kernel)]; exact ⟨rfl, rfl⟩))
    (fun os started H enc _ => validCounts_lifted os started H enc)
#print axioms validCounts_holds
end Go.Proofs.Ytajccmkdfmpapaa
