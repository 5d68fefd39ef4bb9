/-
  PROVED: for every input, platelayerlaw03.SumTells returns true, leaves its argument as it was, and ends without a panic.
  Conditions: none beyond the given row.
-/
import Derived.Test.YtanlageejlbaaaaSumE
import Derived.Test.YtanlageejlbaaaaLawBytes
import Derived.ProofKit
import Derived.Lib.SmallJoins
namespace Go.Proofs.Ytanlageejlbaaaa
open Go.ChangeShapes Go.WideShapes Go.ChangeAt Go.RowKit Go.Joins

set_option maxRecDepth 100000 in
theorem sumTells_lifted (os : Os) (started : os.Started) (H : Type) (enc : TypeId × Value → H) :
    ReturnsInHanded {} Try.checked os 3 .any (Rows.sumTellsSpec.pre6 enc Try.prog Try.f3 Rows.sumTellsRow.domain false) (Rows.sumTellsSpec.post enc Try.prog Try.f3 false true false false) := by
  refine returnsInHanded_of_change (C := Try.checked) ownP started (by kernel_rfl) Try.func3
    (ChangeSpec.witness6 (enc := enc) (C := Try.checked) false ⟨#[], #[.slice none 0 0], []⟩ 8 (by kernel_rfl) (by kernel_rfl) (by kernel_rfl) (by kernel_rfl)) ?_
  intro W base args ds gs before hval0 hW _ _
  have hval : ∀ (j : Nat) t v, Try.f3.params[j]? = some t → args[j]? = some v → Value.okWide Try.prog W .any base t v := hval0
  have hW' := hW
  obtain ⟨pp, q, hA0, hV, rfl, _, _⟩ := hW
  have hA : DataW.TrodAll enc Try.prog W 0 (fun _ => true) true Try.f3.params.toList args.toList ds pp := hA0
  rw [Try.params3] at hA hval
  obtain ⟨v0, d0, rfl, rfl, h0⟩ := trodAll_one hA
  obtain ⟨A, xs, c, rfl, hc, hx, hr, _⟩ := open_bytes Try.underlying22 Try.underlying5 (by kernel_rfl) (hval 0 22 v0 rfl rfl) h0
  obtain ⟨rfl, rfl⟩ := trodVars_none hV
  have fin : ∀ W', Below W.heap.size W W' → Rows.sumTellsSpec.post enc Try.prog Try.f3 false true false false W #[.slice A xs.length c] (.bool true) W' := fun W' hb =>
    law_post laidOutP (by intro t ht; have hp : Try.f3.params.toList = [22] := by rw [Try.params3]
                          rw [hp] at ht
                          have hall : ([22].all fun t => Try.prog.readableRec t && decide (t < Try.prog.types.size)) = true := by kernel_rfl
                          simpa using List.all_eq_true.1 hall t ht) rfl (by kernel_rfl) Try.underlying4 hW' (by simp [Rows.sumTellsSpec]) hb
  by_cases hn : 20000 < xs.length
  · exact (tells_long A xs.length c W hn).mono fun r W' ⟨hr, hb⟩ => ⟨_, hr, fin W' hb⟩
  · exact (tells_true A xs c W hx hr hc (by omega)).mono fun r W' ⟨hr, hb⟩ => ⟨_, hr, fin W' hb⟩

theorem sumTells_holds : Rows.SumTellsSaid :=
  OpenClaim.holds_of_wide 3 Try.f3 rfl rfl rfl rfl rfl rfl rfl ⟨rfl, rfl, rfl, rfl, rfl⟩ rfl rfl rfl rfl rfl (by kernel_rfl) Try.func3 (by kernel_rfl)
    (of_decide_eq_true (by kernel_rfl)) (by unfold Func.isWrapper; first | (rw [if_pos (by decide +kernel)]; kernel_rfl) | (rw [if_neg (by decide +kernel)]; exact ⟨rfl, rfl⟩))
    (fun os started H enc _ => sumTells_lifted os started H enc)
#print axioms sumTells_holds
end Go.Proofs.Ytanlageejlbaaaa
