/-
  PROVED: for every input, platelayerlaw03.SumParts returns true, leaves its arguments as they were, and ends without a panic.
  Conditions: none beyond the given row.
-/
import Derived.Test.YtanlageejlbaaaaSumG
import Derived.Test.YtanlageejlbaaaaLawBytes
import Derived.ProofKit
import Derived.Lib.SmallJoins
namespace Go.Proofs.Ytanlageejlbaaaa
open Go.ChangeShapes Go.WideShapes Go.ChangeAt Go.RowKit Go.Joins

set_option maxRecDepth 100000 in
theorem sumParts_lifted (os : Os) (started : os.Started) (H : Type) (enc : TypeId × Value → H) :
    ReturnsInHanded {} Try.checked os 4 .any (Rows.sumPartsSpec.pre6 enc Try.prog Try.f4 Rows.sumPartsRow.domain false) (Rows.sumPartsSpec.post enc Try.prog Try.f4 false true false false) := by
  refine returnsInHanded_of_change (C := Try.checked) ownP started (by kernel_rfl) Try.func4
    (ChangeSpec.witness6 (enc := enc) (C := Try.checked) false ⟨#[], #[.slice none 0 0, .slice none 0 0], []⟩ 8 (by kernel_rfl) (by kernel_rfl) (by kernel_rfl) (by kernel_rfl)) ?_
  intro W base args ds gs before hval0 hW _ _
  have hval : ∀ (j : Nat) t v, Try.f4.params[j]? = some t → args[j]? = some v → Value.okWide Try.prog W .any base t v := hval0
  have hW' := hW
  obtain ⟨pp, q, hA0, hV, rfl, _, _⟩ := hW
  have hA : DataW.TrodAll enc Try.prog W 0 (fun _ => true) true Try.f4.params.toList args.toList ds pp := hA0
  rw [Try.params4] at hA hval
  obtain ⟨v0, v1, d0, d1, p0, p1, rfl, rfl, rfl, h0, h1⟩ := trodAll_two hA
  obtain ⟨A0, xs0, c0, rfl, hc0, hx0, hr0, hz0⟩ := open_bytes Try.underlying22 Try.underlying5 (by kernel_rfl) (hval 0 22 v0 rfl rfl) h0
  obtain ⟨A1, xs1, c1, rfl, hc1, hx1, hr1, hz1⟩ := open_bytes Try.underlying22 Try.underlying5 (by kernel_rfl) (hval 1 22 v1 rfl rfl) h1
  obtain ⟨rfl, rfl⟩ := trodVars_none hV
  have fin : ∀ W', Below W.heap.size W W' → Rows.sumPartsSpec.post enc Try.prog Try.f4 false true false false W #[.slice A0 xs0.length c0, .slice A1 xs1.length c1] (.bool true) W' := fun W' hb =>
    law_post laidOutP (by intro t ht; have hp : Try.f4.params.toList = [22, 22] := by rw [Try.params4]
                          rw [hp] at ht
                          have hall : ([22, 22].all fun t => Try.prog.readableRec t && decide (t < Try.prog.types.size)) = true := by kernel_rfl
                          simpa using List.all_eq_true.1 hall t ht) rfl (by kernel_rfl) Try.underlying4 hW' (by simp [Rows.sumPartsSpec]) hb
  by_cases hn : 20000 < xs0.length
  · exact (parts_longA A0 A1 xs0.length xs1.length c0 c1 W hn).mono fun r W' ⟨hr, hb⟩ => ⟨_, hr, fin W' hb⟩
  · by_cases hm : 20000 < xs1.length
    · exact (parts_longB A0 A1 xs0.length xs1.length c0 c1 W (by omega) hm).mono fun r W' ⟨hr, hb⟩ => ⟨_, hr, fin W' hb⟩
    · exact (parts_true A0 A1 xs0 xs1 c0 c1 W hx0 hx1 hr0 hr1 hc0 hc1 hz0 hz1 (by omega) (by omega)).mono fun r W' ⟨hr, hb⟩ => ⟨_, hr, fin W' hb⟩

theorem sumParts_holds : Rows.SumPartsSaid :=
  OpenClaim.holds_of_wide 4 Try.f4 rfl rfl rfl rfl rfl rfl rfl ⟨rfl, rfl, rfl, rfl, rfl⟩ rfl rfl rfl rfl rfl (by kernel_rfl) Try.func4 (by kernel_rfl)
    (of_decide_eq_true (by kernel_rfl)) (by unfold Func.isWrapper; first | (rw [if_pos (by decide +kernel)]; kernel_rfl) | (rw [if_neg (by decide +kernel)]; exact ⟨rfl, rfl⟩))
    (fun os started H enc _ => sumParts_lifted os started H enc)
#print axioms sumParts_holds
end Go.Proofs.Ytanlageejlbaaaa
