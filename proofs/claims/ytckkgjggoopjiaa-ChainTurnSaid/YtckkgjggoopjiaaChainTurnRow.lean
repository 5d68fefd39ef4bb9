/-
  PROVED: for every input, platelayerlaw14.ChainTurn returns true, leaves its arguments as they were, and ends without a panic.
  Conditions: none beyond the given row.
-/
import Derived.Test.YtckkgjggoopjiaaChE
import Derived.Test.YtckkgjggoopjiaaCnInst
import Derived.Test.YtckkgjggoopjiaaLawCn
import Derived.ProofKit
import Derived.Lib.SmallJoins
namespace Go.Proofs.Ytckkgjggoopjiaa
open Go.ChangeShapes Go.WideShapes Go.ChangeAt Go.RowKit Go.Joins

set_option maxRecDepth 100000 in
theorem chainTurn_lifted (os : Os) (started : os.Started) (H : Type) (enc : TypeId × Value → H) :
    ReturnsInHanded {} Try.checked os 6 .any (Rows.chainTurnSpec.pre6 enc Try.prog Try.f6 Rows.chainTurnRow.domain false) (Rows.chainTurnSpec.post enc Try.prog Try.f6 false true false false) := by
  refine returnsInHanded_of_change (C := Try.checked) ownP started (by kernel_rfl) Try.func6
    (ChangeSpec.witness6 (enc := enc) (C := Try.checked) false ⟨#[], #[.int .u32 0, .int .u32 0, .slice none 0 0, .int .i64 0], []⟩ 8 (by kernel_rfl) (by kernel_rfl) (by kernel_rfl) (by kernel_rfl)) ?_
  intro W base args ds gs before hval0 hW _ _
  have hval : ∀ (j : Nat) t v, Try.f6.params[j]? = some t → args[j]? = some v → Value.okWide Try.prog W .any base t v := hval0
  have hW' := hW
  obtain ⟨pp, q, hA0, hV, rfl, _, _⟩ := hW
  have hA : DataW.TrodAll enc Try.prog W 0 (fun _ => true) true Try.f6.params.toList args.toList ds pp := hA0
  rw [Try.params6] at hA hval
  obtain ⟨v0, v1, v2, v3, d0, d1, d2, d3, p0, p1, p2, p3, rfl, rfl, rfl, h0, h1, h2, h3⟩ := trodAll_four hA
  obtain ⟨s, rfl, rfl, rfl, _, _⟩ := open_num (hval 0 22 v0 rfl rfl) h0
  obtain ⟨q, rfl, rfl, rfl, q0, q1⟩ := open_num (hval 1 22 v1 rfl rfl) h1
  obtain ⟨A, c, l, rfl, hnc, hz, hr, hg⟩ := open_heads (hval 2 23 v2 rfl rfl) h2
  obtain ⟨t, rfl, rfl, rfl, _⟩ := open_int Try.underlying3 (hval 3 3 v3 rfl rfl) h3
  obtain ⟨rfl, rfl⟩ := trodVars_none hV
  have fin : ∀ W', Below W.heap.size W W' → Rows.chainTurnSpec.post enc Try.prog Try.f6 false true false false W #[.int .u32 s, .int .u32 q, .slice A l.length c, .int .i64 t] (.bool true) W' := fun W' hb =>
    law_post laidOutP (by intro t ht; have hp : Try.f6.params.toList = [22, 22, 23, 3] := by rw [Try.params6]
                          rw [hp] at ht
                          have hall : ([22, 22, 23, 3].all fun t => Try.prog.readableRec t && decide (t < Try.prog.types.size)) = true := by kernel_rfl
                          simpa using List.all_eq_true.1 hall t ht) rfl (by kernel_rfl) Try.underlying4 hW' (by simp [Rows.chainTurnSpec]) hb
  exact (cnturn_true cops s q q0 q1 A l.length c l rfl hr hnc hz hg t).mono fun r W' ⟨hr, hb⟩ => ⟨_, hr, fin W' hb⟩

theorem chainTurn_holds : Rows.ChainTurnSaid :=
  OpenClaim.holds_of_wide 6 Try.f6 rfl rfl rfl rfl rfl rfl rfl ⟨rfl, rfl, rfl, rfl, rfl⟩ rfl rfl rfl rfl rfl (by kernel_rfl) Try.func6 (by kernel_rfl)
    (of_decide_eq_true (by kernel_rfl)) (by unfold Func.isWrapper; first | (rw [if_pos (by decide +kernel)]; kernel_rfl) | (rw [if_neg (by decide +kernel)]; exact ⟨rfl, rfl⟩))
    (fun os started H enc _ => chainTurn_lifted os started H enc)
#print axioms chainTurn_holds
end Go.Proofs.Ytckkgjggoopjiaa
