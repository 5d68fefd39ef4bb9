/-
  PROVED: for every input, platelayerlaw14.ChainLinks returns true, leaves its arguments as they were, and ends without a panic.
  Conditions: none beyond the given row.
-/
import Derived.Test.YtckkgjggoopjiaaChD
import Derived.Test.YtckkgjggoopjiaaCnInst
import Derived.Test.YtckkgjggoopjiaaLawCn
import Derived.ProofKit
import Derived.Lib.SmallJoins
namespace Go.Proofs.Ytckkgjggoopjiaa
open Go.ChangeShapes Go.WideShapes Go.ChangeAt Go.RowKit Go.Joins

set_option maxRecDepth 100000 in
theorem chainLinks_lifted (os : Os) (started : os.Started) (H : Type) (enc : TypeId × Value → H) :
    ReturnsInHanded {} Try.checked os 4 .any (Rows.chainLinksSpec.pre6 enc Try.prog Try.f4 Rows.chainLinksRow.domain false) (Rows.chainLinksSpec.post enc Try.prog Try.f4 false true false false) := by
  refine returnsInHanded_of_change (C := Try.checked) ownP started (by kernel_rfl) Try.func4
    (ChangeSpec.witness6 (enc := enc) (C := Try.checked) false ⟨#[], #[.int .u32 0, .int .u32 0, .slice none 0 0], []⟩ 8 (by kernel_rfl) (by kernel_rfl) (by kernel_rfl) (by kernel_rfl)) ?_
  intro W base args ds gs before hval0 hW _ _
  have hval : ∀ (j : Nat) t v, Try.f4.params[j]? = some t → args[j]? = some v → Value.okWide Try.prog W .any base t v := hval0
  have hW' := hW
  obtain ⟨pp, q, hA0, hV, rfl, _, _⟩ := hW
  have hA : DataW.TrodAll enc Try.prog W 0 (fun _ => true) true Try.f4.params.toList args.toList ds pp := hA0
  rw [Try.params4] at hA hval
  obtain ⟨v0, v1, v2, d0, d1, d2, p0, p1, p2, rfl, rfl, rfl, h0, h1, h2⟩ := trodAll_three hA
  obtain ⟨s, rfl, rfl, rfl, _, _⟩ := open_num (hval 0 22 v0 rfl rfl) h0
  obtain ⟨q, rfl, rfl, rfl, q0, q1⟩ := open_num (hval 1 22 v1 rfl rfl) h1
  obtain ⟨A, c, l, rfl, hnc, hz, hr, hg⟩ := open_heads (hval 2 23 v2 rfl rfl) h2
  obtain ⟨rfl, rfl⟩ := trodVars_none hV
  have fin : ∀ W', Below W.heap.size W W' → Rows.chainLinksSpec.post enc Try.prog Try.f4 false true false false W #[.int .u32 s, .int .u32 q, .slice A l.length c] (.bool true) W' := fun W' hb =>
    law_post laidOutP (by intro t ht; have hp : Try.f4.params.toList = [22, 22, 23] := by rw [Try.params4]
                          rw [hp] at ht
                          have hall : ([22, 22, 23].all fun t => Try.prog.readableRec t && decide (t < Try.prog.types.size)) = true := by kernel_rfl
                          simpa using List.all_eq_true.1 hall t ht) rfl (by kernel_rfl) Try.underlying4 hW' (by simp [Rows.chainLinksSpec]) hb
  exact (cnlinks_true cops s q q0 q1 A l.length c l rfl hr hnc hz hg).mono fun r W' ⟨hr, hb⟩ => ⟨_, hr, fin W' hb⟩

theorem chainLinks_holds : Rows.ChainLinksSaid :=
  OpenClaim.holds_of_wide 4 Try.f4 rfl rfl rfl rfl rfl rfl rfl ⟨rfl, rfl, rfl, rfl, rfl⟩ rfl rfl rfl rfl rfl (by kernel_rfl) Try.func4 (by kernel_rfl)
    (of_decide_eq_true (by kernel_rfl)) (by unfold Func.isWrapper; first | (rw [if_pos (by decide +kernel)]; kernel_rfl) | (rw [if_neg (by decide +kernel)]; exact ⟨rfl, rfl⟩))
    (fun os started H enc _ => chainLinks_lifted os started H enc)
#print axioms chainLinks_holds
end Go.Proofs.Ytckkgjggoopjiaa
