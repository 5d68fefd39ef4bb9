/-
  PROVED: for every input, platelayerlaw03.SumChanged returns true, leaves its arguments as they were, and ends without a panic.
  Conditions: none beyond the given row.
-/
import Derived.Test.YtanlageejlbaaaaSumI
import Derived.Test.YtanlageejlbaaaaLawBytes
import Derived.ProofKit
import Derived.Lib.SmallJoins
namespace Go.Proofs.Ytanlageejlbaaaa
open Go.ChangeShapes Go.WideShapes Go.ChangeAt Go.RowKit Go.Joins

set_option maxRecDepth 100000 in
theorem sumChanged_lifted (os : Os) (started : os.Started) (H : Type) (enc : TypeId × Value → H) :
    ReturnsInHanded {} Try.checked os 5 .any (Rows.sumChangedSpec.pre6 enc Try.prog Try.f5 Rows.sumChangedRow.domain false) (Rows.sumChangedSpec.post enc Try.prog Try.f5 false true false false) := by
  refine returnsInHanded_of_change (C := Try.checked) ownP started (by kernel_rfl) Try.func5
    (ChangeSpec.witness6 (enc := enc) (C := Try.checked) false ⟨#[], #[.slice none 0 0, .int .i64 0, .int .u8 0], []⟩ 8 (by kernel_rfl) (by kernel_rfl) (by kernel_rfl) (by kernel_rfl)) ?_
  intro W base args ds gs before hval0 hW _ _
  have hval : ∀ (j : Nat) t v, Try.f5.params[j]? = some t → args[j]? = some v → Value.okWide Try.prog W .any base t v := hval0
  have hW' := hW
  obtain ⟨pp, q, hA0, hV, rfl, _, _⟩ := hW
  have hA : DataW.TrodAll enc Try.prog W 0 (fun _ => true) true Try.f5.params.toList args.toList ds pp := hA0
  rw [Try.params5] at hA hval
  obtain ⟨v0, v1, v2, d0, d1, d2, p0, p1, p2, rfl, rfl, rfl, h0, h1, h2⟩ := trodAll_three hA
  obtain ⟨A0, xs0, c0, rfl, hc0, hx0, hr0, hz0⟩ := open_bytes Try.underlying22 Try.underlying5 (by kernel_rfl) (hval 0 22 v0 rfl rfl) h0
  obtain ⟨n1, rfl, rfl, rfl, wn1⟩ := open_int Try.underlying3 (hval 1 3 v1 rfl rfl) h1
  obtain ⟨n2, rfl, rfl, rfl, wn2⟩ := open_int Try.underlying5 (hval 2 5 v2 rfl rfl) h2
  obtain ⟨rfl, rfl⟩ := trodVars_none hV
  have fin : ∀ W', Below W.heap.size W W' → Rows.sumChangedSpec.post enc Try.prog Try.f5 false true false false W #[.slice A0 xs0.length c0, .int .i64 n1, .int .u8 n2] (.bool true) W' := fun W' hb =>
    law_post laidOutP (by intro t ht; have hp : Try.f5.params.toList = [22, 3, 5] := by rw [Try.params5]
                          rw [hp] at ht
                          have hall : ([22, 3, 5].all fun t => Try.prog.readableRec t && decide (t < Try.prog.types.size)) = true := by kernel_rfl
                          simpa using List.all_eq_true.1 hall t ht) rfl (by kernel_rfl) Try.underlying4 hW' (by simp [Rows.sumChangedSpec]) hb
  by_cases hl : 20000 < xs0.length ∨ n1 < 0 ∨ (xs0.length : Int) ≤ n1
  · exact (changed_out A0 xs0.length c0 n1 n2 W hl).mono fun r W' ⟨hr, hb⟩ => ⟨_, hr, fin W' hb⟩
  · obtain ⟨k, rfl⟩ : ∃ k : Nat, n1 = (k : Int) := ⟨n1.toNat, by omega⟩
    obtain ⟨b, o, rfl, _, _⟩ := hr0 (by omega)
    have hb2 := byte_wf wn2
    exact (changed_true b o xs0 c0 k n2 W hx0 hr0 hc0 (by omega) (by omega) hb2.1 hb2.2).mono fun r W' ⟨hr, hb⟩ => ⟨_, hr, fin W' hb⟩

theorem sumChanged_holds : Rows.SumChangedSaid :=
  OpenClaim.holds_of_wide 5 Try.f5 rfl rfl rfl rfl rfl rfl rfl ⟨rfl, rfl, rfl, rfl, rfl⟩ rfl rfl rfl rfl rfl (by kernel_rfl) Try.func5 (by kernel_rfl)
    (of_decide_eq_true (by kernel_rfl)) (by unfold Func.isWrapper; first | (rw [if_pos (by decide +kernel)]; kernel_rfl) | (rw [if_neg (by decide +kernel)]; exact ⟨rfl, rfl⟩))
    (fun os started H enc _ => sumChanged_lifted os started H enc)
#print axioms sumChanged_holds
end Go.Proofs.Ytanlageejlbaaaa
