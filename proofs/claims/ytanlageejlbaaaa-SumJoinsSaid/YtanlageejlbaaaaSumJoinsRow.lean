/-
  PROVED: for every input, platelayerlaw03.SumJoins returns true, leaves its arguments as they were, and ends without a panic.
  Conditions: none beyond the given row.
-/
import Derived.Test.YtanlageejlbaaaaSumH
import Derived.Test.YtanlageejlbaaaaLawBytes
import Derived.ProofKit
import Derived.Lib.SmallJoins
namespace Go.Proofs.Ytanlageejlbaaaa
open Go.ChangeShapes Go.WideShapes Go.ChangeAt Go.RowKit Go.Joins

set_option maxRecDepth 100000 in
theorem sumJoins_lifted (os : Os) (started : os.Started) (H : Type) (enc : TypeId × Value → H) :
    ReturnsInHanded {} Try.checked os 6 .any (Rows.sumJoinsSpec.pre6 enc Try.prog Try.f6 Rows.sumJoinsRow.domain false) (Rows.sumJoinsSpec.post enc Try.prog Try.f6 false true false false) := by
  refine returnsInHanded_of_change (C := Try.checked) ownP started (by kernel_rfl) Try.func6
    (ChangeSpec.witness6 (enc := enc) (C := Try.checked) false ⟨#[], #[.slice none 0 0, .slice none 0 0, .slice none 0 0, .int .i64 0], []⟩ 8 (by kernel_rfl) (by kernel_rfl) (by kernel_rfl) (by kernel_rfl)) ?_
  intro W base args ds gs before hval0 hW _ _
  have hval : ∀ (j : Nat) t v, Try.f6.params[j]? = some t → args[j]? = some v → Value.okWide Try.prog W .any base t v := hval0
  have hW' := hW
  obtain ⟨pp, q, hA0, hV, rfl, _, _⟩ := hW
  have hA : DataW.TrodAll enc Try.prog W 0 (fun _ => true) true Try.f6.params.toList args.toList ds pp := hA0
  rw [Try.params6] at hA hval
  obtain ⟨v0, v1, v2, v3, d0, d1, d2, d3, p0, p1, p2, p3, rfl, rfl, rfl, h0, h1, h2, h3⟩ := trodAll_four hA
  obtain ⟨A0, xs0, c0, rfl, hc0, hx0, hr0, hz0⟩ := open_bytes Try.underlying22 Try.underlying5 (by kernel_rfl) (hval 0 22 v0 rfl rfl) h0
  obtain ⟨A1, xs1, c1, rfl, hc1, hx1, hr1, hz1⟩ := open_bytes Try.underlying22 Try.underlying5 (by kernel_rfl) (hval 1 22 v1 rfl rfl) h1
  obtain ⟨A2, xs2, c2, rfl, hc2, hx2, hr2, hz2⟩ := open_bytes Try.underlying22 Try.underlying5 (by kernel_rfl) (hval 2 22 v2 rfl rfl) h2
  obtain ⟨n3, rfl, rfl, rfl, wn3⟩ := open_int Try.underlying3 (hval 3 3 v3 rfl rfl) h3
  obtain ⟨rfl, rfl⟩ := trodVars_none hV
  have fin : ∀ W', Below W.heap.size W W' → Rows.sumJoinsSpec.post enc Try.prog Try.f6 false true false false W #[.slice A0 xs0.length c0, .slice A1 xs1.length c1, .slice A2 xs2.length c2, .int .i64 n3] (.bool true) W' := fun W' hb =>
    law_post laidOutP (by intro t ht; have hp : Try.f6.params.toList = [22, 22, 22, 3] := by rw [Try.params6]
                          rw [hp] at ht
                          have hall : ([22, 22, 22, 3].all fun t => Try.prog.readableRec t && decide (t < Try.prog.types.size)) = true := by kernel_rfl
                          simpa using List.all_eq_true.1 hall t ht) rfl (by kernel_rfl) Try.underlying4 hW' (by simp [Rows.sumJoinsSpec]) hb
  by_cases hl : tooMuch xs0.length xs1.length xs2.length n3
  · exact (joins_long A0 A1 A2 xs0.length xs1.length xs2.length c0 c1 c2 n3 W hl).mono fun r W' ⟨hr, hb⟩ => ⟨_, hr, fin W' hb⟩
  · unfold tooMuch at hl
    have hlen : (List.replicate n3.toNat (0 : Int)).length = n3.toNat := by simp
    have hcast : n3 = ((List.replicate n3.toNat (0 : Int)).length : Int) := by rw [hlen]; omega
    have := joins_true A0 A1 A2 xs0 xs1 xs2 (List.replicate n3.toNat 0) c0 c1 c2 W hx0 hx1 hx2 hr0 hr1 hr2 hc0 hc1 hc2 (by omega) (by omega) (by omega) (by omega) (by rw [hlen])
    rw [← hcast] at this
    exact this.mono fun r W' ⟨hr, hb⟩ => ⟨_, hr, fin W' hb⟩

theorem sumJoins_holds : Rows.SumJoinsSaid :=
  OpenClaim.holds_of_wide 6 Try.f6 rfl rfl rfl rfl rfl rfl rfl ⟨rfl, rfl, rfl, rfl, rfl⟩ rfl rfl rfl rfl rfl (by kernel_rfl) Try.func6 (by kernel_rfl)
    (of_decide_eq_true (by kernel_rfl)) (by unfold Func.isWrapper; first | (rw [if_pos (by decide +kernel)]; kernel_rfl) | (rw [if_neg (by decide +kernel)]; exact ⟨rfl, rfl⟩))
    (fun os started H enc _ => sumJoins_lifted os started H enc)
#print axioms sumJoins_holds
end Go.Proofs.Ytanlageejlbaaaa
