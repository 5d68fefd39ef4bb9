/-
  PROVED: for every input, platelayerlaw02.GeoRoom returns true, leaves its arguments as they were, and ends without a panic.
  Conditions: none beyond the given row.
-/
import Derived.Test.YtmfnbnhcfbdicaaGeoK
import Derived.Test.YtmfnbnhcfbdicaaLawPost
import Derived.ProofKit
import Derived.OpenShut
import Derived.Lib.SmallJoins
namespace Go.Proofs.Ytmfnbnhcfbdicaa
open Go.ChangeShapes Go.WideShapes Go.ChangeAt Go.RowKit Go.Joins

set_option maxRecDepth 100000 in
theorem geoRoom_lifted (os : Os) (started : os.Started) (H : Type) (enc : TypeId × Value → H) :
    ReturnsInHanded {} Try.checked os 6 .any (Rows.geoRoomSpec.pre6 enc Try.prog Try.f6 Rows.geoRoomRow.domain false) (Rows.geoRoomSpec.post enc Try.prog Try.f6 false true false false) := by
  refine returnsInHanded_of_change (C := Try.checked) ownP started (by kernel_rfl) Try.func6
    (ChangeSpec.witness6 (enc := enc) (C := Try.checked) false ⟨#[], #[.agg #[.int .i64 0, .int .i64 0, .int .i64 0], .int .i64 0], []⟩ 8 (by kernel_rfl) (by kernel_rfl) (by kernel_rfl) (by kernel_rfl)) ?_
  intro W base args ds gs before hval0 hW _ _
  have hval : ∀ (j : Nat) t v, Try.f6.params[j]? = some t → args[j]? = some v → Value.okWide Try.prog W .any base t v := hval0
  have hW' := hW
  obtain ⟨pp, q, hA0, hV, rfl, _, _⟩ := hW
  have hA : DataW.TrodAll enc Try.prog W 0 (fun _ => true) true Try.f6.params.toList args.toList ds pp := hA0
  rw [Try.params6] at hA hval
  obtain ⟨v0, v1, d0, d1, p0, p1, rfl, rfl, rfl, h0, h1⟩ := trodAll_two hA
  obtain ⟨u0, u1, u2, y0, y1, y2, m, rfl, rfl, rfl, hy0, hy1, hy2⟩ := open_agg3 Try.underlying23 (by kernel_rfl) (by kernel_rfl) (hval 0 23 v0 rfl rfl) h0
  obtain ⟨z, e0, rfl, wz⟩ := DataW.trod_int Try.underlying3 hy0
  obtain ⟨p, e1, rfl, wp⟩ := DataW.trod_int Try.underlying3 hy1
  obtain ⟨b, e2, rfl, wb⟩ := DataW.trod_int Try.underlying3 hy2
  simp only [List.cons.injEq, and_true] at e0 e1 e2
  subst e0 e1 e2
  obtain ⟨blocks, rfl, rfl, rfl, wblocks⟩ := open_int Try.underlying3 (hval 1 3 v1 rfl rfl) h1
  obtain ⟨rfl, rfl⟩ := trodVars_none hV
  have fin : ∀ W', Below W.heap.size W W' → Rows.geoRoomSpec.post enc Try.prog Try.f6 false true false false W #[.agg #[.int .i64 z, .int .i64 p, .int .i64 b], .int .i64 blocks] (.bool true) W' := fun W' hb =>
    law_post laidOutP (by intro t ht; have hp : Try.f6.params.toList = [23, 3] := by rw [Try.params6]
                          rw [hp] at ht
                          have hall : ([23, 3].all fun t => Try.prog.readableRec t && decide (t < Try.prog.types.size)) = true := by kernel_rfl
                          simpa using List.all_eq_true.1 hall t ht) rfl (by kernel_rfl) Try.underlying4 hW' (by simp [Rows.geoRoomSpec]) hb
  exact (room_true z p b blocks W).mono fun r W' ⟨hr, hb⟩ => ⟨_, hr, fin W' hb⟩

theorem geoRoom_holds : Rows.GeoRoomSaid :=
  OpenClaim.holds_of_wide 6 Try.f6 rfl rfl rfl rfl rfl rfl rfl ⟨rfl, rfl, rfl, rfl, rfl⟩ rfl rfl rfl rfl rfl (by kernel_rfl) Try.func6 (by kernel_rfl)
    (of_decide_eq_true (by kernel_rfl)) (by unfold Func.isWrapper; first | (rw [if_pos (by decide +kernel)]; kernel_rfl) | (rw [if_neg (by decide +kernel)]; exact ⟨rfl, rfl⟩))
    (fun os started H enc _ => geoRoom_lifted os started H enc)
#print axioms geoRoom_holds
end Go.Proofs.Ytmfnbnhcfbdicaa
