/-
  platelayerlaw02.GeoPlaces answers true.
-/
import Derived.Test.YtmfnbnhcfbdicaaGeoH
namespace Go.Proofs.Ytmfnbnhcfbdicaa
open Go.RowKit

theorem at_at {z p b a : Int} {x : Int × Int × Bool} (w : World) (hi : insB z p = true) (h0 : 0 ≤ a) (h : atI z p a = x) : Calls Try.prog 16 #[.agg #[.int .i64 z, .int .i64 p, .int .i64 b], .int .u32 a] w (AtIs x w) := h ▸ at_is z p b a w hi h0
theorem rat_at {z p b a : Int} {x : Int × Int × Bool} (w : World) (hi : insB z p = true) (h0 : 0 ≤ a) (h : atI z p a = x) : Calls Try.prog 17 #[.agg #[.int .i64 z, .int .i64 p, .int .i64 b], .int .u32 a] w (AtIs x w) := h ▸ rat_is z p b a w hi h0
theorem of_at {z p b zone page n : Int} (w : World) (hi : insB z p = true) (h : ofI z p zone page = n) : Calls Try.prog 18 #[.agg #[.int .i64 z, .int .i64 p, .int .i64 b], .int .i64 zone, .int .i64 page] w (U32B n w) := h ▸ of_is z p b zone page w hi

set_option maxHeartbeats 1000000 in
set_option maxRecDepth 100000 in
theorem places_wrong (z p b zone page a : Int) (w : World) (hr : rightB z p b = false) : Calls Try.prog 4 #[.agg #[.int .i64 z, .int .i64 p, .int .i64 b], .int .i64 zone, .int .i64 page, .int .u32 a] w (TrueB w) := by
  have HK : Hid (Kept w w.heap.size z p b _) := Lib.hid ⟨below_box w (.cells #[.int .i64 z, .int .i64 p, .int .i64 b] 23), Box.made w z p b 23⟩
  go_enter Try.func4, Try.ntmps4
  go_wp2_with fail
  refine (awake_true _).mono ?_
  rintro r w1 ⟨rfl, hb1⟩
  replace HK := Lib.hid (HK.out.up hb1)
  obtain ⟨_, _, c0, c1, c2⟩ := HK.out
  clear hb1
  go_wp2_with fail
  refine (rright_at _ hr).mono ?_
  rintro r w2 ⟨rfl, hb2⟩
  replace HK := Lib.hid (HK.out.up hb2)
  clear hb2 c0 c1 c2
  go_wp2_with fail
  go_ret
  exact ⟨rfl, HK.out.1⟩

set_option maxHeartbeats 1000000 in
set_option maxRecDepth 100000 in
theorem places_none (z p b zone page a : Int) (w : World) (h0 : 0 ≤ a) (h1 : a = 0 ∨ lastI z p < a) (hr : rightB z p b = true) : Calls Try.prog 4 #[.agg #[.int .i64 z, .int .i64 p, .int .i64 b], .int .i64 zone, .int .i64 page, .int .u32 a] w (TrueB w) := by
  obtain ⟨hi, _, _⟩ := right_in hr
  have HI := Lib.hid hi
  have HE : Hid (atI z p a = (0, 0, false)) := Lib.hid (by unfold atI; rw [if_pos (by omega)])
  clear hi
  have HK : Hid (Kept w w.heap.size z p b _) := Lib.hid ⟨below_box w (.cells #[.int .i64 z, .int .i64 p, .int .i64 b] 23), Box.made w z p b 23⟩
  go_enter Try.func4, Try.ntmps4
  go_wp2_with fail
  refine (awake_true _).mono ?_
  rintro r w1 ⟨rfl, hb1⟩
  replace HK := Lib.hid (HK.out.up hb1)
  obtain ⟨_, _, c0, c1, c2⟩ := HK.out
  clear hb1
  go_wp2_with fail
  refine (rright_at _ hr).mono ?_
  rintro r w2 ⟨rfl, hb2⟩
  replace HK := Lib.hid (HK.out.up hb2)
  clear hb2 c0 c1 c2
  obtain ⟨_, _, c0, c1, c2⟩ := HK.out
  go_wp2_with fail
  refine (at_at _ HI.out h0 HE.out).mono ?_
  rintro r w3 ⟨rfl, hb3⟩
  replace HK := Lib.hid (HK.out.up hb3)
  clear hb3 c0 c1 c2
  obtain ⟨_, _, c0, c1, c2⟩ := HK.out
  go_wp2_with fail
  refine (rat_at _ HI.out h0 HE.out).mono ?_
  rintro r w4 ⟨rfl, hb4⟩
  replace HK := Lib.hid ((HK.out.up hb4).up (Below.refl _ _).drew)
  clear hb4 c0 c1 c2
  go_wp2_with fail
  refine wp_region_in (Kept w w.heap.size z p b) HK.out (by kernel_rfl) (by kernel_rfl) (fun ne => ?_)
  have c0 := fun n : In (Kept w w.heap.size z p b) => n.ok.2.2.1
  have c1 := fun n : In (Kept w w.heap.size z p b) => n.ok.2.2.2.1
  have c2 := fun n : In (Kept w w.heap.size z p b) => n.ok.2.2.2.2
  repeat (go_big_quiet_step (first
    | (go_at_call 18; exact In.more Kept.up (of_is _ _ _ _ _ _ HI.out))
    | (go_at_call 19; exact In.more Kept.up (rof_is _ _ _ _ _ _ HI.out))))
  refine wpQuiet_nil ?_
  intro nq
  have HK2 := Lib.hid nq.ok
  clear c0 c1 c2 HK
  obtain ⟨_, _, c0, c1, c2⟩ := HK2.out
  go_wp2_with fail
  go_ret
  exact ⟨rfl, HK2.out.1⟩
set_option maxHeartbeats 1000000 in
set_option maxRecDepth 100000 in
theorem places_some (z p b zone page a : Int) (w : World) (h0 : 0 ≤ a) (h1 : 0 < a) (h2 : a ≤ lastI z p) (hr : rightB z p b = true) : Calls Try.prog 4 #[.agg #[.int .i64 z, .int .i64 p, .int .i64 b], .int .i64 zone, .int .i64 page, .int .u32 a] w (TrueB w) := by
  obtain ⟨hi, _, _⟩ := right_in hr
  have HI := Lib.hid hi
  have HE : Hid (atI z p a = ((a - 1) / p, (a - 1) % p, true)) := Lib.hid (by unfold atI; rw [if_neg (by omega)])
  obtain ⟨q1, q2, q3, q4, q5⟩ := atI_page hi h1 h2
  have HO : Hid (ofI z p ((a - 1) / p) ((a - 1) % p) = a) := Lib.hid ((ofI_in q1 q2 q3 q4).trans q5)
  clear q1 q2 q3 q4 q5
  clear hi
  have HK : Hid (Kept w w.heap.size z p b _) := Lib.hid ⟨below_box w (.cells #[.int .i64 z, .int .i64 p, .int .i64 b] 23), Box.made w z p b 23⟩
  go_enter Try.func4, Try.ntmps4
  go_wp2_with fail
  refine (awake_true _).mono ?_
  rintro r w1 ⟨rfl, hb1⟩
  replace HK := Lib.hid (HK.out.up hb1)
  obtain ⟨_, _, c0, c1, c2⟩ := HK.out
  clear hb1
  go_wp2_with fail
  refine (rright_at _ hr).mono ?_
  rintro r w2 ⟨rfl, hb2⟩
  replace HK := Lib.hid (HK.out.up hb2)
  clear hb2 c0 c1 c2
  obtain ⟨_, _, c0, c1, c2⟩ := HK.out
  go_wp2_with fail
  refine (at_at _ HI.out h0 HE.out).mono ?_
  rintro r w3 ⟨rfl, hb3⟩
  replace HK := Lib.hid (HK.out.up hb3)
  clear hb3 c0 c1 c2
  obtain ⟨_, _, c0, c1, c2⟩ := HK.out
  go_wp2_with fail
  refine (rat_at _ HI.out h0 HE.out).mono ?_
  rintro r w4 ⟨rfl, hb4⟩
  replace HK := Lib.hid ((HK.out.up hb4).up (Below.refl _ _).drew)
  clear hb4 c0 c1 c2
  go_wp2_with fail
  refine wp_region_in (Kept w w.heap.size z p b) HK.out (by kernel_rfl) (by kernel_rfl) (fun ne => ?_)
  have c0 := fun n : In (Kept w w.heap.size z p b) => n.ok.2.2.1
  have c1 := fun n : In (Kept w w.heap.size z p b) => n.ok.2.2.2.1
  have c2 := fun n : In (Kept w w.heap.size z p b) => n.ok.2.2.2.2
  repeat (go_big_quiet_step (first
    | (go_at_call 18; exact In.more Kept.up (of_is _ _ _ _ _ _ HI.out))
    | (go_at_call 19; exact In.more Kept.up (rof_is _ _ _ _ _ _ HI.out))))
  refine wpQuiet_nil ?_
  intro nq
  have HK2 := Lib.hid nq.ok
  clear c0 c1 c2 HK
  obtain ⟨_, _, c0, c1, c2⟩ := HK2.out
  go_wp2_with fail
  refine (of_at _ HI.out HO.out).mono ?_
  rintro r w5 ⟨rfl, hb5⟩
  have HK3 := Lib.hid (HK2.out.up hb5)
  clear hb5 c0 c1 c2
  go_wp2_with fail
  go_ret
  exact ⟨rfl, HK3.out.1⟩
theorem places_true (z p b zone page a : Int) (w : World) (h0 : 0 ≤ a) : Calls Try.prog 4 #[.agg #[.int .i64 z, .int .i64 p, .int .i64 b], .int .i64 zone, .int .i64 page, .int .u32 a] w (TrueB w) := by
  by_cases hr : rightB z p b = true
  · by_cases h1 : a = 0 ∨ lastI z p < a
    · exact places_none z p b zone page a w h0 h1 hr
    · exact places_some z p b zone page a w h0 (by omega) (by omega) hr
  · exact places_wrong z p b zone page a w (by simpa using hr)
end Go.Proofs.Ytmfnbnhcfbdicaa
