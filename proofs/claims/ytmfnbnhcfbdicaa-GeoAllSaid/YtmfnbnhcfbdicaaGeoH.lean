/-
  platelayerlaw02.GeoTells answers true.
-/
import Derived.Test.YtmfnbnhcfbdicaaGeoG
import Derived.Test.YtmfnbnhcfbdicaaQuietIn
namespace Go.Proofs.Ytmfnbnhcfbdicaa
open Go.RowKit

theorem Box.drew {w : World} {B : Nat} {z p b : Int} (h : Box w B z p b) : Box w.drew B z p b := h.up (Below.refl _ _).drew
/-- Nothing old has changed since w, and block B is a box of three numbers. -/
def Kept (w : World) (B : Nat) (z p b : Int) (u : World) : Prop := Below w.heap.size w u ∧ Box u B z p b
theorem Kept.up {w : World} {B : Nat} {z p b : Int} {a u : World} (h : Kept w B z p b a) (hb : Below a.heap.size a u) : Kept w B z p b u := ⟨below_all h.1 hb, h.2.up hb⟩
theorem right_at {z p b : Int} {c : Bool} (w : World) (h : rightB z p b = c) : Calls Try.prog 10 #[.agg #[.int .i64 z, .int .i64 p, .int .i64 b]] w (BoolB c w) := h ▸ right_is z p b w
theorem rright_at {z p b : Int} {c : Bool} (w : World) (h : rightB z p b = c) : Calls Try.prog 11 #[.agg #[.int .i64 z, .int .i64 p, .int .i64 b]] w (BoolB c w) := h ▸ rright_is z p b w

set_option maxHeartbeats 1000000 in
set_option maxRecDepth 100000 in
theorem tells_small_w (z p b blocks : Int) (w : World) (h0 : 0 ≤ blocks) (h1 : blocks ≤ 1099511627776) (hr : rightB z p b = false) : Calls Try.prog 3 #[.agg #[.int .i64 z, .int .i64 p, .int .i64 b], .int .i64 blocks] w (TrueB w) := by
  have HK : Hid (Kept w w.heap.size z p b _) := Lib.hid ⟨below_box w (.cells #[.int .i64 z, .int .i64 p, .int .i64 b] 23), Box.made w z p b 23⟩
  go_enter Try.func3, Try.ntmps3
  go_wp2_with fail
  refine (awake_true _).mono ?_
  rintro r w1 ⟨rfl, hb1⟩
  replace HK := Lib.hid ((HK.out.up hb1).up (Below.refl _ _).drew)
  clear hb1
  go_wp2_with fail
  refine wp_region_in (Kept w w.heap.size z p b) HK.out (by kernel_rfl) (by kernel_rfl) (fun ne => ?_)
  have c0 := fun n : In (Kept w w.heap.size z p b) => n.ok.2.2.1
  have c1 := fun n : In (Kept w w.heap.size z p b) => n.ok.2.2.2.1
  have c2 := fun n : In (Kept w w.heap.size z p b) => n.ok.2.2.2.2
  repeat (go_big_quiet_step (first
    | (go_at_call 8; exact In.same (bound_is _ _ _))
    | (go_at_call 9; exact In.same (rbound_is _ _ _))
    | (go_at_call 10; exact In.more Kept.up (right_at _ hr))
    | (go_at_call 11; exact In.more Kept.up (rright_at _ hr))
    | (go_at_call 12; exact In.more Kept.up (log_is _ _ _ _ (by omega) (by omega)))))
  refine wpQuiet_nil ?_
  intro nq
  have HK2 := Lib.hid nq.ok.1
  clear c0 c1 c2 HK
  go_wp2_with fail
  refine (table_is _ _ (by omega) (by omega)).mono ?_
  rintro r w' ⟨rfl, rfl⟩
  have q1 : ((4 * (blocks / 4) + blocks % 4) == blocks) = true := by simp; omega
  have q2 : 0 ≤ blocks % 4 := by omega
  have q3 : blocks % 4 < 4 := by omega
  go_wp2_with fail
  refine (tables_is _ _ (by omega)).mono ?_
  rintro r w' ⟨rfl, rfl⟩
  go_wp2_with fail
  refine (rtables_is _ _ (by omega) (by omega)).mono ?_
  rintro r w' ⟨rfl, rfl⟩
  go_wp2_with fail
  go_ret
  exact ⟨rfl, HK2.out⟩
set_option maxHeartbeats 1000000 in
set_option maxRecDepth 100000 in
theorem tells_neg_w (z p b blocks : Int) (w : World) (h0 : blocks < 0) (hr : rightB z p b = false) : Calls Try.prog 3 #[.agg #[.int .i64 z, .int .i64 p, .int .i64 b], .int .i64 blocks] w (TrueB w) := by
  have HK : Hid (Kept w w.heap.size z p b _) := Lib.hid ⟨below_box w (.cells #[.int .i64 z, .int .i64 p, .int .i64 b] 23), Box.made w z p b 23⟩
  go_enter Try.func3, Try.ntmps3
  go_wp2_with fail
  refine (awake_true _).mono ?_
  rintro r w1 ⟨rfl, hb1⟩
  replace HK := Lib.hid ((HK.out.up hb1).up (Below.refl _ _).drew)
  clear hb1
  go_wp2_with fail
  refine wp_region_in (Kept w w.heap.size z p b) HK.out (by kernel_rfl) (by kernel_rfl) (fun ne => ?_)
  have c0 := fun n : In (Kept w w.heap.size z p b) => n.ok.2.2.1
  have c1 := fun n : In (Kept w w.heap.size z p b) => n.ok.2.2.2.1
  have c2 := fun n : In (Kept w w.heap.size z p b) => n.ok.2.2.2.2
  repeat (go_big_quiet_step (first
    | (go_at_call 8; exact In.same (bound_is _ _ _))
    | (go_at_call 9; exact In.same (rbound_is _ _ _))
    | (go_at_call 10; exact In.more Kept.up (right_at _ hr))
    | (go_at_call 11; exact In.more Kept.up (rright_at _ hr))
    | (go_at_call 12; exact In.more Kept.up (log_is _ _ _ _ (by omega) (by omega)))))
  refine wpQuiet_nil ?_
  intro nq
  have HK2 := Lib.hid nq.ok.1
  clear c0 c1 c2 HK
  go_wp2_with fail
  go_ret
  exact ⟨rfl, HK2.out⟩
set_option maxHeartbeats 1000000 in
set_option maxRecDepth 100000 in
theorem tells_big_w (z p b blocks : Int) (w : World) (h0 : ¬ blocks < 0) (h1 : 1099511627776 < blocks) (hr : rightB z p b = false) : Calls Try.prog 3 #[.agg #[.int .i64 z, .int .i64 p, .int .i64 b], .int .i64 blocks] w (TrueB w) := by
  have HK : Hid (Kept w w.heap.size z p b _) := Lib.hid ⟨below_box w (.cells #[.int .i64 z, .int .i64 p, .int .i64 b] 23), Box.made w z p b 23⟩
  go_enter Try.func3, Try.ntmps3
  go_wp2_with fail
  refine (awake_true _).mono ?_
  rintro r w1 ⟨rfl, hb1⟩
  replace HK := Lib.hid ((HK.out.up hb1).up (Below.refl _ _).drew)
  clear hb1
  go_wp2_with fail
  refine wp_region_in (Kept w w.heap.size z p b) HK.out (by kernel_rfl) (by kernel_rfl) (fun ne => ?_)
  have c0 := fun n : In (Kept w w.heap.size z p b) => n.ok.2.2.1
  have c1 := fun n : In (Kept w w.heap.size z p b) => n.ok.2.2.2.1
  have c2 := fun n : In (Kept w w.heap.size z p b) => n.ok.2.2.2.2
  repeat (go_big_quiet_step (first
    | (go_at_call 8; exact In.same (bound_is _ _ _))
    | (go_at_call 9; exact In.same (rbound_is _ _ _))
    | (go_at_call 10; exact In.more Kept.up (right_at _ hr))
    | (go_at_call 11; exact In.more Kept.up (rright_at _ hr))
    | (go_at_call 12; exact In.more Kept.up (log_is _ _ _ _ (by omega) (by omega)))))
  refine wpQuiet_nil ?_
  intro nq
  have HK2 := Lib.hid nq.ok.1
  clear c0 c1 c2 HK
  go_wp2_with fail
  go_ret
  exact ⟨rfl, HK2.out⟩
set_option maxHeartbeats 1000000 in
set_option maxRecDepth 100000 in
theorem tells_small_r (z p b blocks : Int) (w : World) (h0 : 0 ≤ blocks) (h1 : blocks ≤ 1099511627776) (hr : rightB z p b = true) : Calls Try.prog 3 #[.agg #[.int .i64 z, .int .i64 p, .int .i64 b], .int .i64 blocks] w (TrueB w) := by
  obtain ⟨hi, _, _⟩ := right_in hr
  obtain ⟨g1, g2, g3, g4⟩ := insB_iff.1 hi
  clear hi
  have HK : Hid (Kept w w.heap.size z p b _) := Lib.hid ⟨below_box w (.cells #[.int .i64 z, .int .i64 p, .int .i64 b] 23), Box.made w z p b 23⟩
  go_enter Try.func3, Try.ntmps3
  go_wp2_with fail
  refine (awake_true _).mono ?_
  rintro r w1 ⟨rfl, hb1⟩
  replace HK := Lib.hid ((HK.out.up hb1).up (Below.refl _ _).drew)
  clear hb1
  go_wp2_with fail
  have s1 : IntKind.i64.wrap (z - 2) = z - 2 := IntWalk.i64_in _ (by omega)
  refine wp_region_in (Kept w w.heap.size z p b) HK.out (by kernel_rfl) (by kernel_rfl) (fun ne => ?_)
  have c0 := fun n : In (Kept w w.heap.size z p b) => n.ok.2.2.1
  have c1 := fun n : In (Kept w w.heap.size z p b) => n.ok.2.2.2.1
  have c2 := fun n : In (Kept w w.heap.size z p b) => n.ok.2.2.2.2
  repeat (go_big_quiet_step (first
    | (go_at_call 8; exact In.same (bound_is _ _ _))
    | (go_at_call 9; exact In.same (rbound_is _ _ _))
    | (go_at_call 10; exact In.more Kept.up (right_at _ hr))
    | (go_at_call 11; exact In.more Kept.up (rright_at _ hr))
    | (go_at_call 12; exact In.more Kept.up (log_is _ _ _ _ (by omega) (by omega)))))
  refine wpQuiet_nil ?_
  intro nq
  clear s1
  have HK2 := Lib.hid nq.ok.1
  clear c0 c1 c2 HK
  go_wp2_with fail
  refine (table_is _ _ (by omega) (by omega)).mono ?_
  rintro r w' ⟨rfl, rfl⟩
  have q1 : ((4 * (blocks / 4) + blocks % 4) == blocks) = true := by simp; omega
  have q2 : 0 ≤ blocks % 4 := by omega
  have q3 : blocks % 4 < 4 := by omega
  go_wp2_with fail
  refine (tables_is _ _ (by omega)).mono ?_
  rintro r w' ⟨rfl, rfl⟩
  go_wp2_with fail
  refine (rtables_is _ _ (by omega) (by omega)).mono ?_
  rintro r w' ⟨rfl, rfl⟩
  go_wp2_with fail
  go_ret
  exact ⟨rfl, HK2.out⟩
set_option maxHeartbeats 1000000 in
set_option maxRecDepth 100000 in
theorem tells_neg_r (z p b blocks : Int) (w : World) (h0 : blocks < 0) (hr : rightB z p b = true) : Calls Try.prog 3 #[.agg #[.int .i64 z, .int .i64 p, .int .i64 b], .int .i64 blocks] w (TrueB w) := by
  obtain ⟨hi, _, _⟩ := right_in hr
  obtain ⟨g1, g2, g3, g4⟩ := insB_iff.1 hi
  clear hi
  have HK : Hid (Kept w w.heap.size z p b _) := Lib.hid ⟨below_box w (.cells #[.int .i64 z, .int .i64 p, .int .i64 b] 23), Box.made w z p b 23⟩
  go_enter Try.func3, Try.ntmps3
  go_wp2_with fail
  refine (awake_true _).mono ?_
  rintro r w1 ⟨rfl, hb1⟩
  replace HK := Lib.hid ((HK.out.up hb1).up (Below.refl _ _).drew)
  clear hb1
  go_wp2_with fail
  have s1 : IntKind.i64.wrap (z - 2) = z - 2 := IntWalk.i64_in _ (by omega)
  refine wp_region_in (Kept w w.heap.size z p b) HK.out (by kernel_rfl) (by kernel_rfl) (fun ne => ?_)
  have c0 := fun n : In (Kept w w.heap.size z p b) => n.ok.2.2.1
  have c1 := fun n : In (Kept w w.heap.size z p b) => n.ok.2.2.2.1
  have c2 := fun n : In (Kept w w.heap.size z p b) => n.ok.2.2.2.2
  repeat (go_big_quiet_step (first
    | (go_at_call 8; exact In.same (bound_is _ _ _))
    | (go_at_call 9; exact In.same (rbound_is _ _ _))
    | (go_at_call 10; exact In.more Kept.up (right_at _ hr))
    | (go_at_call 11; exact In.more Kept.up (rright_at _ hr))
    | (go_at_call 12; exact In.more Kept.up (log_is _ _ _ _ (by omega) (by omega)))))
  refine wpQuiet_nil ?_
  intro nq
  clear s1
  have HK2 := Lib.hid nq.ok.1
  clear c0 c1 c2 HK
  go_wp2_with fail
  go_ret
  exact ⟨rfl, HK2.out⟩
set_option maxHeartbeats 1000000 in
set_option maxRecDepth 100000 in
theorem tells_big_r (z p b blocks : Int) (w : World) (h0 : ¬ blocks < 0) (h1 : 1099511627776 < blocks) (hr : rightB z p b = true) : Calls Try.prog 3 #[.agg #[.int .i64 z, .int .i64 p, .int .i64 b], .int .i64 blocks] w (TrueB w) := by
  obtain ⟨hi, _, _⟩ := right_in hr
  obtain ⟨g1, g2, g3, g4⟩ := insB_iff.1 hi
  clear hi
  have HK : Hid (Kept w w.heap.size z p b _) := Lib.hid ⟨below_box w (.cells #[.int .i64 z, .int .i64 p, .int .i64 b] 23), Box.made w z p b 23⟩
  go_enter Try.func3, Try.ntmps3
  go_wp2_with fail
  refine (awake_true _).mono ?_
  rintro r w1 ⟨rfl, hb1⟩
  replace HK := Lib.hid ((HK.out.up hb1).up (Below.refl _ _).drew)
  clear hb1
  go_wp2_with fail
  have s1 : IntKind.i64.wrap (z - 2) = z - 2 := IntWalk.i64_in _ (by omega)
  refine wp_region_in (Kept w w.heap.size z p b) HK.out (by kernel_rfl) (by kernel_rfl) (fun ne => ?_)
  have c0 := fun n : In (Kept w w.heap.size z p b) => n.ok.2.2.1
  have c1 := fun n : In (Kept w w.heap.size z p b) => n.ok.2.2.2.1
  have c2 := fun n : In (Kept w w.heap.size z p b) => n.ok.2.2.2.2
  repeat (go_big_quiet_step (first
    | (go_at_call 8; exact In.same (bound_is _ _ _))
    | (go_at_call 9; exact In.same (rbound_is _ _ _))
    | (go_at_call 10; exact In.more Kept.up (right_at _ hr))
    | (go_at_call 11; exact In.more Kept.up (rright_at _ hr))
    | (go_at_call 12; exact In.more Kept.up (log_is _ _ _ _ (by omega) (by omega)))))
  refine wpQuiet_nil ?_
  intro nq
  clear s1
  have HK2 := Lib.hid nq.ok.1
  clear c0 c1 c2 HK
  go_wp2_with fail
  go_ret
  exact ⟨rfl, HK2.out⟩
theorem tells_true (z p b blocks : Int) (w : World) : Calls Try.prog 3 #[.agg #[.int .i64 z, .int .i64 p, .int .i64 b], .int .i64 blocks] w (TrueB w) := by
  by_cases hr : rightB z p b = true
  · by_cases h0 : blocks < 0
    · exact tells_neg_r z p b blocks w h0 hr
    · by_cases h1 : 1099511627776 < blocks
      · exact tells_big_r z p b blocks w h0 h1 hr
      · exact tells_small_r z p b blocks w (by omega) (by omega) hr
  · have hr' : rightB z p b = false := by simpa using hr
    by_cases h0 : blocks < 0
    · exact tells_neg_w z p b blocks w h0 hr'
    · by_cases h1 : 1099511627776 < blocks
      · exact tells_big_w z p b blocks w h0 h1 hr'
      · exact tells_small_w z p b blocks w (by omega) (by omega) hr'
end Go.Proofs.Ytmfnbnhcfbdicaa
