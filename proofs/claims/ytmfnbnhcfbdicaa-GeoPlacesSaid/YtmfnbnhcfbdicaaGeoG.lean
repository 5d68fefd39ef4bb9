/-
  platelayerlaw02.awake answers true.
-/
import Derived.Test.YtmfnbnhcfbdicaaGeoF
namespace Go.Proofs.Ytmfnbnhcfbdicaa
open Go.RowKit

theorem at_is (z p b a : Int) (w : World) (hi : insB z p = true) (h0 : 0 ≤ a) : Calls Try.prog 16 #[.agg #[.int .i64 z, .int .i64 p, .int .i64 b], .int .u32 a] w (AtIs (atI z p a) w) := by
  by_cases hz : a = 0
  · exact at_zero z p b a w hi hz
  · have hz' : (a == 0) = false := by simpa using hz
    by_cases h1 : lastI z p < a
    · exact at_over z p b a w hi hz' h1
    · exact at_in z p b a w hi hz' (by omega) (by omega)

theorem k_ins : insB 11 4 = true := rfl
theorem k_at : atI 11 4 6 = (1, 1, true) := rfl
theorem k_bnd : bnd 11 4 = 6 := rfl
theorem k_tab : tab 6 = 2 := rfl
theorem k_right : rightB 11 4 6 = true := rfl
theorem k_wrong : rightB 11 4 7 = false := rfl
theorem k_of : ofI 11 4 1 1 = 6 := rfl
theorem k_of0 : ofI 11 4 9 0 = 0 := rfl

def TrueB (w : World) (r : Ending) (w' : World) : Prop := r = .returned (.bool true) ∧ Below w.heap.size w w'

set_option maxHeartbeats 1000000 in
set_option maxRecDepth 100000 in
theorem awake_true (w : World) : Calls Try.prog 7 #[] w (TrueB w) := by
  have HB0 := Lib.hid (below_box w (.cells #[.int .i64 11, .int .i64 4, .int .i64 6] 23))
  have HX0 := Lib.hid (Box.made w 11 4 6 23)
  go_enter Try.func7, Try.ntmps7
  go_wp2_with fail
  refine (at_is 11 4 6 6 _ k_ins (by omega)).mono ?_
  rintro r w1 ⟨rfl, hb1⟩
  have HB1 := Lib.hid (below_all HB0.out hb1)
  have HX1 := Lib.hid (HX0.out.up hb1)
  clear hb1
  obtain ⟨_, c0, c1, c2⟩ := HX1.out
  rw [k_at]
  go_wp2_with fail
  refine (table_is 5 _ (by omega) (by omega)).mono ?_
  rintro r w' ⟨rfl, rfl⟩
  go_wp2_with fail
  refine (bound_is 11 4 _).mono ?_
  rintro r w' ⟨rfl, rfl⟩
  rw [k_bnd]
  go_wp2_with fail
  refine (tables_is 6 _ (by omega)).mono ?_
  rintro r w' ⟨rfl, rfl⟩
  rw [k_tab]
  go_wp2_with fail
  refine (right_is 11 4 6 _).mono ?_
  rintro r w2 ⟨rfl, hb2⟩
  have HB2 := Lib.hid (below_all HB1.out hb2)
  have HX2 := Lib.hid (HX1.out.up hb2)
  clear hb2
  clear c0 c1 c2
  obtain ⟨_, c0, c1, c2⟩ := HX2.out
  rw [k_right]
  go_wp2_with fail
  refine (right_is 11 4 7 _).mono ?_
  rintro r w3 ⟨rfl, hb3⟩
  have HB3 := Lib.hid (below_all HB2.out hb3)
  have HX3 := Lib.hid (HX2.out.up hb3)
  clear hb3
  clear c0 c1 c2
  obtain ⟨_, c0, c1, c2⟩ := HX3.out
  rw [k_wrong]
  go_wp2_with fail
  refine (log_is 11 4 6 _ (by omega) (by omega)).mono ?_
  rintro r w4 ⟨rfl, hb4⟩
  have HB4 := Lib.hid (below_all HB3.out hb4)
  have HX4 := Lib.hid (HX3.out.up hb4)
  clear hb4
  clear c0 c1 c2
  obtain ⟨_, c0, c1, c2⟩ := HX4.out
  go_wp2_with fail
  refine (of_is 11 4 6 1 1 _ k_ins).mono ?_
  rintro r w5 ⟨rfl, hb5⟩
  have HB5 := Lib.hid (below_all HB4.out hb5)
  have HX5 := Lib.hid (HX4.out.up hb5)
  clear hb5
  clear c0 c1 c2
  obtain ⟨_, c0, c1, c2⟩ := HX5.out
  rw [k_of]
  go_wp2_with fail
  refine (of_is 11 4 6 9 0 _ k_ins).mono ?_
  rintro r w6 ⟨rfl, hb6⟩
  have HB6 := Lib.hid (below_all HB5.out hb6)
  have HX6 := Lib.hid (HX5.out.up hb6)
  clear hb6
  clear c0 c1 c2
  obtain ⟨_, c0, c1, c2⟩ := HX6.out
  rw [k_of0]
  go_wp2_with fail
  go_ret
  exact ⟨rfl, HB6.out⟩
end Go.Proofs.Ytmfnbnhcfbdicaa
