/-
  platelayerlaw03.SumTells answers true.
-/
import Derived.Test.YtanlageejlbaaaaSumD
namespace Go.Proofs.Ytanlageejlbaaaa
open Go.RowKit

theorem tells_long (A : Option Addr) (n c : Nat) (w : World) (hn : 20000 < n) : Calls Try.prog 3 #[.slice A n c] w (TrueB w) := by
  go_enter Try.func3, Try.ntmps3
  go_wp2_with fail
  refine (awake_true w).mono ?_
  rintro r w1 ⟨rfl, hb⟩
  have HB := Lib.hid hb
  clear hb
  go_wp2_with fail
  go_ret
  exact ⟨rfl, HB.out⟩
theorem tells_true (A : Option Addr) (xs : List Int) (c : Nat) (w : World) (hx : Byt xs) (hr : Rd w w.heap.size A xs) (hc : xs.length ≤ c) (hn : xs.length ≤ 20000) : Calls Try.prog 3 #[.slice A xs.length c] w (TrueB w) := by
  have HX := Lib.hid hx
  have HR := Lib.hid hr
  clear hx hr
  go_enter Try.func3, Try.ntmps3
  go_wp2_with fail
  refine (awake_true w).mono ?_
  rintro r w1 ⟨rfl, hb⟩
  have HB := Lib.hid hb
  have HR1 := Lib.hid ((HR.out.below hb).mono hb.size)
  clear hb
  go_wp2_with fail
  refine (of_is A xs c _ HX.out HR1.out hc (by omega)).mono ?_
  rintro r w2 ⟨rfl, hb⟩
  have HB2 := Lib.hid (below_all HB.out hb)
  have HR2 := Lib.hid ((HR1.out.below hb).mono hb.size)
  clear hb
  go_wp2_with fail
  refine (rof_is A xs c _ HX.out HR2.out hn).mono ?_
  rintro r w' ⟨rfl, rfl⟩
  go_wp2_with fail
  go_ret
  exact ⟨rfl, HB2.out⟩
end Go.Proofs.Ytanlageejlbaaaa
