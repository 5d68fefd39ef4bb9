/-
  platelayerlaw03.SumParts answers true.
-/
import Derived.Test.YtanlageejlbaaaaSumF
namespace Go.Proofs.Ytanlageejlbaaaa
open Go.RowKit

theorem parts_longA (A A2 : Option Addr) (n m c c2 : Nat) (w : World) (hn : 20000 < n) : Calls Try.prog 4 #[.slice A n c, .slice A2 m c2] w (TrueB w) := by
  go_enter Try.func4, Try.ntmps4
  go_wp2_with fail
  refine (awake_true w).mono ?_
  rintro r w1 ⟨rfl, hb⟩
  have HB := Lib.hid hb
  clear hb
  go_wp2_with fail
  go_ret
  exact ⟨rfl, HB.out⟩
theorem parts_longB (A A2 : Option Addr) (n m c c2 : Nat) (w : World) (hn : n ≤ 20000) (hm : 20000 < m) : Calls Try.prog 4 #[.slice A n c, .slice A2 m c2] w (TrueB w) := by
  go_enter Try.func4, Try.ntmps4
  go_wp2_with fail
  refine (awake_true w).mono ?_
  rintro r w1 ⟨rfl, hb⟩
  have HB := Lib.hid hb
  clear hb
  go_wp2_with fail
  go_ret
  exact ⟨rfl, HB.out⟩

theorem own_empty (w : World) (base : Nat) (hb : base ≤ w.heap.size) : (w.alloc (.cells #[] 5)).ownsRow base 5 1 (.slice (some ⟨w.heap.size, 0, none⟩) 0 0) ([] : List Int).length (cellsOf8 []) :=
  ⟨by simp [cellsOf8], .inr ⟨w.heap.size, 0, #[], rfl, hb, heap_alloc_new w _, Nat.le_refl _, by unfold maxLen; omega, by simp, by simp [cellsOf8]⟩⟩

set_option maxHeartbeats 1000000 in
set_option maxRecDepth 100000 in
theorem parts_true (A A2 : Option Addr) (xs ys : List Int) (c c2 : Nat) (w : World) (hx : Byt xs) (hy : Byt ys) (hr : Rd w w.heap.size A xs) (hr2 : Rd w w.heap.size A2 ys) (hc : xs.length ≤ c) (hc2 : ys.length ≤ c2)
    (hz : A = none → c = 0) (hz2 : A2 = none → c2 = 0) (hn : xs.length ≤ 20000) (hm : ys.length ≤ 20000) : Calls Try.prog 4 #[.slice A xs.length c, .slice A2 ys.length c2] w (TrueB w) := by
  have HX := Lib.hid hx
  have HY := Lib.hid hy
  have HR := Lib.hid hr
  have HR2 := Lib.hid hr2
  have HZ := Lib.hid hz
  have HZ2 := Lib.hid hz2
  clear hx hy hr hr2 hz hz2
  go_enter Try.func4, Try.ntmps4
  go_wp2_with fail
  refine (awake_true w).mono ?_
  rintro r w1 ⟨rfl, hb⟩
  have HB1 := Lib.hid hb
  have hs1 := hb.size
  clear hb
  have HE := Lib.hid (own_empty w1 w.heap.size hs1)
  have HB2 := Lib.hid (HB1.out.alloc hs1 (.cells #[] 5))
  go_wp2_with (first
    | (at_builtin; refine append_rd _ rfl (.tmp 16) (.tmp 17) rfl w.heap.size w.heap.size _ [] rfl HE.out A xs c rfl (HR.out.below HB2.out) HZ.out (by simp; omega) HB2.out.size ?_; intro v3 w3 ms hzs hown hg; have HAS := hzs; clear hzs; have HB3 := Lib.hid (HB2.out.grown hg HB2.out.size (fun q hq => (HE.out.lt q hq).1)); clear hg; have HO3 := Lib.hid hown; clear hown)
    | (at_builtin; refine append_rd _ rfl (.tmp 18) (.tmp 19) rfl w.heap.size w.heap.size _ ms rfl HO3.out A2 ys c2 rfl (HR2.out.below HB3.out) HZ2.out (by rw [HAS.out]; simp; omega) HB3.out.size ?_; intro v4 w4 zs hzs hown hg; have HZS := hzs; clear hzs; have HB4 := Lib.hid (HB3.out.grown hg HB3.out.size (fun q hq => (HO3.out.lt q hq).1)); clear hg; obtain ⟨A5, c5, rfl, hc5, hr5⟩ := Rd.of_own hown; have HR5 := Lib.hid hr5; clear hown hr5)
    | fail)
  have HZ' : Hid (zs = xs ++ ys) := Lib.hid (by rw [HZS.out, HAS.out]; simp)
  have hzl : zs.length ≤ 40000 := by rw [HZ'.out]; simp; omega
  have HBZ : Hid (Byt zs) := Lib.hid (by rw [HZ'.out]; exact HX.out.app HY.out)
  clear HZS HAS HO3 HE HB1 HB2 HB3
  refine (of_is A5 zs c5 w4 HBZ.out HR5.out hc5 (by omega)).mono ?_
  rintro r w5 ⟨rfl, hb⟩
  have HB5 := Lib.hid (HB4.out.trans (hb.mono HB4.out.size))
  clear hb HR5 HB4
  go_wp2_with fail
  refine (of_is A xs c w5 HX.out ((HR.out.below HB5.out).mono HB5.out.size) hc (by omega)).mono ?_
  rintro r w6 ⟨rfl, hb⟩
  have HB6 := Lib.hid (HB5.out.trans (hb.mono HB5.out.size))
  clear hb HB5
  go_wp2_with fail
  refine (add_sum A2 xs ys zs c2 w6 HY.out ((HR2.out.below HB6.out).mono HB6.out.size) hc2 (by omega) HZ'.out).mono ?_
  rintro r w7 ⟨rfl, hb⟩
  have HB7 := Lib.hid (HB6.out.trans (hb.mono HB6.out.size))
  clear hb HB6
  go_wp2_with fail
  refine (of_is A xs c w7 HX.out ((HR.out.below HB7.out).mono HB7.out.size) hc (by omega)).mono ?_
  rintro r w8 ⟨rfl, hb⟩
  have HB8 := Lib.hid (HB7.out.trans (hb.mono HB7.out.size))
  clear hb HB7
  go_wp2_with fail
  refine (of_is A2 ys c2 w8 HY.out ((HR2.out.below HB8.out).mono HB8.out.size) hc2 (by omega)).mono ?_
  rintro r w9 ⟨rfl, hb⟩
  have HB9 := Lib.hid (HB8.out.trans (hb.mono HB8.out.size))
  clear hb HB8
  go_wp2_with fail
  refine (join_sum xs ys zs w9 (by omega) HZ'.out).mono ?_
  rintro r w' ⟨rfl, rfl⟩
  go_wp2_with fail
  refine (add_none zs w9).mono ?_
  rintro r w10 ⟨rfl, hb⟩
  have HB10 := Lib.hid (HB9.out.trans (hb.mono HB9.out.size))
  clear hb HB9
  go_wp2_with fail
  refine (join_none zs w10).mono ?_
  rintro r w' ⟨rfl, rfl⟩
  go_wp2_with fail
  go_ret
  exact ⟨rfl, HB10.out⟩
end Go.Proofs.Ytanlageejlbaaaa
