/-
  platelayerlaw03.SumJoins answers true.
-/
import Derived.Test.YtanlageejlbaaaaSumG
import Derived.Laws.MakeOwn
namespace Go.Proofs.Ytanlageejlbaaaa
open Go.RowKit

/-- A new row of zeros. -/
def zerosObj (k : Nat) : Obj := .cells (madeCells (Value.int .u8 0).cells (k * 1)) 5
theorem make_zeros (k : Nat) (hk : k ≤ 20000) (w : World) : (Instr.makeSlice 22 (.int .i64 (k : Int)) (.int .i64 (k : Int))).run Try.prog w = .ok (.slice (some ⟨w.heap.size, 0, none⟩) k k) (w.alloc (zerosObj k)) := by
  obtain ⟨i0, hi, hz0, hz1, hz2⟩ := info_parts byteInfo
  have := run_make (P := Try.prog) w 22 5 i0 (.int .u8 0) Try.underlying22 hi hz0 .i64 .i64 (k : Int) (k : Int) (by omega) (Int.le_refl _) (by rw [hz2]; omega) (by omega)
  rw [hz1] at this
  simpa [zerosObj] using this
theorem rd_zeros (w : World) (os : List Int) (h : os = List.replicate os.length 0) : Rd (w.alloc (zerosObj os.length)) (w.heap.size + 1) (some ⟨w.heap.size, 0, none⟩) os := by
  intro hn
  refine ⟨w.heap.size, 0, rfl, by omega, fun i hi => ?_⟩
  have e : os[i] = 0 := List.eq_of_mem_replicate (n := os.length) (by rw [← h]; exact List.getElem_mem hi)
  rw [e]
  have hb : (w.alloc (zerosObj os.length)).heap[w.heap.size]? = some (zerosObj os.length) := heap_alloc_new w _
  rw [Nat.zero_add, cell_of_row _ w.heap.size i (madeCells (Value.int .u8 0).cells (os.length * 1)) 5 (0, 0) hb]
  have hs : i < (madeCells (Value.int .u8 0).cells (os.length * 1)).size := by rw [size_madeCells]; omega
  rw [Array.getElem?_eq_getElem hs]
  simp [madeCells, Value.cells, Nat.mod_one]
theorem joins_low {xs os ns : List Int} (h : os = List.replicate os.length 0) (hn : ns = xs ++ os) : sumN ns % 65536 = sumN xs % 65536 := by
  obtain ⟨a1, a2⟩ := aL_bd 1 xs
  obtain ⟨b1, b2⟩ := aL_bd 1 ns
  unfold sumN
  rw [wN_low b1 b2, wN_low a1 a2, hn, ← aL_app, h, aL_zeros _ a1 a2]
theorem sumN_bd (xs : List Int) : 0 ≤ sumN xs ∧ sumN xs ≤ 4293984240 := by
  obtain ⟨a1, a2⟩ := aL_bd 1 xs
  obtain ⟨a3, a4⟩ := aH_bd 1 0 xs
  exact wN_bd a1 a2 a3 a4
theorem join_sumI (xs ys zs : List Int) (many : Int) (w : World) (hn : ys.length ≤ 1000000) (hz : zs = xs ++ ys) (hm : many = (ys.length : Int)) : Calls Try.prog 11 #[.int .u32 (sumN xs), .int .u32 (sumN ys), .int .i64 many] w (NumIs (sumN zs) w) := by
  subst hm
  exact join_sum xs ys zs w hn hz

/-- Some argument is too great: nothing is looked at. -/
def tooMuch (n m k : Nat) (zeros : Int) : Prop := 20000 < n ∨ 20000 < m ∨ 20000 < k ∨ zeros < 0 ∨ 20000 < zeros
set_option maxHeartbeats 1000000 in
theorem joins_long (A A2 A3 : Option Addr) (n m k c c2 c3 : Nat) (zeros : Int) (w : World) (h : tooMuch n m k zeros) : Calls Try.prog 6 #[.slice A n c, .slice A2 m c2, .slice A3 k c3, .int .i64 zeros] w (TrueB w) := by
  unfold tooMuch at h
  by_cases h1 : 20000 < n
  · clear h
    go_enter Try.func6, Try.ntmps6
    go_wp2_with fail
    refine (awake_true w).mono ?_
    rintro r w1 ⟨rfl, hb⟩
    have HB := Lib.hid hb
    clear hb
    go_wp2_with fail
    go_ret
    exact ⟨rfl, HB.out⟩
  · by_cases h2 : 20000 < m
    · clear h
      go_enter Try.func6, Try.ntmps6
      go_wp2_with fail
      refine (awake_true w).mono ?_
      rintro r w1 ⟨rfl, hb⟩
      have HB := Lib.hid hb
      clear hb
      go_wp2_with fail
      go_ret
      exact ⟨rfl, HB.out⟩
    · by_cases h3 : 20000 < k
      · clear h
        go_enter Try.func6, Try.ntmps6
        go_wp2_with fail
        refine (awake_true w).mono ?_
        rintro r w1 ⟨rfl, hb⟩
        have HB := Lib.hid hb
        clear hb
        go_wp2_with fail
        go_ret
        exact ⟨rfl, HB.out⟩
      · by_cases h4 : zeros < 0
        · clear h
          go_enter Try.func6, Try.ntmps6
          go_wp2_with fail
          refine (awake_true w).mono ?_
          rintro r w1 ⟨rfl, hb⟩
          have HB := Lib.hid hb
          clear hb
          go_wp2_with fail
          go_ret
          exact ⟨rfl, HB.out⟩
        · have h5 : 20000 < zeros := by omega
          clear h
          go_enter Try.func6, Try.ntmps6
          go_wp2_with fail
          refine (awake_true w).mono ?_
          rintro r w1 ⟨rfl, hb⟩
          have HB := Lib.hid hb
          clear hb
          go_wp2_with fail
          go_ret
          exact ⟨rfl, HB.out⟩

set_option maxHeartbeats 2000000 in
set_option maxRecDepth 100000 in
theorem joins_true (A A2 A3 : Option Addr) (xs ys zs os : List Int) (c c2 c3 : Nat) (w : World) (hx : Byt xs) (hy : Byt ys) (hz : Byt zs) (hr : Rd w w.heap.size A xs) (hr2 : Rd w w.heap.size A2 ys) (hr3 : Rd w w.heap.size A3 zs)
    (hc : xs.length ≤ c) (hc2 : ys.length ≤ c2) (hc3 : zs.length ≤ c3) (hn : xs.length ≤ 20000) (hm : ys.length ≤ 20000) (hk : zs.length ≤ 20000) (ho : os.length ≤ 20000) (hos : os = List.replicate os.length 0) :
    Calls Try.prog 6 #[.slice A xs.length c, .slice A2 ys.length c2, .slice A3 zs.length c3, .int .i64 (os.length : Int)] w (TrueB w) := by
  have HX := Lib.hid hx
  have HY := Lib.hid hy
  have HZ := Lib.hid hz
  have HR := Lib.hid hr
  have HR2 := Lib.hid hr2
  have HR3 := Lib.hid hr3
  have HOS := Lib.hid hos
  have HBO : Hid (Byt os) := Lib.hid (by rw [hos]; exact byt_zeros _)
  obtain ⟨ps, HPS⟩ : ∃ ps, Hid (ps = xs ++ ys) := ⟨_, Lib.hid rfl⟩
  obtain ⟨qs, HQS⟩ : ∃ qs, Hid (qs = ys ++ zs) := ⟨_, Lib.hid rfl⟩
  obtain ⟨all, HALL⟩ : ∃ all, Hid (all = ps ++ zs) := ⟨_, Lib.hid rfl⟩
  obtain ⟨ns, HNS⟩ : ∃ ns, Hid (ns = xs ++ os) := ⟨_, Lib.hid rfl⟩
  have HALL2 : Hid (all = xs ++ qs) := Lib.hid (by rw [HALL.out, HPS.out, HQS.out, List.append_assoc])
  have hmk := make_zeros os.length ho
  have q1 : (sumN ns % 65536 == sumN xs % 65536) = true := by simpa using joins_low hos HNS.out
  obtain ⟨n1, n2⟩ := sumN_bd ns
  obtain ⟨n3, n4⟩ := sumN_bd xs
  clear hx hy hz hr hr2 hr3 hos
  go_enter Try.func6, Try.ntmps6
  go_wp2_with fail
  refine (awake_true w).mono ?_
  rintro r w1 ⟨rfl, hb⟩
  have HB1 := Lib.hid hb
  clear hb
  go_wp2_with fail
  refine (of_is A xs c w1 HX.out ((HR.out.below HB1.out).mono HB1.out.size) hc (by omega)).mono ?_
  rintro r w2 ⟨rfl, hb⟩
  have HB2 := Lib.hid (HB1.out.trans (hb.mono HB1.out.size))
  clear hb HB1
  go_wp2_with fail
  refine (of_is A2 ys c2 w2 HY.out ((HR2.out.below HB2.out).mono HB2.out.size) hc2 (by omega)).mono ?_
  rintro r w3 ⟨rfl, hb⟩
  have HB3 := Lib.hid (HB2.out.trans (hb.mono HB2.out.size))
  clear hb HB2
  go_wp2_with fail
  refine (of_is A3 zs c3 w3 HZ.out ((HR3.out.below HB3.out).mono HB3.out.size) hc3 (by omega)).mono ?_
  rintro r w4 ⟨rfl, hb⟩
  have HB4 := Lib.hid (HB3.out.trans (hb.mono HB3.out.size))
  clear hb HB3
  go_wp2_with fail
  refine (join_sum xs ys ps w4 (by omega) HPS.out).mono ?_
  rintro r w' ⟨rfl, rfl⟩
  go_wp2_with fail
  refine (join_sum ps zs all w4 (by omega) HALL.out).mono ?_
  rintro r w' ⟨rfl, rfl⟩
  go_wp2_with fail
  refine (join_sum ys zs qs w4 (by omega) HQS.out).mono ?_
  rintro r w' ⟨rfl, rfl⟩
  go_wp2_with fail
  refine (join_sumI xs qs all _ w4 ?_ HALL2.out ?_).mono ?_
  · rw [HQS.out]; simp; omega
  · rw [HQS.out]; simp
  rintro r w' ⟨rfl, rfl⟩
  have HB5 := Lib.hid (HB4.out.alloc HB4.out.size (zerosObj os.length))
  have HR5 := Lib.hid (rd_zeros w4 os HOS.out)
  clear HB4
  go_wp2_with fail
  refine (of_is _ os _ _ HBO.out (HR5.out.mono (by simp)) (Nat.le_refl _) (by omega)).mono ?_
  rintro r w6 ⟨rfl, hb⟩
  have HB6 := Lib.hid (HB5.out.trans (hb.mono HB5.out.size))
  have HS6 := Lib.hid (show w4.heap.size + 1 ≤ w6.heap.size by have := hb.size; simpa using this)
  have HR6 := Lib.hid (HR5.out.below (hb.mono (by simp)))
  clear hb HB5 HR5
  go_wp2_with fail
  refine (join_sum xs os ns w6 (by omega) HNS.out).mono ?_
  rintro r w' ⟨rfl, rfl⟩
  go_wp2_with fail
  refine (add_sum _ xs os ns _ w6 HBO.out (HR6.out.mono HS6.out) (Nat.le_refl _) (by omega) HNS.out).mono ?_
  rintro r w7 ⟨rfl, hb⟩
  have HB7 := Lib.hid (HB6.out.trans (hb.mono HB6.out.size))
  have HS7 := Lib.hid (Nat.le_trans HS6.out hb.size)
  have HR7 := Lib.hid (HR6.out.below (hb.mono HS6.out))
  clear hb HB6 HR6
  go_wp2_with fail
  refine (add_sum _ xs os ns _ w7 HBO.out (HR7.out.mono HS7.out) (Nat.le_refl _) (by omega) HNS.out).mono ?_
  rintro r w8 ⟨rfl, hb⟩
  have HB8 := Lib.hid (HB7.out.trans (hb.mono HB7.out.size))
  clear hb HB7
  go_wp2_with fail
  go_ret
  exact ⟨rfl, HB8.out⟩
end Go.Proofs.Ytanlageejlbaaaa
