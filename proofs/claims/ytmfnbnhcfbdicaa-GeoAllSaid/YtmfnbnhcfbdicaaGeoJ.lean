/-
  platelayerlaw02.GeoAll answers true.
-/
import Derived.Test.YtmfnbnhcfbdicaaGeoI
namespace Go.Proofs.Ytmfnbnhcfbdicaa
open Go.RowKit

theorem val_u32 {a b : Int} (h : a = b) : Value.int .u32 a = .int .u32 b := by rw [h]

set_option maxHeartbeats 1000000 in
set_option maxRecDepth 100000 in
theorem all_wrong (z p b : Int) (w : World) (hr : rightB z p b = false) : Calls Try.prog 5 #[.agg #[.int .i64 z, .int .i64 p, .int .i64 b]] w (TrueB w) := by
  have HK : Hid (Kept w w.heap.size z p b _) := Lib.hid ⟨below_box w (.cells #[.int .i64 z, .int .i64 p, .int .i64 b] 23), Box.made w z p b 23⟩
  go_enter Try.func5, Try.ntmps5
  go_wp2_with fail
  refine (awake_true _).mono ?_
  rintro r w1 ⟨rfl, hb1⟩
  replace HK := Lib.hid (HK.out.up hb1)
  obtain ⟨_, _, c0, c1, c2⟩ := HK.out
  clear hb1
  go_wp2_with fail
  refine (rright_at _ hr).mono ?_
  rintro r w2 ⟨rfl, hb2⟩
  replace HK := Lib.hid (HK.out.up hb2)
  clear hb2 c0 c1 c2
  go_wp2_with fail
  go_ret
  exact ⟨rfl, HK.out.1⟩

set_option maxHeartbeats 4000000 in
set_option maxRecDepth 100000 in
theorem all_right (z p b : Int) (w : World) (hr : rightB z p b = true) : Calls Try.prog 5 #[.agg #[.int .i64 z, .int .i64 p, .int .i64 b]] w (TrueB w) := by
  obtain ⟨hi, _, _⟩ := right_in hr
  have HI := Lib.hid hi
  obtain ⟨g1, g2, g3, g4⟩ := insB_iff.1 hi
  clear hi
  have HK : Hid (Kept w w.heap.size z p b _) := Lib.hid ⟨below_box w (.cells #[.int .i64 z, .int .i64 p, .int .i64 b] 23), Box.made w z p b 23⟩
  go_enter Try.func5, Try.ntmps5
  go_wp2_with fail
  refine (awake_true _).mono ?_
  rintro r w1 ⟨rfl, hb1⟩
  replace HK := Lib.hid (HK.out.up hb1)
  obtain ⟨_, _, c0, c1, c2⟩ := HK.out
  clear hb1
  go_wp2_with fail
  refine (rright_at _ hr).mono ?_
  rintro r w2 ⟨rfl, hb2⟩
  replace HK := Lib.hid (HK.out.up hb2)
  clear hb2 c0 c1 c2
  obtain ⟨_, _, c0, c1, c2⟩ := HK.out
  go_wp2_with fail
  refine (log_is _ _ _ _ (by omega) (by omega)).mono ?_
  rintro r w3 ⟨rfl, hb3⟩
  replace HK := Lib.hid (HK.out.up hb3)
  clear hb3 c0 c1 c2
  go_wp2_with fail
  go_loopg [3, 22] (z - 2).toNat (fun k la i wr => ∃ j : Nat, k = (z - 2).toNat - j ∧ (j : Int) ≤ z - 2 ∧ la = .int .u32 ((j : Int) * p) ∧ i = .int .i64 j ∧ Kept w w.heap.size z p b wr)
  case atStart => exact ⟨0, by omega, by omega, val_u32 (by simp), rfl, HK.out⟩
  case round =>
    clear HK
    obtain ⟨j, hk, hj, rfl, rfl, hkept⟩ := hrel
    have HK := Lib.hid hkept
    have HM := Lib.hid hk
    clear hkept hk
    obtain ⟨_, _, c0, c1, c2⟩ := HK.out
    by_cases hlt : (j : Int) < z - 2
    · obtain ⟨m1, m2, m3⟩ := mul_bd (z := z) (p := p) (zone := j) HI.out (by omega) hlt
      go_wp2_with fail
      obtain ⟨wo, rfl⟩ : ∃ wo : World, wo = wr := ⟨_, rfl⟩
      clear c0 c1 c2
      go_loopg [3, 27] p.toNat (fun k la i wr => ∃ l : Nat, k = p.toNat - l ∧ (l : Int) ≤ p ∧ la = .int .u32 ((j : Int) * p + l) ∧ i = .int .i64 l ∧ Kept w w.heap.size z p b wr)
      case atStart => exact ⟨0, by omega, by omega, val_u32 (by simp), rfl, HK.out⟩
      case round =>
        clear HK
        obtain ⟨l, hk, hl, rfl, rfl, hkept⟩ := hrel
        have HK := Lib.hid hkept
        have HM2 := Lib.hid hk
        clear hkept hk
        obtain ⟨_, _, c0, c1, c2⟩ := HK.out
        by_cases hlt2 : (l : Int) < p
        · have HA : Hid (atI z p ((j : Int) * p + l + 1) = ((j : Int), (l : Int), true)) := Lib.hid (by
            rw [show (j : Int) * p + l + 1 = 1 + (j : Int) * p + l by omega]
            exact atI_in HI.out (by omega) hlt (by omega) hlt2)
          have HO : Hid (ofI z p j l = (j : Int) * p + l + 1) := Lib.hid (by
            rw [ofI_in (by omega) hlt (by omega) hlt2]
            omega)
          go_wp2_with fail
          refine (at_at _ HI.out (by omega) HA.out).mono ?_
          rintro r w4 ⟨rfl, hb4⟩
          replace HK := Lib.hid (HK.out.up hb4)
          clear hb4 c0 c1 c2
          obtain ⟨_, _, c0, c1, c2⟩ := HK.out
          go_wp2_with fail
          refine (of_at _ HI.out HO.out).mono ?_
          rintro r w5 ⟨rfl, hb5⟩
          replace HK := Lib.hid (HK.out.up hb5)
          clear hb5 c0 c1 c2
          go_wp2_with fail
          go_roundg (p.toNat - (l + 1))
          case rel => exact ⟨l + 1, rfl, by omega, val_u32 (by omega), by go_num, HK.out⟩
          case measure => rw [HM2.out]; omega
        · have e : (j : Int) * p + l = ((j + 1 : Nat) : Int) * p := by
            have e1 : (l : Int) = p := by omega
            rw [e1]
            simp [Int.add_mul]
          have HE := Lib.hid e
          clear e
          go_wp2_with fail
          go_roundg ((z - 2).toNat - (j + 1))
          case rel => exact ⟨j + 1, rfl, by omega, val_u32 HE.out, by go_num, HK.out⟩
          case measure => rw [HM.out]; omega
    · have ej : (j : Int) = z - 2 := by omega
      have el : (j : Int) * p = lastI z p := by rw [ej]; rfl
      have lb := last_bd HI.out
      have HA : Hid (atI z p (lastI z p + 1) = (0, 0, false)) := Lib.hid (by unfold atI; rw [if_pos (by omega)])
      have HA0 : Hid (atI z p 0 = (0, 0, false)) := Lib.hid (by unfold atI; rw [if_pos (by omega)])
      have HO1 : Hid (ofI z p (z - 2) 0 = 0) := Lib.hid (by unfold ofI; rw [if_pos (by omega)])
      have HO2 : Hid (ofI z p 0 p = 0) := Lib.hid (by unfold ofI; rw [if_pos (by omega)])
      have HO3 : Hid (ofI z p (-1) 0 = 0) := Lib.hid (by unfold ofI; rw [if_pos (by omega)])
      rw [el]
      clear el ej
      obtain ⟨lb1, lb2⟩ := lb
      go_wp2_with fail
      refine (at_at _ HI.out (by omega) HA.out).mono ?_
      rintro r w4 ⟨rfl, hb4⟩
      replace HK := Lib.hid (HK.out.up hb4)
      clear hb4 c0 c1 c2
      obtain ⟨_, _, c0, c1, c2⟩ := HK.out
      go_wp2_with fail
      refine (at_at _ HI.out (by omega) HA0.out).mono ?_
      rintro r w5 ⟨rfl, hb5⟩
      replace HK := Lib.hid ((HK.out.up hb5).up (Below.refl _ _).drew)
      clear hb5 c0 c1 c2
      go_wp2_with fail
      refine wp_region_in (Kept w w.heap.size z p b) HK.out (by kernel_rfl) (by kernel_rfl) (fun ne => ?_)
      have c0 := fun n : In (Kept w w.heap.size z p b) => n.ok.2.2.1
      have c1 := fun n : In (Kept w w.heap.size z p b) => n.ok.2.2.2.1
      have c2 := fun n : In (Kept w w.heap.size z p b) => n.ok.2.2.2.2
      repeat (go_big_quiet_step (first
        | (go_at_call 12; exact In.more Kept.up (log_is _ _ _ _ (by omega) (by omega)))
        | (go_at_call 18; first | exact In.more Kept.up (of_at _ HI.out HO1.out) | exact In.more Kept.up (of_at _ HI.out HO2.out) | exact In.more Kept.up (of_at _ HI.out HO3.out))))
      refine wpQuiet_nil ?_
      intro nq
      have HK2 := Lib.hid nq.ok
      clear c0 c1 c2 HK
      go_wp2_with fail
      go_ret
      exact ⟨rfl, HK2.out.1⟩
theorem all_true (z p b : Int) (w : World) : Calls Try.prog 5 #[.agg #[.int .i64 z, .int .i64 p, .int .i64 b]] w (TrueB w) := by
  by_cases hr : rightB z p b = true
  · exact all_right z p b w hr
  · exact all_wrong z p b w (by simpa using hr)
end Go.Proofs.Ytmfnbnhcfbdicaa
