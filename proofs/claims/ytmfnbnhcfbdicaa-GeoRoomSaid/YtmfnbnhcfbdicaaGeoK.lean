/-
  platelayerlaw02.GeoRoom answers true.
-/
import Derived.Test.YtmfnbnhcfbdicaaGeoH
namespace Go.Proofs.Ytmfnbnhcfbdicaa
open Go.RowKit

/-- As Kept, and the box's third cell may be written. -/
def KeptF (w : World) (B : Nat) (z p b : Int) (u : World) : Prop := Kept w B z p b u ∧ u.frozen? ⟨B, 2, none⟩ = false
theorem KeptF.up {w : World} {B : Nat} {z p b : Int} {a u : World} (h : KeptF w B z p b a) (hb : Below a.heap.size a u) : KeptF w B z p b u :=
  ⟨h.1.up hb, (hb.frozen (p := ⟨B, 2, none⟩) h.1.2.1).trans h.2⟩
theorem KeptF.made (w : World) (z p b : Int) (T : TypeId) : KeptF w w.heap.size z p b (w.alloc (.cells #[.int .i64 z, .int .i64 p, .int .i64 b] T)) :=
  ⟨⟨below_box w _, Box.made w z p b T⟩, by simp⟩

theorem bound_at {z p n : Int} (w : World) (h : bnd z p = n) : Calls Try.prog 8 #[.int .i64 z, .int .i64 p] w (IntIs n w) := h ▸ bound_is z p w

set_option maxHeartbeats 4000000 in
set_option maxRecDepth 100000 in
theorem room_none (z p b blocks : Int) (hn : bnd z p = 0) (w : World) (c : Bool) (hr : rightB z p blocks = c) (hc : c = (decide (1 ≤ blocks) && decide (blocks ≤ 0))) (hz : 11 ≤ z → z < 24 → 0 ≤ bnd (z + 1) p) (hp : 4 ≤ p → p < 16 → 0 ≤ bnd z (p + 1)) : Calls Try.prog 6 #[.agg #[.int .i64 z, .int .i64 p, .int .i64 b], .int .i64 blocks] w (TrueB w) := by
  have HN := Lib.hid hn
  have HR := Lib.hid hr
  have HC := Lib.hid hc
  have HZ := Lib.hid hz
  have HP := Lib.hid hp
  clear hn hr hc hz hp
  have HK : Hid (KeptF w w.heap.size z p b _) := Lib.hid (KeptF.made w z p b 23)
  go_enter Try.func6, Try.ntmps6
  go_wp2_with fail
  refine (awake_true _).mono ?_
  rintro r w1 ⟨rfl, hb1⟩
  replace HK := Lib.hid (HK.out.up hb1)
  obtain ⟨⟨_, _, c0, c1, c2⟩, f2⟩ := HK.out
  clear hb1
  go_wp2_with fail
  refine (bound_at _ HN.out).mono ?_
  rintro r w' ⟨rfl, rfl⟩
  clear c0 c1 c2 f2
  replace HK := Lib.hid (HK.out.up (Below.refl _ _).drew)
  go_wp2_with fail
  refine wp_region_in (KeptF w w.heap.size z p b) HK.out (by kernel_rfl) (by kernel_rfl) (fun ne => ?_)
  have c0 := fun n : In (KeptF w w.heap.size z p b) => n.ok.1.2.2.1
  have c1 := fun n : In (KeptF w w.heap.size z p b) => n.ok.1.2.2.2.1
  have c2 := fun n : In (KeptF w w.heap.size z p b) => n.ok.1.2.2.2.2
  repeat (go_big_quiet_step (fail))
  refine wpQuiet_nil ?_
  intro nq
  have HK2 := Lib.hid nq.ok
  clear c0 c1 c2 HK
  obtain ⟨⟨_, _, c0, c1, c2⟩, f2⟩ := HK2.out
  by_cases hbk : 1 ≤ blocks
  · have HC2 : Hid (c = decide (blocks ≤ 0)) := Lib.hid (by rw [HC.out]; simp [hbk])
    clear HC
    by_cases hz1 : z < 11
    · by_cases hp1 : p < 4
      · go_wp2_with (go_at_call 8; (with_reducible refine (bound_is _ _ _).mono ?_); rintro r w' ⟨rfl, rfl⟩)
        refine (right_at _ HR.out).mono ?_
        rintro r w5 ⟨rfl, hb5⟩
        have HB5 := Lib.hid (below_all (HK2.out.1.1.setCell (Nat.le_refl _) _) hb5)
        clear hb5
        rw [HC2.out]
        go_wp2_with fail
        go_ret
        exact ⟨rfl, HB5.out⟩
      · by_cases hp2 : p < 16
        · have hpp := HP.out (by omega) hp2
          go_wp2_with (go_at_call 8; (with_reducible refine (bound_is _ _ _).mono ?_); rintro r w' ⟨rfl, rfl⟩)
          refine (right_at _ HR.out).mono ?_
          rintro r w5 ⟨rfl, hb5⟩
          have HB5 := Lib.hid (below_all (HK2.out.1.1.setCell (Nat.le_refl _) _) hb5)
          clear hb5
          rw [HC2.out]
          go_wp2_with fail
          go_ret
          exact ⟨rfl, HB5.out⟩
        · go_wp2_with (go_at_call 8; (with_reducible refine (bound_is _ _ _).mono ?_); rintro r w' ⟨rfl, rfl⟩)
          refine (right_at _ HR.out).mono ?_
          rintro r w5 ⟨rfl, hb5⟩
          have HB5 := Lib.hid (below_all (HK2.out.1.1.setCell (Nat.le_refl _) _) hb5)
          clear hb5
          rw [HC2.out]
          go_wp2_with fail
          go_ret
          exact ⟨rfl, HB5.out⟩
    · by_cases hz2 : z < 24
      · have hzz := HZ.out (by omega) hz2
        by_cases hp1 : p < 4
        · go_wp2_with (go_at_call 8; (with_reducible refine (bound_is _ _ _).mono ?_); rintro r w' ⟨rfl, rfl⟩)
          refine (right_at _ HR.out).mono ?_
          rintro r w5 ⟨rfl, hb5⟩
          have HB5 := Lib.hid (below_all (HK2.out.1.1.setCell (Nat.le_refl _) _) hb5)
          clear hb5
          rw [HC2.out]
          go_wp2_with fail
          go_ret
          exact ⟨rfl, HB5.out⟩
        · by_cases hp2 : p < 16
          · have hpp := HP.out (by omega) hp2
            go_wp2_with (go_at_call 8; (with_reducible refine (bound_is _ _ _).mono ?_); rintro r w' ⟨rfl, rfl⟩)
            refine (right_at _ HR.out).mono ?_
            rintro r w5 ⟨rfl, hb5⟩
            have HB5 := Lib.hid (below_all (HK2.out.1.1.setCell (Nat.le_refl _) _) hb5)
            clear hb5
            rw [HC2.out]
            go_wp2_with fail
            go_ret
            exact ⟨rfl, HB5.out⟩
          · go_wp2_with (go_at_call 8; (with_reducible refine (bound_is _ _ _).mono ?_); rintro r w' ⟨rfl, rfl⟩)
            refine (right_at _ HR.out).mono ?_
            rintro r w5 ⟨rfl, hb5⟩
            have HB5 := Lib.hid (below_all (HK2.out.1.1.setCell (Nat.le_refl _) _) hb5)
            clear hb5
            rw [HC2.out]
            go_wp2_with fail
            go_ret
            exact ⟨rfl, HB5.out⟩
      · by_cases hp1 : p < 4
        · go_wp2_with (go_at_call 8; (with_reducible refine (bound_is _ _ _).mono ?_); rintro r w' ⟨rfl, rfl⟩)
          refine (right_at _ HR.out).mono ?_
          rintro r w5 ⟨rfl, hb5⟩
          have HB5 := Lib.hid (below_all (HK2.out.1.1.setCell (Nat.le_refl _) _) hb5)
          clear hb5
          rw [HC2.out]
          go_wp2_with fail
          go_ret
          exact ⟨rfl, HB5.out⟩
        · by_cases hp2 : p < 16
          · have hpp := HP.out (by omega) hp2
            go_wp2_with (go_at_call 8; (with_reducible refine (bound_is _ _ _).mono ?_); rintro r w' ⟨rfl, rfl⟩)
            refine (right_at _ HR.out).mono ?_
            rintro r w5 ⟨rfl, hb5⟩
            have HB5 := Lib.hid (below_all (HK2.out.1.1.setCell (Nat.le_refl _) _) hb5)
            clear hb5
            rw [HC2.out]
            go_wp2_with fail
            go_ret
            exact ⟨rfl, HB5.out⟩
          · go_wp2_with (go_at_call 8; (with_reducible refine (bound_is _ _ _).mono ?_); rintro r w' ⟨rfl, rfl⟩)
            refine (right_at _ HR.out).mono ?_
            rintro r w5 ⟨rfl, hb5⟩
            have HB5 := Lib.hid (below_all (HK2.out.1.1.setCell (Nat.le_refl _) _) hb5)
            clear hb5
            rw [HC2.out]
            go_wp2_with fail
            go_ret
            exact ⟨rfl, HB5.out⟩
  · have hbk2 : decide (1 ≤ blocks) = false := by simpa using hbk
    have HC2 : Hid (c = false) := Lib.hid (by rw [HC.out]; simp [hbk2])
    clear HC
    by_cases hz1 : z < 11
    · by_cases hp1 : p < 4
      · go_wp2_with (go_at_call 8; (with_reducible refine (bound_is _ _ _).mono ?_); rintro r w' ⟨rfl, rfl⟩)
        refine (right_at _ HR.out).mono ?_
        rintro r w5 ⟨rfl, hb5⟩
        have HB5 := Lib.hid (below_all (HK2.out.1.1.setCell (Nat.le_refl _) _) hb5)
        clear hb5
        rw [HC2.out]
        go_wp2_with fail
        go_ret
        exact ⟨rfl, HB5.out⟩
      · by_cases hp2 : p < 16
        · have hpp := HP.out (by omega) hp2
          go_wp2_with (go_at_call 8; (with_reducible refine (bound_is _ _ _).mono ?_); rintro r w' ⟨rfl, rfl⟩)
          refine (right_at _ HR.out).mono ?_
          rintro r w5 ⟨rfl, hb5⟩
          have HB5 := Lib.hid (below_all (HK2.out.1.1.setCell (Nat.le_refl _) _) hb5)
          clear hb5
          rw [HC2.out]
          go_wp2_with fail
          go_ret
          exact ⟨rfl, HB5.out⟩
        · go_wp2_with (go_at_call 8; (with_reducible refine (bound_is _ _ _).mono ?_); rintro r w' ⟨rfl, rfl⟩)
          refine (right_at _ HR.out).mono ?_
          rintro r w5 ⟨rfl, hb5⟩
          have HB5 := Lib.hid (below_all (HK2.out.1.1.setCell (Nat.le_refl _) _) hb5)
          clear hb5
          rw [HC2.out]
          go_wp2_with fail
          go_ret
          exact ⟨rfl, HB5.out⟩
    · by_cases hz2 : z < 24
      · have hzz := HZ.out (by omega) hz2
        by_cases hp1 : p < 4
        · go_wp2_with (go_at_call 8; (with_reducible refine (bound_is _ _ _).mono ?_); rintro r w' ⟨rfl, rfl⟩)
          refine (right_at _ HR.out).mono ?_
          rintro r w5 ⟨rfl, hb5⟩
          have HB5 := Lib.hid (below_all (HK2.out.1.1.setCell (Nat.le_refl _) _) hb5)
          clear hb5
          rw [HC2.out]
          go_wp2_with fail
          go_ret
          exact ⟨rfl, HB5.out⟩
        · by_cases hp2 : p < 16
          · have hpp := HP.out (by omega) hp2
            go_wp2_with (go_at_call 8; (with_reducible refine (bound_is _ _ _).mono ?_); rintro r w' ⟨rfl, rfl⟩)
            refine (right_at _ HR.out).mono ?_
            rintro r w5 ⟨rfl, hb5⟩
            have HB5 := Lib.hid (below_all (HK2.out.1.1.setCell (Nat.le_refl _) _) hb5)
            clear hb5
            rw [HC2.out]
            go_wp2_with fail
            go_ret
            exact ⟨rfl, HB5.out⟩
          · go_wp2_with (go_at_call 8; (with_reducible refine (bound_is _ _ _).mono ?_); rintro r w' ⟨rfl, rfl⟩)
            refine (right_at _ HR.out).mono ?_
            rintro r w5 ⟨rfl, hb5⟩
            have HB5 := Lib.hid (below_all (HK2.out.1.1.setCell (Nat.le_refl _) _) hb5)
            clear hb5
            rw [HC2.out]
            go_wp2_with fail
            go_ret
            exact ⟨rfl, HB5.out⟩
      · by_cases hp1 : p < 4
        · go_wp2_with (go_at_call 8; (with_reducible refine (bound_is _ _ _).mono ?_); rintro r w' ⟨rfl, rfl⟩)
          refine (right_at _ HR.out).mono ?_
          rintro r w5 ⟨rfl, hb5⟩
          have HB5 := Lib.hid (below_all (HK2.out.1.1.setCell (Nat.le_refl _) _) hb5)
          clear hb5
          rw [HC2.out]
          go_wp2_with fail
          go_ret
          exact ⟨rfl, HB5.out⟩
        · by_cases hp2 : p < 16
          · have hpp := HP.out (by omega) hp2
            go_wp2_with (go_at_call 8; (with_reducible refine (bound_is _ _ _).mono ?_); rintro r w' ⟨rfl, rfl⟩)
            refine (right_at _ HR.out).mono ?_
            rintro r w5 ⟨rfl, hb5⟩
            have HB5 := Lib.hid (below_all (HK2.out.1.1.setCell (Nat.le_refl _) _) hb5)
            clear hb5
            rw [HC2.out]
            go_wp2_with fail
            go_ret
            exact ⟨rfl, HB5.out⟩
          · go_wp2_with (go_at_call 8; (with_reducible refine (bound_is _ _ _).mono ?_); rintro r w' ⟨rfl, rfl⟩)
            refine (right_at _ HR.out).mono ?_
            rintro r w5 ⟨rfl, hb5⟩
            have HB5 := Lib.hid (below_all (HK2.out.1.1.setCell (Nat.le_refl _) _) hb5)
            clear hb5
            rw [HC2.out]
            go_wp2_with fail
            go_ret
            exact ⟨rfl, HB5.out⟩
set_option maxHeartbeats 4000000 in
set_option maxRecDepth 100000 in
theorem room_some (z p b blocks : Int) (n : Int) (hn : bnd z p = n) (h0 : 0 < n) (w : World) (c : Bool) (hr : rightB z p blocks = c) (hc : c = (decide (1 ≤ blocks) && decide (blocks ≤ n))) (hz : 11 ≤ z → z < 24 → n ≤ bnd (z + 1) p) (hp : 4 ≤ p → p < 16 → n ≤ bnd z (p + 1)) : Calls Try.prog 6 #[.agg #[.int .i64 z, .int .i64 p, .int .i64 b], .int .i64 blocks] w (TrueB w) := by
  have HN := Lib.hid hn
  have HR := Lib.hid hr
  have HC := Lib.hid hc
  have HZ := Lib.hid hz
  have HP := Lib.hid hp
  clear hn hr hc hz hp
  have hb := bnd_bd z p
  have hm := bnd_room (z := z) (p := p) (by rw [HN.out]; exact h0)
  rw [HN.out] at hb hm
  obtain ⟨hi, t1, t2⟩ := hm
  have tb := tab_le (n := n) (by omega) hb.2
  obtain ⟨tb1, tb2⟩ := tb
  obtain ⟨zb1, zb2⟩ := zp_bd hi
  obtain ⟨g1, g2, g3, g4⟩ := insB_iff.1 hi
  obtain ⟨b1, b2⟩ := hb
  clear hi
  have HK : Hid (KeptF w w.heap.size z p b _) := Lib.hid (KeptF.made w z p b 23)
  go_enter Try.func6, Try.ntmps6
  go_wp2_with fail
  refine (awake_true _).mono ?_
  rintro r w1 ⟨rfl, hb1⟩
  replace HK := Lib.hid (HK.out.up hb1)
  obtain ⟨⟨_, _, c0, c1, c2⟩, f2⟩ := HK.out
  clear hb1
  go_wp2_with fail
  refine (bound_at _ HN.out).mono ?_
  rintro r w' ⟨rfl, rfl⟩
  clear c0 c1 c2 f2
  replace HK := Lib.hid (HK.out.up (Below.refl _ _).drew)
  go_wp2_with fail
  have s1 : IntKind.i64.wrap (n + tab n) = n + tab n := IntWalk.i64_in _ (by omega)
  have s2 : IntKind.i64.wrap (2 * (n + tab n)) = 2 * (n + tab n) := IntWalk.i64_in _ (by omega)
  have s3 : IntKind.i64.wrap (z - 7) = z - 7 := IntWalk.i64_in _ (by omega)
  have s4 : IntKind.i64.wrap ((z - 7) * p) = (z - 7) * p := IntWalk.i64_in _ (by omega)
  have s5 : decide ((z - 7) * p < 2 * (n + tab n)) = false := by simpa using t2
  have s6 : decide (p < tab n) = false := by simpa using t1
  have s7 : decide (n < 0) = false := by simp; omega
  have s8 : decide (64 < n) = false := by simp; omega
  have s9 : decide (0 < n) = true := by simpa using h0
  refine wp_region_in (KeptF w w.heap.size z p b) HK.out (by kernel_rfl) (by kernel_rfl) (fun ne => ?_)
  have c0 := fun n : In (KeptF w w.heap.size z p b) => n.ok.1.2.2.1
  have c1 := fun n : In (KeptF w w.heap.size z p b) => n.ok.1.2.2.2.1
  have c2 := fun n : In (KeptF w w.heap.size z p b) => n.ok.1.2.2.2.2
  repeat (go_big_quiet_step (first | (go_at_call 14; exact In.same (tables_is _ _ (by omega)))))
  refine wpQuiet_nil ?_
  intro nq
  have HK2 := Lib.hid nq.ok
  clear c0 c1 c2 HK
  obtain ⟨⟨_, _, c0, c1, c2⟩, f2⟩ := HK2.out
  clear s1 s2 s3 s4 s5 s6 s7 s8 s9
  by_cases hbk : 1 ≤ blocks
  · have HC2 : Hid (c = decide (blocks ≤ n)) := Lib.hid (by rw [HC.out]; simp [hbk])
    clear HC
    by_cases hz2 : z < 24
    · have hzz := HZ.out (by omega) hz2
      by_cases hp2 : p < 16
      · have hpp := HP.out (by omega) hp2
        go_wp2_with (go_at_call 8; (with_reducible refine (bound_is _ _ _).mono ?_); rintro r w' ⟨rfl, rfl⟩)
        refine (right_at _ HR.out).mono ?_
        rintro r w5 ⟨rfl, hb5⟩
        have HB5 := Lib.hid (below_all (HK2.out.1.1.setCell (Nat.le_refl _) _) hb5)
        clear hb5
        rw [HC2.out]
        go_wp2_with fail
        go_ret
        exact ⟨rfl, HB5.out⟩
      · go_wp2_with (go_at_call 8; (with_reducible refine (bound_is _ _ _).mono ?_); rintro r w' ⟨rfl, rfl⟩)
        refine (right_at _ HR.out).mono ?_
        rintro r w5 ⟨rfl, hb5⟩
        have HB5 := Lib.hid (below_all (HK2.out.1.1.setCell (Nat.le_refl _) _) hb5)
        clear hb5
        rw [HC2.out]
        go_wp2_with fail
        go_ret
        exact ⟨rfl, HB5.out⟩
    · by_cases hp2 : p < 16
      · have hpp := HP.out (by omega) hp2
        go_wp2_with (go_at_call 8; (with_reducible refine (bound_is _ _ _).mono ?_); rintro r w' ⟨rfl, rfl⟩)
        refine (right_at _ HR.out).mono ?_
        rintro r w5 ⟨rfl, hb5⟩
        have HB5 := Lib.hid (below_all (HK2.out.1.1.setCell (Nat.le_refl _) _) hb5)
        clear hb5
        rw [HC2.out]
        go_wp2_with fail
        go_ret
        exact ⟨rfl, HB5.out⟩
      · go_wp2_with (go_at_call 8; (with_reducible refine (bound_is _ _ _).mono ?_); rintro r w' ⟨rfl, rfl⟩)
        refine (right_at _ HR.out).mono ?_
        rintro r w5 ⟨rfl, hb5⟩
        have HB5 := Lib.hid (below_all (HK2.out.1.1.setCell (Nat.le_refl _) _) hb5)
        clear hb5
        rw [HC2.out]
        go_wp2_with fail
        go_ret
        exact ⟨rfl, HB5.out⟩
  · have hbk2 : decide (1 ≤ blocks) = false := by simpa using hbk
    have HC2 : Hid (c = false) := Lib.hid (by rw [HC.out]; simp [hbk2])
    clear HC
    by_cases hz2 : z < 24
    · have hzz := HZ.out (by omega) hz2
      by_cases hp2 : p < 16
      · have hpp := HP.out (by omega) hp2
        go_wp2_with (go_at_call 8; (with_reducible refine (bound_is _ _ _).mono ?_); rintro r w' ⟨rfl, rfl⟩)
        refine (right_at _ HR.out).mono ?_
        rintro r w5 ⟨rfl, hb5⟩
        have HB5 := Lib.hid (below_all (HK2.out.1.1.setCell (Nat.le_refl _) _) hb5)
        clear hb5
        rw [HC2.out]
        go_wp2_with fail
        go_ret
        exact ⟨rfl, HB5.out⟩
      · go_wp2_with (go_at_call 8; (with_reducible refine (bound_is _ _ _).mono ?_); rintro r w' ⟨rfl, rfl⟩)
        refine (right_at _ HR.out).mono ?_
        rintro r w5 ⟨rfl, hb5⟩
        have HB5 := Lib.hid (below_all (HK2.out.1.1.setCell (Nat.le_refl _) _) hb5)
        clear hb5
        rw [HC2.out]
        go_wp2_with fail
        go_ret
        exact ⟨rfl, HB5.out⟩
    · by_cases hp2 : p < 16
      · have hpp := HP.out (by omega) hp2
        go_wp2_with (go_at_call 8; (with_reducible refine (bound_is _ _ _).mono ?_); rintro r w' ⟨rfl, rfl⟩)
        refine (right_at _ HR.out).mono ?_
        rintro r w5 ⟨rfl, hb5⟩
        have HB5 := Lib.hid (below_all (HK2.out.1.1.setCell (Nat.le_refl _) _) hb5)
        clear hb5
        rw [HC2.out]
        go_wp2_with fail
        go_ret
        exact ⟨rfl, HB5.out⟩
      · go_wp2_with (go_at_call 8; (with_reducible refine (bound_is _ _ _).mono ?_); rintro r w' ⟨rfl, rfl⟩)
        refine (right_at _ HR.out).mono ?_
        rintro r w5 ⟨rfl, hb5⟩
        have HB5 := Lib.hid (below_all (HK2.out.1.1.setCell (Nat.le_refl _) _) hb5)
        clear hb5
        rw [HC2.out]
        go_wp2_with fail
        go_ret
        exact ⟨rfl, HB5.out⟩
theorem room_true (z p b blocks : Int) (w : World) : Calls Try.prog 6 #[.agg #[.int .i64 z, .int .i64 p, .int .i64 b], .int .i64 blocks] w (TrueB w) := by
  have hr : ∀ n, bnd z p = n → rightB z p blocks = (decide (1 ≤ blocks) && decide (blocks ≤ n)) := fun n hn => by
    unfold rightB
    rw [hn, Bool.eq_iff_iff]
    simp
  have hb := bnd_bd z p
  by_cases h0 : bnd z p = 0
  · exact room_none z p b blocks h0 w _ rfl (hr 0 h0) (fun _ _ => (bnd_bd _ _).1) (fun _ _ => (bnd_bd _ _).1)
  · exact room_some z p b blocks (bnd z p) rfl (by omega) w _ rfl (hr _ rfl) (fun h1 h2 => bnd_more_zones h1 h2) (fun h1 h2 => bnd_more_pages h1 h2)
end Go.Proofs.Ytmfnbnhcfbdicaa
