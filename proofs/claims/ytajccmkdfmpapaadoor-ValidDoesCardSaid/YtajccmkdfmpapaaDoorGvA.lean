/-
  What geo's functions of numbers answer, Log. (GeoA, GeoB upon CelB.)
-/
import Derived.Test.YtajccmkdfmpapaaDoorCelB
import Derived.Test.YtajccmkdfmpapaaDoorGeoMath
import Derived.Deep.QuietTactic
import Derived.BigQuiet
import Derived.IntWalk
namespace Go.Proofs.YtajccmkdfmpapaaDoor
open Go.RowKit

theorem table_is (n : Int) (w : World) (h : 0 ≤ n) (h2 : n ≤ 9223372036854775807) : Calls Tryd.prog 50 #[.int .i64 n] w fun r w' => r = .returned (.tuple #[.int .i64 (n / 4), .int .i64 (n % 4)]) ∧ w = w' := by
  go_enter Tryd.func50, Tryd.ntmps50
  go_wp2
  go_ret2
  exact ⟨rfl, rfl⟩
theorem tables_is (n : Int) (w : World) (h2 : n ≤ 9223372036854775807) : Calls Tryd.prog 49 #[.int .i64 n] w (IntIs (tab n) w) := by
  by_cases h : n ≤ 0
  · have HT := Lib.hid (tab_zero h)
    go_enter Tryd.func49, Tryd.ntmps49
    go_wp2
    go_ret
    exact ⟨ret_int HT.out.symm, rfl⟩
  · have h1 : 1 ≤ n := by omega
    have HT := Lib.hid (tab_pos h1)
    go_enter Tryd.func49, Tryd.ntmps49
    go_wp2_with fail
    refine (table_is _ _ (by omega) (by omega)).mono ?_
    rintro r w' ⟨rfl, rfl⟩
    go_wp2_with fail
    go_ret
    exact ⟨ret_int HT.out.symm, rfl⟩
theorem nearZ_is (n : Int) (w : World) : Calls Tryd.prog 41 #[.int .i64 n] w (IntIs (nearZ n) w) := by
  go_enter Tryd.func41, Tryd.ntmps41
  go_wp2
  all_goals (go_ret; exact ⟨ret_int (by unfold nearZ; omega), rfl⟩)
theorem nearP_is (n : Int) (w : World) : Calls Tryd.prog 42 #[.int .i64 n] w (IntIs (nearP n) w) := by
  go_enter Tryd.func42, Tryd.ntmps42
  go_wp2
  all_goals (go_ret; exact ⟨ret_int (by unfold nearP; omega), rfl⟩)
theorem room_is (z p n : Int) (w : World) (hi : insB z p = true) (h1 : 1 ≤ n) (h2 : n ≤ 64) : Calls Tryd.prog 48 #[.int .i64 z, .int .i64 p, .int .i64 n] w (BoolIs (roomB z p n) w) := by
  have hb := zp_bd hi
  have ht := tab_le h1 h2
  obtain ⟨g1, g2, g3, g4⟩ := insB_iff.1 hi
  clear hi
  obtain ⟨hb1, hb2⟩ := hb
  obtain ⟨ht1, ht2⟩ := ht
  have HR : Hid (roomB z p n = (decide (tab n ≤ p) && decide (n + tab n ≤ (z - 7) * p / 2))) := by
    refine Lib.hid ?_
    rw [Bool.eq_iff_iff]
    unfold roomB
    simp
    omega
  by_cases hc : tab n ≤ p
  · have hd : decide (tab n ≤ p) = true := by simpa using hc
    go_enter Tryd.func48, Tryd.ntmps48
    go_wp2_with fail
    refine (tables_is _ _ (by omega)).mono ?_
    rintro r w' ⟨rfl, rfl⟩
    go_wp2_with fail
    go_ret
    exact ⟨ret_bool (by rw [HR.out, hd]; simp), rfl⟩
  · have hd : decide (tab n ≤ p) = false := by simpa using hc
    go_enter Tryd.func48, Tryd.ntmps48
    go_wp2_with fail
    refine (tables_is _ _ (by omega)).mono ?_
    rintro r w' ⟨rfl, rfl⟩
    go_wp2_with fail
    go_ret
    exact ⟨ret_bool (by rw [HR.out, hd]; simp), rfl⟩
theorem bndN_step {z p : Int} {k : Nat} (hk : k < 64) (h : roomB z p (64 - (k : Int)) = false) (e : bndN z p 64 = bndN z p (64 - k)) : bndN z p 64 = bndN z p (64 - (k + 1)) := by
  obtain ⟨m, hm⟩ : ∃ m : Nat, 64 - k = m + 1 := ⟨63 - k, by omega⟩
  have e1 : (64 : Int) - (k : Int) = (m : Int) + 1 := by omega
  rw [e, hm, show 64 - (k + 1) = m by omega]
  rw [e1] at h
  conv => lhs; unfold bndN
  rw [if_neg (by simp [h])]
theorem bndN_here {z p : Int} {k : Nat} (hk : k < 64) (h : roomB z p (64 - (k : Int)) = true) (e : bndN z p 64 = bndN z p (64 - k)) : bndN z p 64 = 64 - (k : Int) := by
  obtain ⟨m, hm⟩ : ∃ m : Nat, 64 - k = m + 1 := ⟨63 - k, by omega⟩
  have e1 : (64 : Int) - (k : Int) = (m : Int) + 1 := by omega
  rw [e, hm, e1]
  rw [e1] at h
  conv => lhs; unfold bndN
  rw [if_pos h]
theorem bound_out (z p : Int) (w : World) (hi : insB z p = false) : Calls Tryd.prog 43 #[.int .i64 z, .int .i64 p] w (IntIs (bnd z p) w) := by
  rw [bnd_out hi]
  by_cases hz : 11 ≤ z ∧ z ≤ 24
  · have hp : ¬ (4 ≤ p ∧ p ≤ 16) := fun h => by
      have := insB_iff.2 (show 11 ≤ z ∧ z ≤ 24 ∧ 4 ≤ p ∧ p ≤ 16 by omega)
      rw [this] at hi
      cases hi
    have e1 : (z != nearZ z) = false := by simp [nearZ_in hz]
    have e2 : (p != nearP p) = true := by simpa using (nearP_out hp).symm
    clear hz hp hi
    go_enter Tryd.func43, Tryd.ntmps43
    go_wp2_with fail
    refine (nearZ_is _ _).mono ?_
    rintro r w' ⟨rfl, rfl⟩
    go_wp2_with fail
    refine (nearP_is _ _).mono ?_
    rintro r w' ⟨rfl, rfl⟩
    go_wp2_with fail
    go_ret
    exact ⟨rfl, rfl⟩
  · have e1 : (z != nearZ z) = true := by simpa using (nearZ_out hz).symm
    clear hz hi
    go_enter Tryd.func43, Tryd.ntmps43
    go_wp2_with fail
    refine (nearZ_is _ _).mono ?_
    rintro r w' ⟨rfl, rfl⟩
    go_wp2_with fail
    go_ret
    exact ⟨rfl, rfl⟩
theorem bound_in (z p : Int) (w : World) (hi : insB z p = true) : Calls Tryd.prog 43 #[.int .i64 z, .int .i64 p] w (IntIs (bndN z p 64) w) := by
  have HI := Lib.hid hi
  have hh := insB_iff.1 hi
  have e1 : (z != nearZ z) = false := by simp [nearZ_in (z := z) (by omega)]
  have e2 : (p != nearP p) = false := by simp [nearP_in (p := p) (by omega)]
  clear hh hi
  go_enter Tryd.func43, Tryd.ntmps43
  go_wp2_with fail
  refine (nearZ_is _ _).mono ?_
  rintro r w' ⟨rfl, rfl⟩
  go_wp2_with fail
  refine (nearP_is _ _).mono ?_
  rintro r w' ⟨rfl, rfl⟩
  go_wp2_with fail
  clear e1 e2
  go_loop [17] (fun i => ∃ k : Nat, k ≤ 64 ∧ i = .int .i64 k ∧ bndN z p 64 = bndN z p (64 - k)) (fun i => 64 - (intOf i).toNat)
  case atStart => exact ⟨0, by omega, rfl, rfl⟩
  case round =>
    obtain ⟨k, hk, rfl, he⟩ := hrel
    have HE := Lib.hid he
    clear he
    by_cases hlt : k < 64
    · by_cases hr : roomB z p (64 - (k : Int)) = true
      · have HN := Lib.hid (bndN_here hlt hr HE.out)
        go_wp2_with fail
        refine (room_is _ _ _ _ HI.out (by omega) (by omega)).mono ?_
        rintro r w' ⟨rfl, rfl⟩
        go_wp2_with fail
        go_ret
        exact ⟨ret_int HN.out.symm, rfl⟩
      · have hr' : roomB z p (64 - (k : Int)) = false := by simpa using hr
        have HN := Lib.hid (bndN_step hlt hr' HE.out)
        clear hr
        go_wp2_with fail
        refine (room_is _ _ _ _ HI.out (by omega) (by omega)).mono ?_
        rintro r w' ⟨rfl, rfl⟩
        go_wp2_with fail
        go_round
        case rel => exact ⟨k + 1, by omega, by go_num, HN.out⟩
        case measure => simp [intOf]; omega
    · go_wp2_with fail
      go_ret
      exact ⟨ret_int (by rw [HE.out, show 64 - k = 0 by omega]; rfl), rfl⟩
theorem bound_is (z p : Int) (w : World) : Calls Tryd.prog 43 #[.int .i64 z, .int .i64 p] w (IntIs (bnd z p) w) := by
  by_cases hi : insB z p = true
  · rw [bnd_in hi]
    exact bound_in z p w hi
  · exact bound_out z p w (by simpa using hi)
theorem below_drewN {B : Nat} {a w : World} (h : Below B a w) (n : Nat) : Below B a (w.drewN n) := ⟨h.os, h.tape, h.output, h.size, h.block⟩
theorem log_is (z p b : Int) (w : World) (h1 : -9223372036854775806 ≤ z) (h2 : z ≤ 9223372036854775807) : Calls Tryd.prog 23 #[.agg #[.int .i64 z, .int .i64 p, .int .i64 b]] w (IntB (z - 2) w) := by
  go_enter Tryd.func23, Tryd.ntmps23
  go_wp2_with fail
  go_ret
  exact ⟨rfl, (Below.refl _ _).alloc (Nat.le_refl _) _⟩
end Go.Proofs.YtajccmkdfmpapaaDoor
