/-
  The document's Tables, Bound and Right; geo.Log, near and Right.
-/
import Derived.Test.YtmfnbnhcfbdicaaGeoA
import Derived.Deep.RegionHeld3
import Derived.Deep.QuietTactic
import Derived.BigQuiet
namespace Go.Proofs.Ytmfnbnhcfbdicaa
open Go.RowKit

def IntB (n : Int) (w : World) (r : Ending) (w' : World) : Prop := r = .returned (.int .i64 n) ∧ Below w.heap.size w w'
def BoolB (b : Bool) (w : World) (r : Ending) (w' : World) : Prop := r = .returned (.bool b) ∧ Below w.heap.size w w'
theorem below_all {a b c : World} (h : Below a.heap.size a b) (k : Below b.heap.size b c) : Below a.heap.size a c := h.trans (k.mono h.size)
theorem below_drewN {B : Nat} {a w : World} (h : Below B a w) (n : Nat) : Below B a (w.drewN n) := ⟨h.os, h.tape, h.output, h.size, h.block⟩

theorem rtables_is (n : Int) (w : World) (h : 0 ≤ n) (h2 : n ≤ 9223372036854775807) : Calls Try.prog 15 #[.int .i64 n] w (IntIs (tab n) w) := by
  have HT := Lib.hid (tab_ref h)
  go_enter Try.func15, Try.ntmps15
  go_wp2
  all_goals (go_ret; exact ⟨ret_int (by rw [HT.out]; split <;> omega), rfl⟩)

theorem rbound_out (z p : Int) (w : World) (hi : insB z p = false) : Calls Try.prog 9 #[.int .i64 z, .int .i64 p] w (IntIs (bnd z p) w) := by
  rw [bnd_out hi]
  have ho : ¬ (11 ≤ z ∧ z ≤ 24 ∧ 4 ≤ p ∧ p ≤ 16) := fun h => by
    have := insB_iff.2 h
    rw [this] at hi
    cases hi
  clear hi
  by_cases h1 : z < 11
  · clear ho
    go_enter Try.func9, Try.ntmps9
    go_wp2_with fail
    go_ret
    exact ⟨rfl, rfl⟩
  · by_cases h2 : 24 < z
    · clear ho
      go_enter Try.func9, Try.ntmps9
      go_wp2_with fail
      go_ret
      exact ⟨rfl, rfl⟩
    · by_cases h3 : p < 4
      · clear ho
        go_enter Try.func9, Try.ntmps9
        go_wp2_with fail
        go_ret
        exact ⟨rfl, rfl⟩
      · have h4 : 16 < p := by omega
        clear ho
        go_enter Try.func9, Try.ntmps9
        go_wp2_with fail
        go_ret
        exact ⟨rfl, rfl⟩

theorem bndN_up {z p : Int} {k : Nat} (h : roomB z p ((k : Int) + 1) = true) : bndN z p (k + 1) = (k : Int) + 1 := by
  unfold bndN
  rw [if_pos h]
theorem bndN_stay {z p : Int} {k : Nat} (h : roomB z p ((k : Int) + 1) = false) : bndN z p (k + 1) = bndN z p k := by
  conv => lhs; unfold bndN
  rw [if_neg (by simp [h])]
theorem roomB_parts (z p n : Int) : roomB z p n = (decide (tab n ≤ p) && decide (2 * (n + tab n) ≤ (z - 7) * p)) := by
  unfold roomB
  rw [Bool.eq_iff_iff]
  simp

set_option maxHeartbeats 1000000 in
theorem rbound_in (z p : Int) (w : World) (hi : insB z p = true) : Calls Try.prog 9 #[.int .i64 z, .int .i64 p] w (IntIs (bndN z p 64) w) := by
  obtain ⟨g1, g2, g3, g4⟩ := insB_iff.1 hi
  obtain ⟨hb1, hb2⟩ := zp_bd hi
  clear hi
  go_enter Try.func9, Try.ntmps9
  go_wp2_with fail
  go_loop [5, 6] (fun m i => ∃ k : Nat, k ≤ 64 ∧ i = .int .i64 ((k : Int) + 1) ∧ m = .int .i64 (bndN z p k)) (fun _ i => 66 - (intOf i).toNat)
  case atStart => exact ⟨0, by omega, rfl, rfl⟩
  case round =>
    obtain ⟨k, hk, rfl, rfl⟩ := hrel
    by_cases hlt : k < 64
    · have ht := tab_le (n := (k : Int) + 1) (by omega) (by omega)
      obtain ⟨ht1, ht2⟩ := ht
      by_cases hc : tab ((k : Int) + 1) ≤ p
      · by_cases hd : 2 * (((k : Int) + 1) + tab ((k : Int) + 1)) ≤ (z - 7) * p
        · have HN : Hid (bndN z p (k + 1) = (k : Int) + 1) := Lib.hid (bndN_up (by rw [roomB_parts]; simp; exact ⟨hc, hd⟩))
          go_wp2_with (go_at_call 15; (with_reducible refine (rtables_is _ _ ?_ ?_).mono ?_); omega; omega; rintro r w' ⟨rfl, rfl⟩)
          go_round
          case rel => exact ⟨k + 1, by omega, by go_num, by rw [HN.out]⟩
          case measure => simp [intOf]; omega
        · have hd' : decide (2 * (((k : Int) + 1) + tab ((k : Int) + 1)) ≤ (z - 7) * p) = false := by simpa using hd
          have HN : Hid (bndN z p (k + 1) = bndN z p k) := Lib.hid (bndN_stay (by rw [roomB_parts, hd']; simp))
          go_wp2_with (go_at_call 15; (with_reducible refine (rtables_is _ _ ?_ ?_).mono ?_); omega; omega; rintro r w' ⟨rfl, rfl⟩)
          go_round
          case rel => exact ⟨k + 1, by omega, by go_num, by rw [HN.out]⟩
          case measure => simp [intOf]; omega
      · have hd' : decide (tab ((k : Int) + 1) ≤ p) = false := by simpa using hc
        have HN : Hid (bndN z p (k + 1) = bndN z p k) := Lib.hid (bndN_stay (by rw [roomB_parts, hd']; simp))
        go_wp2_with (go_at_call 15; (with_reducible refine (rtables_is _ _ ?_ ?_).mono ?_); omega; omega; rintro r w' ⟨rfl, rfl⟩)
        go_round
        case rel => exact ⟨k + 1, by omega, by go_num, by rw [HN.out]⟩
        case measure => simp [intOf]; omega
    · obtain rfl : k = 64 := by omega
      go_wp2_with fail
      go_ret
      exact ⟨rfl, rfl⟩
theorem rbound_is (z p : Int) (w : World) : Calls Try.prog 9 #[.int .i64 z, .int .i64 p] w (IntIs (bnd z p) w) := by
  by_cases hi : insB z p = true
  · rw [bnd_in hi]
    exact rbound_in z p w hi
  · exact rbound_out z p w (by simpa using hi)

theorem log_is (z p b : Int) (w : World) (h1 : -9223372036854775806 ≤ z) (h2 : z ≤ 9223372036854775807) : Calls Try.prog 12 #[.agg #[.int .i64 z, .int .i64 p, .int .i64 b]] w (IntB (z - 2) w) := by
  go_enter Try.func12, Try.ntmps12
  go_wp2_with fail
  go_ret
  exact ⟨rfl, (Below.refl _ _).alloc (Nat.le_refl _) _⟩
end Go.Proofs.Ytmfnbnhcfbdicaa
