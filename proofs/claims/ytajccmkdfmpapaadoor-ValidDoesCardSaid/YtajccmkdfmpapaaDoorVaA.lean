/-
  geo.At whole; a zone's number: only, has, math/bits.OnesCount16.
-/
import Derived.Test.YtajccmkdfmpapaaDoorVaMath
import Derived.Test.YtajccmkdfmpapaaDoorGvE
import Derived.Test.YtajccmkdfmpapaaDoorCel
import Derived.Lib.Tables
import Derived.Laws.BitsAllLaws
namespace Go.Proofs.YtajccmkdfmpapaaDoor
open Go.RowKit

theorem at_is (z p b a : Int) (w : World) (hi : insB z p = true) (h0 : 0 ≤ a) : Calls Tryd.prog 28 #[.agg #[.int .i64 z, .int .i64 p, .int .i64 b], .int .u32 a] w (AtIs (atI z p a) w) := by
  by_cases ha : a = 0
  · exact at_zero z p b a w hi ha
  · have hd : (a == 0) = false := by simpa using ha
    by_cases hl : lastI z p < a
    · exact at_over z p b a w hi hd hl
    · exact at_in z p b a w hi hd (by omega) (by omega)

/-- One bit. -/
theorem only_is (j : Nat) (hj : j < 16) (w : World) : Calls Tryd.prog 40 #[.int .i64 (j : Int)] w (fun r w' => r = .returned (.int .u16 ((2 ^ j : Nat) : Int)) ∧ w = w') := by
  have hlt : 2 ^ j < 65536 := Nat.pow_lt_pow_right (n := 16) (a := 2) (by omega) hj
  obtain ⟨B, hB⟩ : ∃ B, 2 ^ j = B := ⟨_, rfl⟩
  have hp : IntKind.u16.wrap ((2 : Int) ^ j) = (B : Int) := by
    rw [show ((2 : Int) ^ j) = ((2 ^ j : Nat) : Int) by push_cast; rfl, hB, IntKind.wrap_u16]
    omega
  have hp1 : IntKind.u16.wrap (1 * (2 : Int) ^ j) = (B : Int) := by rw [Int.one_mul]; exact hp
  have hm : min j 16 = j := by omega
  rw [hB]
  clear hlt hB
  go_enter Tryd.func40, Tryd.ntmps40
  go_wp2_with fail
  go_ret
  exact ⟨rfl, rfl⟩
theorem has_is (N j : Nat) (hN : N < 65536) (hj : j < 16) (w : World) : Calls Tryd.prog 29 #[.int .u16 (N : Int), .int .i64 (j : Int)] w (BoolIs (N.testBit j) w) := by
  have hlt : 2 ^ j < 65536 := Nat.pow_lt_pow_right (n := 16) (a := 2) (by omega) hj
  have HA := Lib.hid (u16_and_nat N (2 ^ j) hN hlt)
  have HO := Lib.hid (only_is j hj w)
  have hne : (((N &&& 2 ^ j : Nat) : Int) != 0) = N.testBit j := by
    have h := VaS.and_bit N j
    cases ht : N.testBit j
    · rw [ht] at h
      have : N &&& 2 ^ j = 0 := by simpa using h
      rw [this]
      rfl
    · rw [ht] at h
      have : N &&& 2 ^ j ≠ 0 := by simpa using h
      simp only [bne_iff_ne, ne_eq]
      omega
  generalize 2 ^ j = B at *
  have ha := HA.out
  obtain ⟨X, hX⟩ : ∃ X, N &&& B = X := ⟨_, rfl⟩
  rw [hX] at ha hne
  clear hX HA
  generalize N.testBit j = tb at *
  go_enter Tryd.func29, Tryd.ntmps29
  go_wp2_with fail
  refine HO.out.mono ?_
  rintro r w' ⟨rfl, rfl⟩
  go_wp2_with fail
  go_ret
  exact ⟨rfl, rfl⟩
theorem ones_split (x : Nat) (h : x < 65536) : Lib.onesCount x = Lib.onesCount (x / 256) + Lib.onesCount (x % 256) := by
  have e1 : ∀ y : Nat, ((List.range 64).filter (fun j => y.testBit j)).length = ((List.range 8).filter (fun j => y.testBit j)).length + ((List.range 56).filter (fun j => (y / 256).testBit j)).length := fun y => by
    rw [show (64 : Nat) = 8 + 56 by rfl, List.range_add, List.filter_append, List.length_append, List.filter_map, List.length_map]
    congr 2
    refine List.filter_congr fun j _ => ?_
    simp only [Function.comp]
    rw [Nat.add_comm, ← Nat.testBit_div_two_pow]
  have e2 : ∀ (y n : Nat), y = 0 → ((List.range n).filter (fun j => y.testBit j)).length = 0 := fun y n hy => by
    subst hy
    simp
  have e3 : ∀ y : Nat, y < 256 → ((List.range 64).filter (fun j => y.testBit j)).length = ((List.range 8).filter (fun j => y.testBit j)).length := fun y hy => by
    rw [e1, e2 (y / 256) 56 (by omega), Nat.add_zero]
  unfold Lib.onesCount
  rw [VaS.pop_range, VaS.pop_range, VaS.pop_range, e1 x, e3 (x % 256) (by omega), e3 (x / 256) (by omega), Nat.add_comm]
  have e4 : ((List.range 8).filter (fun j => x.testBit j)).length = ((List.range 8).filter (fun j => (x % 256).testBit j)).length := by
    congr 1
    refine List.filter_congr fun j hj => ?_
    rw [List.mem_range] at hj
    rw [show (256 : Nat) = 2 ^ 8 by rfl, Nat.testBit_mod_two_pow]
    simp [hj]
  have e5 : ((List.range 56).filter (fun j => (x / 256).testBit j)).length = ((List.range 8).filter (fun j => (x / 256).testBit j)).length := by
    rw [show (56 : Nat) = 8 + 48 by rfl, List.range_add, List.filter_append, List.length_append, List.filter_map, List.length_map]
    have : ((List.range 48).filter ((fun j => (x / 256).testBit j) ∘ (fun x => 8 + x))).length = 0 := by
      rw [List.length_eq_zero_iff, List.filter_eq_nil_iff]
      intro j _
      simp only [Function.comp]
      rw [Nat.add_comm, ← Nat.testBit_div_two_pow, show x / 256 / 2 ^ 8 = 0 by omega]
      simp
    rw [this, Nat.add_zero]
  rw [e4, e5]
theorem pop8_at {y : Nat} (h : y < 256) : Lib.pop8 (y : Int) = (Lib.onesCount y : Int) := Lib.pop8_eq ⟨y, h⟩
theorem pop_le {y : Nat} (h : y < 256) : Lib.onesCount y ≤ 8 := Lib.onesCount_le8 ⟨y, h⟩
set_option maxRecDepth 100000 in
theorem ones_is (x : Nat) (h : x < 65536) (w : World) : Calls Tryd.prog 31 #[.int .u16 (x : Int)] w (IntB (Lib.onesCount x : Int) w) := by
  have HX := Lib.hid (ones_split x h)
  have q1 : ((x : Int) / 256) = ((x / 256 : Nat) : Int) := by omega
  have q2 : bits .and .u16 (x : Int) 255 = ((x % 256 : Nat) : Int) := by
    rw [show (255 : Int) = ((255 : Nat) : Int) by rfl, u16_and_nat x 255 h (by omega), show (255 : Nat) = 2 ^ 8 - 1 by rfl, Nat.and_two_pow_sub_one_eq_mod]
  have hA := pop8_at (y := x / 256) (by omega)
  have hB := pop8_at (y := x % 256) (by omega)
  have lA := pop_le (y := x / 256) (by omega)
  have lB := pop_le (y := x % 256) (by omega)
  obtain ⟨A, hA2⟩ : ∃ A, Lib.onesCount (x / 256) = A := ⟨_, rfl⟩
  obtain ⟨B, hB2⟩ : ∃ B, Lib.onesCount (x % 256) = B := ⟨_, rfl⟩
  rw [hA2] at hA lA HX
  rw [hB2] at hB lB HX
  have b1 : x / 256 < 256 := by omega
  have b2 : x % 256 < 256 := by omega
  obtain ⟨hi, h1⟩ : ∃ y, x / 256 = y := ⟨_, rfl⟩
  obtain ⟨lo, h2⟩ : ∃ y, x % 256 = y := ⟨_, rfl⟩
  rw [h1] at q1 hA b1
  rw [h2] at q2 hB b2
  clear h1 h2 hA2 hB2
  have c1 : (0 : Int) ≤ (hi : Int) := by omega
  have c2 : (hi : Int) ≤ 255 := by omega
  have c3 : (0 : Int) ≤ (lo : Int) := by omega
  have c4 : (lo : Int) ≤ 255 := by omega
  have s1 : IntKind.u8.wrap ((A : Int) + (B : Int)) = (A : Int) + (B : Int) := by rw [IntKind.wrap_u8']; omega
  have s2 : IntKind.i64.wrap ((A : Int) + (B : Int)) = (A : Int) + (B : Int) := IntWalk.i64_in _ (by omega)
  go_enter Tryd.func31, Tryd.ntmps31
  go_wp2_with fail
  go_region
  go_wp2_with fail
  go_ret
  exact ⟨ret_int (by have := HX.out; omega), Below.drew (Below.refl _ _)⟩
end Go.Proofs.YtajccmkdfmpapaaDoor
