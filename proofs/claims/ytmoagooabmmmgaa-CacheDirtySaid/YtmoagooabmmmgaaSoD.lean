/-
  bits.Len by the library's contract; nextPowerOfTwo, xorshift.Next, breakPatternsOrdered; order2Ordered, medianOrdered, medianAdjacentOrdered, choosePivotOrdered.
-/
import Derived.Test.YtmoagooabmmmgaaSoA
import Derived.Shelf.Small.Bits
import Derived.Lib.ItoaNum
import Derived.Laws.Bits64
import Derived.Laws.Bits64b
namespace Go.Proofs.Ytmoagooabmmmgaa
open Go.RowKit Go.Shelf

def soRen : Go.Shelf.Ren := ⟨fun | 125 => 54 | 128 => 65 | 129 => 66 | n => n, fun | 46 => 103 | 3 => 3 | 51 => 29 | 53 => 114 | 4 => 4 | 5 => 5 | 9 => 9 | n => n, fun | n => n⟩
theorem soLays : Go.Proofs.Lays.n125 Try.prog soRen := {
  mixed := by kernel_rfl
  f125 := Try.func54.trans (congrArg some (by kernel_rfl))
  f128 := Try.func65.trans (congrArg some (by kernel_rfl))
  f129 := Try.func66.trans (congrArg some (by kernel_rfl))
  t3 := Try.underlying3
  a3 := Try.isAgg3
  z3 := Try.sizeOf3
  v3 := Try.zeroValue3
  t4 := Try.underlying4
  a4 := Try.isAgg4
  z4 := Try.sizeOf4
  v4 := Try.zeroValue4
  t5 := Try.underlying5
  a5 := Try.isAgg5
  z5 := Try.sizeOf5
  v5 := Try.zeroValue5
  t9 := Try.underlying9
  a9 := Try.isAgg9
  z9 := Try.sizeOf9
  v9 := Try.zeroValue9
  t46 := Try.underlying103
  a46 := Try.isAgg103
  z46 := Try.sizeOf103
  v46 := Try.zeroValue103
  t51 := Try.underlying29
  a51 := Try.isAgg29
  z51 := Try.sizeOf29
  v51 := Try.zeroValue29
  t53 := Try.underlying114
  a53 := Try.isAgg114
  z53 := Try.sizeOf114
  v53 := Try.zeroValue114 }
theorem soLen_at (x : Nat) (hx : x ≤ 1000000) (w : World) : Calls Try.prog 54 #[.int .u64 (x : Int)] w (IntIs (Lib.bitLen x : Int) w) := by
  have h : Calls Try.prog 54 #[.int .u64 (x : Int)] w (fun e w' => e = .returned (.int .i64 (Lib.bitLen (x : Int).toNat)) ∧ w' = w) := Any.bits_Len soLays (x : Int) w (by omega) (by omega)
  rw [Int.toNat_natCast] at h
  exact h.mono fun _ _ h => ⟨h.1, h.2.symm⟩
theorem len_bounds (x : Nat) (h0 : 0 < x) (hx : x ≤ 1000000) : x < 2 ^ Lib.bitLen x ∧ 2 ^ Lib.bitLen x ≤ 2 * x := by
  obtain ⟨h1, h2, h3⟩ := Lib.bitLenAux_bounds 64 x (by omega) (by omega)
  refine ⟨h3, ?_⟩
  show 2 ^ Lib.bitLenAux 64 x ≤ 2 * x
  obtain ⟨k, hk⟩ : ∃ k, Lib.bitLenAux 64 x = k + 1 := ⟨Lib.bitLenAux 64 x - 1, by omega⟩
  rw [hk] at h2 ⊢
  rw [Nat.add_sub_cancel] at h2
  rw [Nat.pow_succ]
  omega
theorem soPow_at (x : Nat) (h0 : 0 < x) (hx : x ≤ 1000000) (w : World) : Calls Try.prog 68 #[.int .i64 (x : Int)] w (fun r w' => ∃ P : Nat, r = .returned (.int .u64 (P : Int)) ∧ x < P ∧ P ≤ 2 * x ∧ w = w') := by
  have HB := Lib.hid (len_bounds x h0 hx)
  have HL := Lib.hid (soLen_at x hx w)
  obtain ⟨L, hL⟩ : ∃ L, Lib.bitLen x = L := ⟨_, rfl⟩
  rw [hL] at HB HL
  clear hL
  obtain ⟨P, hP⟩ : ∃ P, 2 ^ L = P := ⟨_, rfl⟩
  have hp : IntKind.u64.wrap ((2 : Int) ^ L) = (P : Int) := by
    rw [show ((2 : Int) ^ L) = ((2 ^ L : Nat) : Int) by push_cast; rfl, hP, IntKind.wrap_u64]
    have := HB.out.2
    omega
  have hp1 : IntKind.u64.wrap (1 * (2 : Int) ^ L) = (P : Int) := by rw [Int.one_mul]; exact hp
  have wr : IntKind.u64.wrap (x : Int) = (x : Int) := by rw [IntKind.wrap_u64]; omega
  have hm : min L 64 = L := by
    apply Nat.min_eq_left
    apply Classical.byContradiction
    intro hn
    have h1 : (2 : Nat) ^ 65 ≤ 2 ^ L := Nat.pow_le_pow_right (by omega) (by omega)
    have h2 := HB.out.2
    omega
  rw [hP] at HB
  clear hP
  go_enter Try.func68, Try.ntmps68
  go_wp2_with fail
  refine HL.out.mono ?_
  rintro r w' ⟨rfl, rfl⟩
  go_wp2_with fail
  go_ret
  exact ⟨P, rfl, HB.out.1, HB.out.2, rfl⟩
theorem soXor_at (rb X : Nat) (hX : X < 18446744073709551616) (w : World) (h : Blk w rb 115 [.int .u64 (X : Int)]) : Calls Try.prog 69 #[.pointer (some ⟨rb, 0, none⟩)] w (fun r w' => ∃ Y : Nat, r = .returned (.int .u64 (Y : Int)) ∧ Y < 18446744073709551616 ∧ Blk w' rb 115 [.int .u64 (Y : Int)] ∧ Kept (fun k => k = rb) w w') := by
  obtain ⟨A, hA⟩ : ∃ A : Nat, X ^^^ (X * 8192 % 18446744073709551616) = A := ⟨_, rfl⟩
  obtain ⟨B, hB⟩ : ∃ B : Nat, A ^^^ (A / 128) = B := ⟨_, rfl⟩
  obtain ⟨Y, hY⟩ : ∃ C : Nat, B ^^^ (B * 131072 % 18446744073709551616) = C := ⟨_, rfl⟩
  have lA : A < 18446744073709551616 := by rw [← hA]; exact Nat.xor_lt_two_pow (n := 64) (by omega) (by omega)
  have lB : B < 18446744073709551616 := by rw [← hB]; exact Nat.xor_lt_two_pow (n := 64) (by omega) (by omega)
  have lY : Y < 18446744073709551616 := by rw [← hY]; exact Nat.xor_lt_two_pow (n := 64) (by omega) (by omega)
  have e1 : bits .xor .u64 (X : Int) (IntKind.u64.wrap ((X : Int) * 8192)) = (A : Int) := by
    rw [IntKind.wrap_u64, show ((X : Int) * 8192 % 18446744073709551616) = ((X * 8192 % 18446744073709551616 : Nat) : Int) by omega, bits_xor_u64_nat _ _ hX (by omega), hA]
  have e2 : bits .xor .u64 (A : Int) ((A : Int) / 128) = (B : Int) := by
    rw [show ((A : Int) / 128) = ((A / 128 : Nat) : Int) by omega, bits_xor_u64_nat _ _ lA (by omega), hB]
  have e3 : bits .xor .u64 (B : Int) (IntKind.u64.wrap ((B : Int) * 131072)) = (Y : Int) := by
    rw [IntKind.wrap_u64, show ((B : Int) * 131072 % 18446744073709551616) = ((B * 131072 % 18446744073709551616 : Nat) : Int) by omega, bits_xor_u64_nat _ _ lB (by omega), hY]
  clear hA hB hY
  have c0 := h.cell 0 (by simp)
  have f0 := h.free 0
  have B1 : Blk (w.setCell ⟨rb, 0, none⟩ (.int .u64 (A : Int))).drew rb 115 [.int .u64 (A : Int)] := h.put 0 _
  have K1 : Kept (fun k => k = rb) w (w.setCell ⟨rb, 0, none⟩ (.int .u64 (A : Int))).drew := ((Kept.refl (fun k => k = rb) w).put (.inl rfl) 0 _).drew
  obtain ⟨w1, hw1⟩ : ∃ w1, (w.setCell ⟨rb, 0, none⟩ (.int .u64 (A : Int))).drew = w1 := ⟨_, rfl⟩
  rw [hw1] at B1 K1
  have c1 := B1.cell 0 (by simp)
  have f1 := B1.free 0
  have B2 : Blk (w1.setCell ⟨rb, 0, none⟩ (.int .u64 (B : Int))).drew rb 115 [.int .u64 (B : Int)] := B1.put 0 _
  have K2 : Kept (fun k => k = rb) w (w1.setCell ⟨rb, 0, none⟩ (.int .u64 (B : Int))).drew := (K1.put (.inl rfl) 0 _).drew
  obtain ⟨w2, hw2⟩ : ∃ w2, (w1.setCell ⟨rb, 0, none⟩ (.int .u64 (B : Int))).drew = w2 := ⟨_, rfl⟩
  rw [hw2] at B2 K2
  have c2 := B2.cell 0 (by simp)
  have f2 := B2.free 0
  have B3 : Blk (w2.setCell ⟨rb, 0, none⟩ (.int .u64 (Y : Int))).drew rb 115 [.int .u64 (Y : Int)] := B2.put 0 _
  have K3 : Kept (fun k => k = rb) w (w2.setCell ⟨rb, 0, none⟩ (.int .u64 (Y : Int))).drew := (K2.put (.inl rfl) 0 _).drew
  obtain ⟨w3, hw3⟩ : ∃ w3, (w2.setCell ⟨rb, 0, none⟩ (.int .u64 (Y : Int))).drew = w3 := ⟨_, rfl⟩
  rw [hw3] at B3 K3
  have c3 := B3.cell 0 (by simp)
  have HE := Lib.hid (And.intro B3 K3)
  simp only [List.getElem_cons_zero] at c0 c1 c2 c3
  clear B1 B2 B3 K1 K2 K3 h
  go_enter Try.func69, Try.ntmps69
  go_wp2_with fail
  go_region
  go_wp2_with fail
  go_region
  go_wp2_with fail
  go_region
  go_wp2_with fail
  go_ret
  exact ⟨Y, rfl, lY, HE.out.1, HE.out.2⟩
end Go.Proofs.Ytmoagooabmmmgaa
