/-
  bits.Len by the library's contract; nextPowerOfTwo, xorshift.Next, breakPatternsOrdered; order2Ordered, medianOrdered, medianAdjacentOrdered, choosePivotOrdered.
  A row of 32-bit numbers that is sorted: breakPatternsOrdered; order2Ordered, medianOrdered, medianAdjacentOrdered, choosePivotOrdered.
  A row of 32-bit numbers that is sorted: order2Ordered, medianOrdered, medianAdjacentOrdered, choosePivotOrdered.
-/
import Derived.Test.YtajccmkdfmpapaaGreatDoorZmM
import Derived.Shelf.Small.Bits
import Derived.Lib.ItoaNum
import Derived.Laws.Bits64
import Derived.Laws.Bits64b
namespace Go.Proofs.YtajccmkdfmpapaaGreatDoor
open Go.RowKit Go.Shelf

def soRen : Go.Shelf.Ren := ⟨fun | 125 => 82 | 128 => 93 | 129 => 94 | n => n, fun | 46 => 148 | 3 => 3 | 51 => 34 | 53 => 159 | 4 => 4 | 5 => 5 | 9 => 9 | n => n, fun | n => n⟩
theorem soLays : Go.Proofs.Lays.n125 Tryz.prog soRen := {
  mixed := by kernel_rfl
  f125 := Tryz.func82.trans (congrArg some (by kernel_rfl))
  f128 := Tryz.func93.trans (congrArg some (by kernel_rfl))
  f129 := Tryz.func94.trans (congrArg some (by kernel_rfl))
  t3 := Tryz.underlying3
  a3 := Tryz.isAgg3
  z3 := Tryz.sizeOf3
  v3 := Tryz.zeroValue3
  t4 := Tryz.underlying4
  a4 := Tryz.isAgg4
  z4 := Tryz.sizeOf4
  v4 := Tryz.zeroValue4
  t5 := Tryz.underlying5
  a5 := Tryz.isAgg5
  z5 := Tryz.sizeOf5
  v5 := Tryz.zeroValue5
  t9 := Tryz.underlying9
  a9 := Tryz.isAgg9
  z9 := Tryz.sizeOf9
  v9 := Tryz.zeroValue9
  t46 := Tryz.underlying148
  a46 := Tryz.isAgg148
  z46 := Tryz.sizeOf148
  v46 := Tryz.zeroValue148
  t51 := Tryz.underlying34
  a51 := Tryz.isAgg34
  z51 := Tryz.sizeOf34
  v51 := Tryz.zeroValue34
  t53 := Tryz.underlying159
  a53 := Tryz.isAgg159
  z53 := Tryz.sizeOf159
  v53 := Tryz.zeroValue159 }
theorem soLen_at (x : Nat) (hx : x ≤ 1000000) (w : World) : Calls Tryz.prog 82 #[.int .u64 (x : Int)] w (IntIs (Lib.bitLen x : Int) w) := by
  have h : Calls Tryz.prog 82 #[.int .u64 (x : Int)] w (fun e w' => e = .returned (.int .i64 (Lib.bitLen (x : Int).toNat)) ∧ w' = w) := Any.bits_Len soLays (x : Int) w (by omega) (by omega)
  rw [Int.toNat_natCast] at h
  exact h.mono fun _ _ h => ⟨h.1, h.2.symm⟩
theorem len_bounds (x : Nat) (h0 : 0 < x) (hx : x ≤ 1000000) : x < 2 ^ Lib.bitLen x ∧ 2 ^ Lib.bitLen x ≤ 2 * x := by
  obtain ⟨h1, h2, h3⟩ := Lib.bitLenAux_bounds 64 x (by omega) (by omega)
  refine ⟨h3, ?_⟩
  show 2 ^ Lib.bitLenAux 64 x ≤ 2 * x
  obtain ⟨k, hk⟩ : ∃ k, Lib.bitLenAux 64 x = k + 1 := ⟨Lib.bitLenAux 64 x - 1, by omega⟩
  rw [hk] at h2 ⊢
  rw [Nat.add_sub_cancel] at h2
  rw [Nat.pow_succ]
  omega
theorem soPow_at (x : Nat) (h0 : 0 < x) (hx : x ≤ 1000000) (w : World) : Calls Tryz.prog 96 #[.int .i64 (x : Int)] w (fun r w' => ∃ P : Nat, r = .returned (.int .u64 (P : Int)) ∧ x < P ∧ P ≤ 2 * x ∧ w = w') := by
  have HB := Lib.hid (len_bounds x h0 hx)
  have HL := Lib.hid (soLen_at x hx w)
  obtain ⟨L, hL⟩ : ∃ L, Lib.bitLen x = L := ⟨_, rfl⟩
  rw [hL] at HB HL
  clear hL
  obtain ⟨P, hP⟩ : ∃ P, 2 ^ L = P := ⟨_, rfl⟩
  have hp : IntKind.u64.wrap ((2 : Int) ^ L) = (P : Int) := by
    rw [show ((2 : Int) ^ L) = ((2 ^ L : Nat) : Int) by push_cast; rfl, hP, IntKind.wrap_u64]
    have := HB.out.2
    omega
  have hp1 : IntKind.u64.wrap (1 * (2 : Int) ^ L) = (P : Int) := by rw [Int.one_mul]; exact hp
  have wr : IntKind.u64.wrap (x : Int) = (x : Int) := by rw [IntKind.wrap_u64]; omega
  have hm : min L 64 = L := by
    apply Nat.min_eq_left
    apply Classical.byContradiction
    intro hn
    have h1 : (2 : Nat) ^ 65 ≤ 2 ^ L := Nat.pow_le_pow_right (by omega) (by omega)
    have h2 := HB.out.2
    omega
  rw [hP] at HB
  clear hP
  go_enter Tryz.func96, Tryz.ntmps96
  go_wp2_with fail
  refine HL.out.mono ?_
  rintro r w' ⟨rfl, rfl⟩
  go_wp2_with fail
  go_ret
  exact ⟨P, rfl, HB.out.1, HB.out.2, rfl⟩
theorem soXor_at (rb X : Nat) (hX : X < 18446744073709551616) (w : World) (h : Blk w rb 160 [.int .u64 (X : Int)]) : Calls Tryz.prog 97 #[.pointer (some ⟨rb, 0, none⟩)] w (fun r w' => ∃ Y : Nat, r = .returned (.int .u64 (Y : Int)) ∧ Y < 18446744073709551616 ∧ Blk w' rb 160 [.int .u64 (Y : Int)] ∧ Kept (fun k => k = rb) w w') := by
  obtain ⟨A, hA⟩ : ∃ A : Nat, X ^^^ (X * 8192 % 18446744073709551616) = A := ⟨_, rfl⟩
  obtain ⟨B, hB⟩ : ∃ B : Nat, A ^^^ (A / 128) = B := ⟨_, rfl⟩
  obtain ⟨Y, hY⟩ : ∃ C : Nat, B ^^^ (B * 131072 % 18446744073709551616) = C := ⟨_, rfl⟩
  have lA : A < 18446744073709551616 := by rw [← hA]; exact Nat.xor_lt_two_pow (n := 64) (by omega) (by omega)
  have lB : B < 18446744073709551616 := by rw [← hB]; exact Nat.xor_lt_two_pow (n := 64) (by omega) (by omega)
  have lY : Y < 18446744073709551616 := by rw [← hY]; exact Nat.xor_lt_two_pow (n := 64) (by omega) (by omega)
  have e1 : bits .xor .u64 (X : Int) (IntKind.u64.wrap ((X : Int) * 8192)) = (A : Int) := by
    rw [IntKind.wrap_u64, show ((X : Int) * 8192 % 18446744073709551616) = ((X * 8192 % 18446744073709551616 : Nat) : Int) by omega, bits_xor_u64_nat _ _ hX (by omega), hA]
  have e2 : bits .xor .u64 (A : Int) ((A : Int) / 128) = (B : Int) := by
    rw [show ((A : Int) / 128) = ((A / 128 : Nat) : Int) by omega, bits_xor_u64_nat _ _ lA (by omega), hB]
  have e3 : bits .xor .u64 (B : Int) (IntKind.u64.wrap ((B : Int) * 131072)) = (Y : Int) := by
    rw [IntKind.wrap_u64, show ((B : Int) * 131072 % 18446744073709551616) = ((B * 131072 % 18446744073709551616 : Nat) : Int) by omega, bits_xor_u64_nat _ _ lB (by omega), hY]
  clear hA hB hY
  have c0 := h.cell 0 (by simp)
  have f0 := h.free 0
  have B1 : Blk (w.setCell ⟨rb, 0, none⟩ (.int .u64 (A : Int))).drew rb 160 [.int .u64 (A : Int)] := h.put 0 _
  have K1 : Kept (fun k => k = rb) w (w.setCell ⟨rb, 0, none⟩ (.int .u64 (A : Int))).drew := ((Kept.refl (fun k => k = rb) w).put (.inl rfl) 0 _).drew
  obtain ⟨w1, hw1⟩ : ∃ w1, (w.setCell ⟨rb, 0, none⟩ (.int .u64 (A : Int))).drew = w1 := ⟨_, rfl⟩
  rw [hw1] at B1 K1
  have c1 := B1.cell 0 (by simp)
  have f1 := B1.free 0
  have B2 : Blk (w1.setCell ⟨rb, 0, none⟩ (.int .u64 (B : Int))).drew rb 160 [.int .u64 (B : Int)] := B1.put 0 _
  have K2 : Kept (fun k => k = rb) w (w1.setCell ⟨rb, 0, none⟩ (.int .u64 (B : Int))).drew := (K1.put (.inl rfl) 0 _).drew
  obtain ⟨w2, hw2⟩ : ∃ w2, (w1.setCell ⟨rb, 0, none⟩ (.int .u64 (B : Int))).drew = w2 := ⟨_, rfl⟩
  rw [hw2] at B2 K2
  have c2 := B2.cell 0 (by simp)
  have f2 := B2.free 0
  have B3 : Blk (w2.setCell ⟨rb, 0, none⟩ (.int .u64 (Y : Int))).drew rb 160 [.int .u64 (Y : Int)] := B2.put 0 _
  have K3 : Kept (fun k => k = rb) w (w2.setCell ⟨rb, 0, none⟩ (.int .u64 (Y : Int))).drew := (K2.put (.inl rfl) 0 _).drew
  obtain ⟨w3, hw3⟩ : ∃ w3, (w2.setCell ⟨rb, 0, none⟩ (.int .u64 (Y : Int))).drew = w3 := ⟨_, rfl⟩
  rw [hw3] at B3 K3
  have c3 := B3.cell 0 (by simp)
  have HE := Lib.hid (And.intro B3 K3)
  simp only [List.getElem_cons_zero] at c0 c1 c2 c3
  clear B1 B2 B3 K1 K2 K3 h
  go_enter Tryz.func97, Tryz.ntmps97
  go_wp2_with fail
  go_region
  go_wp2_with fail
  go_region
  go_wp2_with fail
  go_region
  go_wp2_with fail
  go_ret
  exact ⟨Y, rfl, lY, HE.out.1, HE.out.2⟩
end Go.Proofs.YtajccmkdfmpapaaGreatDoor
namespace Go.Proofs.YtajccmkdfmpapaaGreatDoor
open Go.RowKit

theorem Kept.new {F : Nat → Prop} {a b c : World} {r : Nat} (h : Kept F a b) (hr : a.heap.size ≤ r) (hk : Kept (fun k => k = r) b c) : Kept F a c :=
  h.trans (hk.mono (fun k hk e => .inr ⟨by omega, hk⟩))
set_option maxHeartbeats 2000000 in
set_option maxRecDepth 100000 in
theorem soBreak_at (g n C cap a H : Nat) (D : Nat → Nat) (w : World) (h : Ar w g n C D) (hn : n ≤ 100000) (hc : n ≤ cap) (hb : a + H ≤ n) (hH : 8 ≤ H) : Calls Tryz.prog 86 #[.slice (some ⟨g, 0, none⟩) n cap, .int .i64 (a : Int), .int .i64 ((a + H : Nat) : Int)] w (fun r w' => r = .returned (.tuple #[]) ∧ SoTo g n C a (a + H) D (fun _ => True) w w') := by
  have e1 : ((a + H : Nat) : Int) = (a : Int) + (H : Int) := by omega
  have e5 : (a : Int) + (H : Int) - (a : Int) = (H : Int) := by omega
  have wH : IntKind.u64.wrap (H : Int) = (H : Int) := by rw [IntKind.wrap_u64]; omega
  obtain ⟨Q, hQ⟩ : ∃ Q : Nat, H / 4 = Q := ⟨_, rfl⟩
  obtain ⟨R, hR⟩ : ∃ R : Nat, Q * 2 = R := ⟨_, rfl⟩
  obtain ⟨U, hU⟩ : ∃ U : Nat, a + R = U := ⟨_, rfl⟩
  obtain ⟨I0, hI0⟩ : ∃ I0 : Nat, U = I0 + 1 := ⟨U - 1, by omega⟩
  have q1 : (H : Int) / 4 = (Q : Int) := by omega
  have q2 : (Q : Int) * 2 = (R : Int) := by omega
  have q3 : (a : Int) + (R : Int) = (U : Int) := by omega
  have q4 : (U : Int) - 1 = (I0 : Int) := by omega
  have w1 : IntKind.i64.wrap (Q : Int) = (Q : Int) := IntWalk.i64_in _ (by omega)
  have w2 : IntKind.i64.wrap (R : Int) = (R : Int) := IntWalk.i64_in _ (by omega)
  have w3 : IntKind.i64.wrap (U : Int) = (U : Int) := IntWalk.i64_in _ (by omega)
  have w4 : IntKind.i64.wrap (I0 : Int) = (I0 : Int) := IntWalk.i64_in _ (by omega)
  have w5 : IntKind.i64.wrap ((U : Int) + 1) = (U : Int) + 1 := IntWalk.i64_in _ (by omega)
  rw [e1]
  clear e1
  obtain ⟨rb, hrb⟩ : ∃ rb, w.heap.size = rb := ⟨_, rfl⟩
  obtain ⟨wa, hwa⟩ : ∃ wa, w.alloc (.cells #[.int .u64 (H : Int)] 160) = wa := ⟨_, rfl⟩
  have hbe : Below w.heap.size w wa := by rw [← hwa]; exact (Below.refl _ _).alloc (Nat.le_refl _) _
  have HA := Lib.hid (h.up hbe)
  have HK : Hid (Kept (fun k => k = g) w wa) := Lib.hid (Kept.of_below hbe)
  have HB : Hid (Blk wa rb 160 [.int .u64 (H : Int)]) := Lib.hid (by rw [← hwa, ← hrb]; exact heap_alloc_new w _)
  have HNE : Hid (¬ rb = g) := Lib.hid (by have := h.lt; omega)
  have HRB : Hid (w.heap.size ≤ rb) := Lib.hid (by omega)
  clear h hbe
  go_enter Tryz.func86, Tryz.ntmps86
  go_wp2_with fail
  refine (soPow_at H (by omega) (by omega) _).mono ?_
  rintro r w6 ⟨P, rfl, hP1, hP2, rfl⟩
  have wP : IntKind.u64.wrap ((P : Int) - 1) = (P : Int) - 1 := by rw [IntKind.wrap_u64]; omega
  go_wp2_with fail
  try simp only [q1, q2, q3, q4]
  go_loopg [9] (U + 2 - I0) (fun q x wr => ∃ (i : Nat) (E : Nat → Nat) (X : Nat), x = .int .i64 (i : Int) ∧ I0 ≤ i ∧ i ≤ U + 2 ∧ q = U + 2 - i ∧ Ar wr g n C E ∧ Pm a (a + H) D E ∧ Blk wr rb 160 [.int .u64 (X : Int)] ∧ X < 18446744073709551616 ∧ Kept (fun k => k = g) w wr)
  case atStart => exact ⟨I0, D, H, rfl, Nat.le_refl _, by omega, rfl, HA.out, Pm.refl _ _ _, HB.out, by omega, HK.out⟩
  case round =>
    clear HA HK HB
    obtain ⟨i, E, X, rfl, hi, hiu, hq, hA, hP, hB, hX, hK⟩ := hrel
    have HQ := Lib.hid hq
    have HP := Lib.hid hP
    have HA := Lib.hid hA
    have HB := Lib.hid hB
    have HK := Lib.hid hK
    clear hq hP hA hB hK
    by_cases hlt : i ≤ U + 1
    · have hg : (i : Int) ≤ (U : Int) + 1 := by omega
      go_wp2_with fail
      refine (soXor_at rb X hX wr HB.out).mono ?_
      rintro r w2 ⟨Y, rfl, hY, hB2, hK2⟩
      have HA := Lib.hid (HA.out.keep hK2 (fun e => HNE.out e.symm))
      have HK := Lib.hid (HK.out.new HRB.out hK2)
      have HB := Lib.hid hB2
      have HYL := Lib.hid hY
      obtain ⟨O, hO⟩ : ∃ O : Nat, Y &&& (P - 1) = O := ⟨_, rfl⟩
      have hOP : O < P := by rw [← hO]; have := Nat.and_le_right (n := Y) (m := P - 1); omega
      have eO : bits .and .u64 (Y : Int) ((P : Int) - 1) = (O : Int) := by
        rw [show ((P : Int) - 1) = ((P - 1 : Nat) : Int) by omega, bits_and_u64_nat _ _ hY (by omega), hO]
      have wO : IntKind.i64.wrap (O : Int) = (O : Int) := IntWalk.i64_in _ (by omega)
      clear hO hB2 hK2 hY hX
      by_cases hOH : H ≤ O
      · obtain ⟨T, rfl⟩ : ∃ T, O = H + T := ⟨O - H, by omega⟩
        have eT : ((H + T : Nat) : Int) = (H : Int) + (T : Int) := by omega
        have eT2 : (H : Int) + (T : Int) - (H : Int) = (T : Int) := by omega
        rw [eT] at eO wO
        have hgo : (H : Int) ≤ (H : Int) + (T : Int) := by omega
        obtain ⟨x, hx⟩ : ∃ x, a + T = x := ⟨_, rfl⟩
        have ex : (a : Int) + (T : Int) = (x : Int) := by omega
        have wx : IntKind.i64.wrap (x : Int) = (x : Int) := IntWalk.i64_in _ (by omega)
        have c0 := HA.out.get i (by omega)
        have c1 := HA.out.get x (by omega)
        have d0 : (i : Int) < (n : Int) := by omega
        have d1 : (x : Int) < (n : Int) := by omega
        have HSW := Lib.hid (fun k => (HA.out.drewN k).swap (i := i) (j := x) (by omega) (by omega))
        have HP2 : Hid (Pm (a) (a + H) D (swp E (i) (x))) := Lib.hid (HP.out.trans (Pm.swap (by omega) (by omega)))
        have HK2 := Lib.hid (fun k => kept_put2 (kept_drewN HK.out k) (i) (x) (.int .u32 (E (x) : Int)) (.int .u32 (E (i) : Int)))
        have f0 := HA.out.free (i)
        have f1 := HA.out.free (x)
        have HBL : Hid (∀ k, Blk (((w2.drewN k).setCell ⟨g, i, none⟩ (.int .u32 (E x : Int))).setCell ⟨g, x, none⟩ (.int .u32 (E i : Int))) rb 160 [.int .u64 (Y : Int)]) := Lib.hid (fun k => (kept_put2 (Kept.refl (fun k => k = g) (w2.drewN k)) i x _ _).blk (show Blk (w2.drewN k) rb 160 [.int .u64 (Y : Int)] from HB.out) HNE.out)
        clear HB HA HK HP hx
        by_cases hxa : i = x
        · obtain rfl := hxa
          go_wp2_with fail
          go_region
          all_goals
            go_wp2_with fail
            go_roundg (U + 2 - (i + 1))
            case rel => exact ⟨i + 1, _, Y, by go_num, by omega, by omega, rfl, HSW.out _, HP2.out, HBL.out _, HYL.out, HK2.out _⟩
            case measure => have := HQ.out; omega
        · have hne : ¬ x = i := fun e => hxa e.symm
          go_wp2_with fail
          go_region
          all_goals
            go_wp2_with fail
            go_roundg (U + 2 - (i + 1))
            case rel => exact ⟨i + 1, _, Y, by go_num, by omega, by omega, rfl, HSW.out _, HP2.out, HBL.out _, HYL.out, HK2.out _⟩
            case measure => have := HQ.out; omega
      · have hgo : ¬ ((H : Int) ≤ (O : Int)) := by omega
        obtain ⟨x, hx⟩ : ∃ x, a + O = x := ⟨_, rfl⟩
        have ex : (a : Int) + (O : Int) = (x : Int) := by omega
        have wx : IntKind.i64.wrap (x : Int) = (x : Int) := IntWalk.i64_in _ (by omega)
        have c0 := HA.out.get i (by omega)
        have c1 := HA.out.get x (by omega)
        have d0 : (i : Int) < (n : Int) := by omega
        have d1 : (x : Int) < (n : Int) := by omega
        have HSW := Lib.hid (fun k => (HA.out.drewN k).swap (i := i) (j := x) (by omega) (by omega))
        have HP2 : Hid (Pm (a) (a + H) D (swp E (i) (x))) := Lib.hid (HP.out.trans (Pm.swap (by omega) (by omega)))
        have HK2 := Lib.hid (fun k => kept_put2 (kept_drewN HK.out k) (i) (x) (.int .u32 (E (x) : Int)) (.int .u32 (E (i) : Int)))
        have f0 := HA.out.free (i)
        have f1 := HA.out.free (x)
        have HBL : Hid (∀ k, Blk (((w2.drewN k).setCell ⟨g, i, none⟩ (.int .u32 (E x : Int))).setCell ⟨g, x, none⟩ (.int .u32 (E i : Int))) rb 160 [.int .u64 (Y : Int)]) := Lib.hid (fun k => (kept_put2 (Kept.refl (fun k => k = g) (w2.drewN k)) i x _ _).blk (show Blk (w2.drewN k) rb 160 [.int .u64 (Y : Int)] from HB.out) HNE.out)
        clear HB HA HK HP hx
        by_cases hxa : i = x
        · obtain rfl := hxa
          go_wp2_with fail
          go_region
          all_goals
            go_wp2_with fail
            go_roundg (U + 2 - (i + 1))
            case rel => exact ⟨i + 1, _, Y, by go_num, by omega, by omega, rfl, HSW.out _, HP2.out, HBL.out _, HYL.out, HK2.out _⟩
            case measure => have := HQ.out; omega
        · have hne : ¬ x = i := fun e => hxa e.symm
          go_wp2_with fail
          go_region
          all_goals
            go_wp2_with fail
            go_roundg (U + 2 - (i + 1))
            case rel => exact ⟨i + 1, _, Y, by go_num, by omega, by omega, rfl, HSW.out _, HP2.out, HBL.out _, HYL.out, HK2.out _⟩
            case measure => have := HQ.out; omega
    · have hg : ¬ ((i : Int) ≤ (U : Int) + 1) := by omega
      go_wp2_with fail
      go_end0
      exact ⟨rfl, E, HA.out, HP.out, trivial, HK.out⟩
end Go.Proofs.YtajccmkdfmpapaaGreatDoor
namespace Go.Proofs.YtajccmkdfmpapaaGreatDoor
open Go.RowKit

/-- The counter of swaps. -/
def Sw (w : World) (sb s : Nat) : Prop := Blk w sb 3 [.int .i64 (s : Int)]
def Ord2To (sb s x y : Nat) (w : World) (r : Ending) (w' : World) : Prop := ∃ u v s' : Nat, r = .returned (.tuple #[.int .i64 (u : Int), .int .i64 (v : Int)]) ∧ ((u = x ∧ v = y) ∨ (u = y ∧ v = x)) ∧ Sw w' sb s' ∧ s' ≤ s + 1 ∧ Kept (fun k => k = sb) w w'
theorem soOrd2_at (g n C cap x y sb s : Nat) (D : Nat → Nat) (w : World) (h : Ar w g n C D) (hs : Sw w sb s) (hn : n ≤ 100000) (hc : n ≤ cap) (hx : x < n) (hy : y < n) (hs1 : s ≤ 1000) : Calls Tryz.prog 101 #[.slice (some ⟨g, 0, none⟩) n cap, .int .i64 (x : Int), .int .i64 (y : Int), .pointer (some ⟨sb, 0, none⟩)] w (Ord2To sb s x y w) := by
  have c0 := h.get x hx
  have c1 := h.get y hy
  have d0 : (x : Int) < (n : Int) := by omega
  have d1 : (y : Int) < (n : Int) := by omega
  have cs := hs.cell 0 (by simp)
  have fs := hs.free 0
  simp only [List.getElem_cons_zero] at cs
  cases hd : decide (D y < D x) with
  | false =>
    have HL := Lib.hid (fun w => soLess_is hd w)
    have HE : Hid (∀ k, Ord2To sb s x y w (.returned (.tuple #[.int .i64 (x : Int), .int .i64 (y : Int)])) (w.drewN k)) := Lib.hid (fun k => ⟨x, y, s, rfl, .inl ⟨rfl, rfl⟩, hs, by omega, kept_drewN (Kept.refl _ _) k⟩)
    clear hd hs h
    go_enter Tryz.func101, Tryz.ntmps101
    go_wp2_with fail
    go_quiet (first | (go_at_call 90; first | exact Calls.quiet_of_same (HL.out _) | exact (HL.out _).mono fun _ _ h => ⟨h.1, _, h.2⟩))
    go_wp2_with fail
    go_ret2
    exact HE.out _
  | true =>
    have HL := Lib.hid (fun w => soLess_is hd w)
    have HE : Hid (∀ k, Ord2To sb s x y w (.returned (.tuple #[.int .i64 (y : Int), .int .i64 (x : Int)])) ((w.drewN k).setCell ⟨sb, 0, none⟩ (.int .i64 ((s : Int) + 1)))) := Lib.hid (fun k => ⟨y, x, s + 1, rfl, .inr ⟨rfl, rfl⟩, by
      have : Blk (w.drewN k) sb 3 [.int .i64 (s : Int)] := hs
      exact this.put 0 _, Nat.le_refl _, (kept_drewN (Kept.refl (fun k => k = sb) w) k).put (.inl rfl) 0 _⟩)
    clear hd hs h
    go_enter Tryz.func101, Tryz.ntmps101
    go_wp2_with fail
    go_quiet (first | (go_at_call 90; first | exact Calls.quiet_of_same (HL.out _) | exact (HL.out _).mono fun _ _ h => ⟨h.1, _, h.2⟩))
    go_wp2_with fail
    go_ret2
    exact HE.out _
theorem soMed_at (g n C cap x y z sb s : Nat) (D : Nat → Nat) (w : World) (h : Ar w g n C D) (hs : Sw w sb s) (hne : sb ≠ g) (hn : n ≤ 100000) (hc : n ≤ cap) (hx : x < n) (hy : y < n) (hz : z < n) (hs1 : s ≤ 100) : Calls Tryz.prog 99 #[.slice (some ⟨g, 0, none⟩) n cap, .int .i64 (x : Int), .int .i64 (y : Int), .int .i64 (z : Int), .pointer (some ⟨sb, 0, none⟩)] w (fun r w' => ∃ m s' : Nat, r = .returned (.int .i64 (m : Int)) ∧ (m = x ∨ m = y ∨ m = z) ∧ Sw w' sb s' ∧ s' ≤ s + 3 ∧ Kept (fun k => k = sb) w w') := by
  have HA := Lib.hid h
  have HS := Lib.hid hs
  have HNE : Hid (sb ≠ g) := Lib.hid hne
  clear h hs hne
  go_enter Tryz.func99, Tryz.ntmps99
  go_wp2_with fail
  refine (soOrd2_at g n C cap x y sb s D w HA.out HS.out hn hc hx hy (by omega)).mono ?_
  rintro r w1 ⟨u, v, s1, rfl, huv, hsw, hss, hk⟩
  have HA1 := Lib.hid (HA.out.keep hk (fun e => HNE.out e.symm))
  have HS1 := Lib.hid hsw
  have HK1 := Lib.hid hk
  clear hsw hk
  go_wp2_with fail
  refine (soOrd2_at g n C cap v z sb s1 D w1 HA1.out HS1.out hn hc (by omega) hz (by omega)).mono ?_
  rintro r w2 ⟨u2, v2, s2, rfl, huv2, hsw, hss2, hk⟩
  have HA2 := Lib.hid (HA1.out.keep hk (fun e => HNE.out e.symm))
  have HS2 := Lib.hid hsw
  have HK2 := Lib.hid (HK1.out.and hk)
  clear hsw hk
  go_wp2_with fail
  refine (soOrd2_at g n C cap u u2 sb s2 D w2 HA2.out HS2.out hn hc (by omega) (by omega) (by omega)).mono ?_
  rintro r w3 ⟨u3, v3, s3, rfl, huv3, hsw, hss3, hk⟩
  have HS3 := Lib.hid hsw
  have HK3 := Lib.hid (HK2.out.and hk)
  have HO : Hid (v3 = x ∨ v3 = y ∨ v3 = z) := Lib.hid (by omega)
  have HB : Hid (s3 ≤ s + 3) := Lib.hid (by omega)
  clear hsw hk huv huv2 huv3
  go_wp2_with fail
  go_ret
  exact ⟨v3, s3, rfl, HO.out, HS3.out, HB.out, HK3.out⟩
theorem soMedAdj_at (g n C cap x sb s : Nat) (D : Nat → Nat) (w : World) (h : Ar w g n C D) (hs : Sw w sb s) (hne : sb ≠ g) (hn : n ≤ 100000) (hc : n ≤ cap) (hx1 : 1 ≤ x) (hx : x + 1 < n) (hs1 : s ≤ 100) : Calls Tryz.prog 98 #[.slice (some ⟨g, 0, none⟩) n cap, .int .i64 (x : Int), .pointer (some ⟨sb, 0, none⟩)] w (fun r w' => ∃ m s' : Nat, r = .returned (.int .i64 (m : Int)) ∧ x ≤ m + 1 ∧ m ≤ x + 1 ∧ Sw w' sb s' ∧ s' ≤ s + 3 ∧ Kept (fun k => k = sb) w w') := by
  obtain ⟨t, rfl⟩ : ∃ t, x = t + 1 := ⟨x - 1, by omega⟩
  have e1 : ((t + 1 : Nat) : Int) = (t : Int) + 1 := by omega
  have e2 : (t : Int) + 1 - 1 = (t : Int) := by omega
  have HM : Hid (Calls Tryz.prog 99 #[.slice (some ⟨g, 0, none⟩) n cap, .int .i64 (t : Int), .int .i64 ((t : Int) + 1), .int .i64 ((t : Int) + 1 + 1), .pointer (some ⟨sb, 0, none⟩)] w _) := Lib.hid (soMed_at g n C cap t (t + 1) (t + 1 + 1) sb s D w h hs hne hn hc (by omega) (by omega) (by omega) hs1)
  rw [e1]
  clear h hs e1
  go_enter Tryz.func98, Tryz.ntmps98
  go_wp2_with fail
  refine HM.out.mono ?_
  rintro r w1 ⟨m, s1, rfl, hm, hsw, hss, hk⟩
  have HR := Lib.hid (And.intro hsw hk)
  have hm1 : t + 1 ≤ m + 1 ∧ m ≤ t + 1 + 1 := by omega
  clear hsw hk hm
  go_wp2_with fail
  go_ret
  exact ⟨m, s1, rfl, hm1.1, hm1.2, HR.out.1, hss, HR.out.2⟩
def PivTo (a b : Nat) (w : World) (r : Ending) (w' : World) : Prop := ∃ (p : Nat) (hint : Int), r = .returned (.tuple #[.int .i64 (p : Int), .int .i64 hint]) ∧ a ≤ p ∧ p < b ∧ Below w.heap.size w w'
set_option maxHeartbeats 2000000 in
theorem soPivot_at (g n C cap a H : Nat) (D : Nat → Nat) (w : World) (h : Ar w g n C D) (hn : n ≤ 100000) (hc : n ≤ cap) (hb : a + H ≤ n) (hH : 8 ≤ H) : Calls Tryz.prog 87 #[.slice (some ⟨g, 0, none⟩) n cap, .int .i64 (a : Int), .int .i64 ((a + H : Nat) : Int)] w (PivTo a (a + H) w) := by
  have e1 : ((a + H : Nat) : Int) = (a : Int) + (H : Int) := by omega
  have e5 : (a : Int) + (H : Int) - (a : Int) = (H : Int) := by omega
  obtain ⟨Q, hQ⟩ : ∃ Q : Nat, H / 4 = Q := ⟨_, rfl⟩
  obtain ⟨i0, hi0⟩ : ∃ i0 : Nat, a + Q = i0 := ⟨_, rfl⟩
  obtain ⟨R2, hR2⟩ : ∃ R : Nat, Q * 2 = R := ⟨_, rfl⟩
  obtain ⟨R3, hR3⟩ : ∃ R : Nat, Q * 3 = R := ⟨_, rfl⟩
  obtain ⟨j0, hj0⟩ : ∃ j0 : Nat, a + R2 = j0 := ⟨_, rfl⟩
  obtain ⟨k0, hk0⟩ : ∃ k0 : Nat, a + R3 = k0 := ⟨_, rfl⟩
  have q1 : (H : Int) / 4 = (Q : Int) := by omega
  have q2 : (Q : Int) * 2 = (R2 : Int) := by omega
  have q3 : (Q : Int) * 3 = (R3 : Int) := by omega
  have q4 : (a : Int) + (Q : Int) = (i0 : Int) := by omega
  have q5 : (a : Int) + (R2 : Int) = (j0 : Int) := by omega
  have q6 : (a : Int) + (R3 : Int) = (k0 : Int) := by omega
  have v1 : IntKind.i64.wrap (Q : Int) = (Q : Int) := IntWalk.i64_in _ (by omega)
  have v2 : IntKind.i64.wrap (R2 : Int) = (R2 : Int) := IntWalk.i64_in _ (by omega)
  have v3 : IntKind.i64.wrap (R3 : Int) = (R3 : Int) := IntWalk.i64_in _ (by omega)
  have v4 : IntKind.i64.wrap (i0 : Int) = (i0 : Int) := IntWalk.i64_in _ (by omega)
  have v5 : IntKind.i64.wrap (j0 : Int) = (j0 : Int) := IntWalk.i64_in _ (by omega)
  have v6 : IntKind.i64.wrap (k0 : Int) = (k0 : Int) := IntWalk.i64_in _ (by omega)
  rw [e1]
  clear e1
  obtain ⟨sb, hsb⟩ : ∃ sb, w.heap.size = sb := ⟨_, rfl⟩
  obtain ⟨wv0, hwa⟩ : ∃ wa, w.alloc (.cells #[.int .i64 0] 3) = wa := ⟨_, rfl⟩
  have hbe : Below w.heap.size w wv0 := by rw [← hwa]; exact (Below.refl _ _).alloc (Nat.le_refl _) _
  have HA0 := Lib.hid (h.up hbe)
  have HK0 : Hid (Kept (fun _ => False) w wv0) := Lib.hid (Kept.of_below hbe)
  obtain ⟨s0, hs0⟩ : ∃ s0 : Nat, s0 = 0 := ⟨0, rfl⟩
  have HS0 : Hid (Sw wv0 sb s0) := Lib.hid (by rw [← hwa, ← hsb, hs0]; exact heap_alloc_new w _)
  have HNE : Hid (sb ≠ g) := Lib.hid (by have := h.lt; omega)
  have HSB : Hid (w.heap.size ≤ sb) := Lib.hid (by omega)
  have hs0' : s0 ≤ 0 := by omega
  clear h hbe hs0
  go_enter Tryz.func87, Tryz.ntmps87
  by_cases h50 : 50 ≤ H
  · have hg : (50 : Int) ≤ (H : Int) := by omega
    go_wp2_with fail
    refine (soMedAdj_at g n C cap i0 sb s0 D wv0 HA0.out HS0.out HNE.out hn hc (by omega) (by omega) (by omega)).mono ?_
    rintro r wv1 ⟨i, s1, rfl, il, iu, hs, hss, hk⟩
    have HA1 := Lib.hid (HA0.out.keep hk (fun e => HNE.out e.symm))
    have HS1 := Lib.hid hs
    have HK1 := Lib.hid (HK0.out.new HSB.out hk)
    clear hs hk
    go_wp2_with fail
    refine (soMedAdj_at g n C cap j0 sb s1 D wv1 HA1.out HS1.out HNE.out hn hc (by omega) (by omega) (by omega)).mono ?_
    rintro r wv2 ⟨j, s2, rfl, jl, ju, hs, hss, hk⟩
    have HA2 := Lib.hid (HA1.out.keep hk (fun e => HNE.out e.symm))
    have HS2 := Lib.hid hs
    have HK2 := Lib.hid (HK1.out.new HSB.out hk)
    clear hs hk
    go_wp2_with fail
    refine (soMedAdj_at g n C cap k0 sb s2 D wv2 HA2.out HS2.out HNE.out hn hc (by omega) (by omega) (by omega)).mono ?_
    rintro r wv3 ⟨k, s3, rfl, kl, ku, hs, hss, hk⟩
    have HA3 := Lib.hid (HA2.out.keep hk (fun e => HNE.out e.symm))
    have HS3 := Lib.hid hs
    have HK3 := Lib.hid (HK2.out.new HSB.out hk)
    clear hs hk
    go_wp2_with fail
    refine (soMed_at g n C cap i j k sb s3 D wv3 HA3.out HS3.out HNE.out hn hc (by omega) (by omega) (by omega) (by omega)).mono ?_
    rintro r wz ⟨m, s, rfl, hm, hs, hss, hk⟩
    have hmb : a ≤ m ∧ m < a + H := by omega
    have HKz := Lib.hid (HK3.out.new HSB.out hk)
    have cz := hs.cell 0 (by simp)
    simp only [List.getElem_cons_zero] at cz
    have HE : Hid (∀ hint : Int, PivTo a (a + H) w (.returned (.tuple #[.int .i64 (m : Int), .int .i64 hint])) wz) := Lib.hid (fun hint => ⟨m, hint, rfl, hmb.1, hmb.2, HKz.out.below (Nat.le_refl _) (fun k hk => hk.elim)⟩)
    clear hs hk hm hmb
    by_cases h0 : s = 0
    · subst h0
      go_wp2_with fail
      go_ret2
      exact HE.out _
    · by_cases h12 : s = 12
      · subst h12
        go_wp2_with fail
        go_ret2
        exact HE.out _
      · have q0 : ((s : Int) == 0) = false := by simp; omega
        have q12 : ((s : Int) == 12) = false := by simp; omega
        go_wp2_with fail
        go_ret2
        exact HE.out _
  · have hg : ¬ ((50 : Int) ≤ (H : Int)) := by omega
    obtain ⟨i, hi⟩ : ∃ i, i0 = i := ⟨_, rfl⟩
    obtain ⟨j, hj⟩ : ∃ j, j0 = j := ⟨_, rfl⟩
    obtain ⟨k, hk⟩ : ∃ k, k0 = k := ⟨_, rfl⟩
    subst hi hj hk
    go_wp2_with fail
    refine (soMed_at g n C cap i0 j0 k0 sb s0 D wv0 HA0.out HS0.out HNE.out hn hc (by omega) (by omega) (by omega) (by omega)).mono ?_
    rintro r wz ⟨m, s, rfl, hm, hs, hss, hk⟩
    have hmb : a ≤ m ∧ m < a + H := by omega
    have HKz := Lib.hid (HK0.out.new HSB.out hk)
    have cz := hs.cell 0 (by simp)
    simp only [List.getElem_cons_zero] at cz
    have HE : Hid (∀ hint : Int, PivTo a (a + H) w (.returned (.tuple #[.int .i64 (m : Int), .int .i64 hint])) wz) := Lib.hid (fun hint => ⟨m, hint, rfl, hmb.1, hmb.2, HKz.out.below (Nat.le_refl _) (fun k hk => hk.elim)⟩)
    clear hs hk hm hmb
    by_cases h0 : s = 0
    · subst h0
      go_wp2_with fail
      go_ret2
      exact HE.out _
    · by_cases h12 : s = 12
      · subst h12
        go_wp2_with fail
        go_ret2
        exact HE.out _
      · have q0 : ((s : Int) == 0) = false := by simp; omega
        have q12 : ((s : Int) == 12) = false := by simp; omega
        go_wp2_with fail
        go_ret2
        exact HE.out _
end Go.Proofs.YtajccmkdfmpapaaGreatDoor
