/-
  A row of 32-bit numbers that is sorted: breakPatternsOrdered; order2Ordered, medianOrdered, medianAdjacentOrdered, choosePivotOrdered.
-/
import Derived.Test.YtmoagooabmmmgaaSoD
namespace Go.Proofs.Ytmoagooabmmmgaa
open Go.RowKit

theorem Kept.new {F : Nat → Prop} {a b c : World} {r : Nat} (h : Kept F a b) (hr : a.heap.size ≤ r) (hk : Kept (fun k => k = r) b c) : Kept F a c :=
  h.trans (hk.mono (fun k hk e => .inr ⟨by omega, hk⟩))
set_option maxHeartbeats 2000000 in
set_option maxRecDepth 100000 in
theorem soBreak_at (g n C cap a H : Nat) (D : Nat → Nat) (w : World) (h : Ar w g n C D) (hn : n ≤ 100000) (hc : n ≤ cap) (hb : a + H ≤ n) (hH : 8 ≤ H) : Calls Try.prog 58 #[.slice (some ⟨g, 0, none⟩) n cap, .int .i64 (a : Int), .int .i64 ((a + H : Nat) : Int)] w (fun r w' => r = .returned (.tuple #[]) ∧ SoTo g n C a (a + H) D (fun _ => True) w w') := by
  have e1 : ((a + H : Nat) : Int) = (a : Int) + (H : Int) := by omega
  have e5 : (a : Int) + (H : Int) - (a : Int) = (H : Int) := by omega
  have wH : IntKind.u64.wrap (H : Int) = (H : Int) := by rw [IntKind.wrap_u64]; omega
  obtain ⟨Q, hQ⟩ : ∃ Q : Nat, H / 4 = Q := ⟨_, rfl⟩
  obtain ⟨R, hR⟩ : ∃ R : Nat, Q * 2 = R := ⟨_, rfl⟩
  obtain ⟨U, hU⟩ : ∃ U : Nat, a + R = U := ⟨_, rfl⟩
  obtain ⟨I0, hI0⟩ : ∃ I0 : Nat, U = I0 + 1 := ⟨U - 1, by omega⟩
  have q1 : (H : Int) / 4 = (Q : Int) := by omega
  have q2 : (Q : Int) * 2 = (R : Int) := by omega
  have q3 : (a : Int) + (R : Int) = (U : Int) := by omega
  have q4 : (U : Int) - 1 = (I0 : Int) := by omega
  have w1 : IntKind.i64.wrap (Q : Int) = (Q : Int) := IntWalk.i64_in _ (by omega)
  have w2 : IntKind.i64.wrap (R : Int) = (R : Int) := IntWalk.i64_in _ (by omega)
  have w3 : IntKind.i64.wrap (U : Int) = (U : Int) := IntWalk.i64_in _ (by omega)
  have w4 : IntKind.i64.wrap (I0 : Int) = (I0 : Int) := IntWalk.i64_in _ (by omega)
  have w5 : IntKind.i64.wrap ((U : Int) + 1) = (U : Int) + 1 := IntWalk.i64_in _ (by omega)
  rw [e1]
  clear e1
  obtain ⟨rb, hrb⟩ : ∃ rb, w.heap.size = rb := ⟨_, rfl⟩
  obtain ⟨wa, hwa⟩ : ∃ wa, w.alloc (.cells #[.int .u64 (H : Int)] 115) = wa := ⟨_, rfl⟩
  have hbe : Below w.heap.size w wa := by rw [← hwa]; exact (Below.refl _ _).alloc (Nat.le_refl _) _
  have HA := Lib.hid (h.up hbe)
  have HK : Hid (Kept (fun k => k = g) w wa) := Lib.hid (Kept.of_below hbe)
  have HB : Hid (Blk wa rb 115 [.int .u64 (H : Int)]) := Lib.hid (by rw [← hwa, ← hrb]; exact heap_alloc_new w _)
  have HNE : Hid (¬ rb = g) := Lib.hid (by have := h.lt; omega)
  have HRB : Hid (w.heap.size ≤ rb) := Lib.hid (by omega)
  clear h hbe
  go_enter Try.func58, Try.ntmps58
  go_wp2_with fail
  refine (soPow_at H (by omega) (by omega) _).mono ?_
  rintro r w6 ⟨P, rfl, hP1, hP2, rfl⟩
  have wP : IntKind.u64.wrap ((P : Int) - 1) = (P : Int) - 1 := by rw [IntKind.wrap_u64]; omega
  go_wp2_with fail
  try simp only [q1, q2, q3, q4]
  go_loopg [9] (U + 2 - I0) (fun q x wr => ∃ (i : Nat) (E : Nat → Nat) (X : Nat), x = .int .i64 (i : Int) ∧ I0 ≤ i ∧ i ≤ U + 2 ∧ q = U + 2 - i ∧ Ar wr g n C E ∧ Pm a (a + H) D E ∧ Blk wr rb 115 [.int .u64 (X : Int)] ∧ X < 18446744073709551616 ∧ Kept (fun k => k = g) w wr)
  case atStart => exact ⟨I0, D, H, rfl, Nat.le_refl _, by omega, rfl, HA.out, Pm.refl _ _ _, HB.out, by omega, HK.out⟩
  case round =>
    clear HA HK HB
    obtain ⟨i, E, X, rfl, hi, hiu, hq, hA, hP, hB, hX, hK⟩ := hrel
    have HQ := Lib.hid hq
    have HP := Lib.hid hP
    have HA := Lib.hid hA
    have HB := Lib.hid hB
    have HK := Lib.hid hK
    clear hq hP hA hB hK
    by_cases hlt : i ≤ U + 1
    · have hg : (i : Int) ≤ (U : Int) + 1 := by omega
      go_wp2_with fail
      refine (soXor_at rb X hX wr HB.out).mono ?_
      rintro r w2 ⟨Y, rfl, hY, hB2, hK2⟩
      have HA := Lib.hid (HA.out.keep hK2 (fun e => HNE.out e.symm))
      have HK := Lib.hid (HK.out.new HRB.out hK2)
      have HB := Lib.hid hB2
      have HYL := Lib.hid hY
      obtain ⟨O, hO⟩ : ∃ O : Nat, Y &&& (P - 1) = O := ⟨_, rfl⟩
      have hOP : O < P := by rw [← hO]; have := Nat.and_le_right (n := Y) (m := P - 1); omega
      have eO : bits .and .u64 (Y : Int) ((P : Int) - 1) = (O : Int) := by
        rw [show ((P : Int) - 1) = ((P - 1 : Nat) : Int) by omega, bits_and_u64_nat _ _ hY (by omega), hO]
      have wO : IntKind.i64.wrap (O : Int) = (O : Int) := IntWalk.i64_in _ (by omega)
      clear hO hB2 hK2 hY hX
      by_cases hOH : H ≤ O
      · obtain ⟨T, rfl⟩ : ∃ T, O = H + T := ⟨O - H, by omega⟩
        have eT : ((H + T : Nat) : Int) = (H : Int) + (T : Int) := by omega
        have eT2 : (H : Int) + (T : Int) - (H : Int) = (T : Int) := by omega
        rw [eT] at eO wO
        have hgo : (H : Int) ≤ (H : Int) + (T : Int) := by omega
        obtain ⟨x, hx⟩ : ∃ x, a + T = x := ⟨_, rfl⟩
        have ex : (a : Int) + (T : Int) = (x : Int) := by omega
        have wx : IntKind.i64.wrap (x : Int) = (x : Int) := IntWalk.i64_in _ (by omega)
        have c0 := HA.out.get i (by omega)
        have c1 := HA.out.get x (by omega)
        have d0 : (i : Int) < (n : Int) := by omega
        have d1 : (x : Int) < (n : Int) := by omega
        have HSW := Lib.hid (fun k => (HA.out.drewN k).swap (i := i) (j := x) (by omega) (by omega))
        have HP2 : Hid (Pm (a) (a + H) D (swp E (i) (x))) := Lib.hid (HP.out.trans (Pm.swap (by omega) (by omega)))
        have HK2 := Lib.hid (fun k => kept_put2 (kept_drewN HK.out k) (i) (x) (.int .u32 (E (x) : Int)) (.int .u32 (E (i) : Int)))
        have f0 := HA.out.free (i)
        have f1 := HA.out.free (x)
        have HBL : Hid (∀ k, Blk (((w2.drewN k).setCell ⟨g, i, none⟩ (.int .u32 (E x : Int))).setCell ⟨g, x, none⟩ (.int .u32 (E i : Int))) rb 115 [.int .u64 (Y : Int)]) := Lib.hid (fun k => (kept_put2 (Kept.refl (fun k => k = g) (w2.drewN k)) i x _ _).blk (show Blk (w2.drewN k) rb 115 [.int .u64 (Y : Int)] from HB.out) HNE.out)
        clear HB HA HK HP hx
        by_cases hxa : i = x
        · obtain rfl := hxa
          go_wp2_with fail
          go_region
          all_goals
            go_wp2_with fail
            go_roundg (U + 2 - (i + 1))
            case rel => exact ⟨i + 1, _, Y, by go_num, by omega, by omega, rfl, HSW.out _, HP2.out, HBL.out _, HYL.out, HK2.out _⟩
            case measure => have := HQ.out; omega
        · have hne : ¬ x = i := fun e => hxa e.symm
          go_wp2_with fail
          go_region
          all_goals
            go_wp2_with fail
            go_roundg (U + 2 - (i + 1))
            case rel => exact ⟨i + 1, _, Y, by go_num, by omega, by omega, rfl, HSW.out _, HP2.out, HBL.out _, HYL.out, HK2.out _⟩
            case measure => have := HQ.out; omega
      · have hgo : ¬ ((H : Int) ≤ (O : Int)) := by omega
        obtain ⟨x, hx⟩ : ∃ x, a + O = x := ⟨_, rfl⟩
        have ex : (a : Int) + (O : Int) = (x : Int) := by omega
        have wx : IntKind.i64.wrap (x : Int) = (x : Int) := IntWalk.i64_in _ (by omega)
        have c0 := HA.out.get i (by omega)
        have c1 := HA.out.get x (by omega)
        have d0 : (i : Int) < (n : Int) := by omega
        have d1 : (x : Int) < (n : Int) := by omega
        have HSW := Lib.hid (fun k => (HA.out.drewN k).swap (i := i) (j := x) (by omega) (by omega))
        have HP2 : Hid (Pm (a) (a + H) D (swp E (i) (x))) := Lib.hid (HP.out.trans (Pm.swap (by omega) (by omega)))
        have HK2 := Lib.hid (fun k => kept_put2 (kept_drewN HK.out k) (i) (x) (.int .u32 (E (x) : Int)) (.int .u32 (E (i) : Int)))
        have f0 := HA.out.free (i)
        have f1 := HA.out.free (x)
        have HBL : Hid (∀ k, Blk (((w2.drewN k).setCell ⟨g, i, none⟩ (.int .u32 (E x : Int))).setCell ⟨g, x, none⟩ (.int .u32 (E i : Int))) rb 115 [.int .u64 (Y : Int)]) := Lib.hid (fun k => (kept_put2 (Kept.refl (fun k => k = g) (w2.drewN k)) i x _ _).blk (show Blk (w2.drewN k) rb 115 [.int .u64 (Y : Int)] from HB.out) HNE.out)
        clear HB HA HK HP hx
        by_cases hxa : i = x
        · obtain rfl := hxa
          go_wp2_with fail
          go_region
          all_goals
            go_wp2_with fail
            go_roundg (U + 2 - (i + 1))
            case rel => exact ⟨i + 1, _, Y, by go_num, by omega, by omega, rfl, HSW.out _, HP2.out, HBL.out _, HYL.out, HK2.out _⟩
            case measure => have := HQ.out; omega
        · have hne : ¬ x = i := fun e => hxa e.symm
          go_wp2_with fail
          go_region
          all_goals
            go_wp2_with fail
            go_roundg (U + 2 - (i + 1))
            case rel => exact ⟨i + 1, _, Y, by go_num, by omega, by omega, rfl, HSW.out _, HP2.out, HBL.out _, HYL.out, HK2.out _⟩
            case measure => have := HQ.out; omega
    · have hg : ¬ ((i : Int) ≤ (U : Int) + 1) := by omega
      go_wp2_with fail
      go_end0
      exact ⟨rfl, E, HA.out, HP.out, trivial, HK.out⟩
end Go.Proofs.Ytmoagooabmmmgaa
