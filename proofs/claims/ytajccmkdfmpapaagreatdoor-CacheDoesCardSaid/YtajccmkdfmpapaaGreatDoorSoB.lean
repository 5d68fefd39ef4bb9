/-
  A row of 32-bit numbers that is sorted: reverseRangeOrdered, siftDownOrdered, heapSortOrdered.
-/
import Derived.Test.YtajccmkdfmpapaaGreatDoorZmM
namespace Go.Proofs.YtajccmkdfmpapaaGreatDoor
open Go.RowKit

set_option maxHeartbeats 1000000 in
theorem soRev_at (g n C cap a b : Nat) (D : Nat → Nat) (w : World) (h : Ar w g n C D) (hn : n ≤ 100000) (hc : n ≤ cap) (hb : b ≤ n) (hab : a < b) : Calls Tryz.prog 88 #[.slice (some ⟨g, 0, none⟩) n cap, .int .i64 (a : Int), .int .i64 (b : Int)] w (fun r w' => r = .returned (.tuple #[]) ∧ SoTo g n C (a) (b) D (fun _ => True) w w') := by
  have HA := Lib.hid h
  clear h
  obtain ⟨B, rfl⟩ : ∃ B, b = B + 1 := ⟨b - 1, by omega⟩
  have e1 : ((B + 1 : Nat) : Int) = (B : Int) + 1 := by omega
  have e2 : (B : Int) + 1 - 1 = (B : Int) := by omega
  go_enter Tryz.func88, Tryz.ntmps88
  go_wp2_with fail
  go_loopg [6, 7] (B + 1 - a) (fun q x y wr => ∃ (i j : Nat) (E : Nat → Nat), x = .int .i64 (i : Int) ∧ y = .int .i64 (j : Int) ∧ a ≤ i ∧ j ≤ B ∧ q = j + 1 - i ∧ Ar wr g n C E ∧ Pm a (B + 1) D E ∧ Kept (fun k => k = g) w wr)
  case atStart => exact ⟨a, B, D, rfl, by go_num, Nat.le_refl _, Nat.le_refl _, by omega, HA.out, Pm.refl _ _ _, Kept.refl _ _⟩
  case round =>
    clear HA
    obtain ⟨i, j, E, rfl, rfl, hi, hj, hq, hA, hP, hK⟩ := hrel
    have HQ := Lib.hid hq
    have HA := Lib.hid hA
    have HP := Lib.hid hP
    have HK := Lib.hid hK
    clear hq hA hP hK
    by_cases hlt : i < j
    · obtain ⟨t, rfl⟩ : ∃ t, j = t + 1 := ⟨j - 1, by omega⟩
      have e3 : ((t + 1 : Nat) : Int) = (t : Int) + 1 := by omega
      have e4 : (t : Int) + 1 - 1 = (t : Int) := by omega
      have c0 := HA.out.get i (by omega)
      have c1 := HA.out.get (t + 1) (by omega)
      have d0 : (i : Int) < (n : Int) := by omega
      have d1 : (t : Int) + 1 < (n : Int) := by omega
      have d2 : (i : Int) < (t : Int) + 1 := by omega
      have HSW := Lib.hid (fun k => (HA.out.drewN k).swap (i := i) (j := t + 1) (by omega) (by omega))
      have HP2 : Hid (Pm (a) (B + 1) D (swp E (i) (t + 1))) := Lib.hid (HP.out.trans (Pm.swap (by omega) (by omega)))
      have HK2 := Lib.hid (fun k => kept_put2 (kept_drewN HK.out k) (i) (t + 1) (.int .u32 (E (t + 1) : Int)) (.int .u32 (E (i) : Int)))
      have f0 := HA.out.free (i)
      have f1 := HA.out.free (t + 1)
      clear HA HP HK
      go_wp2_with fail
      go_region
      go_wp2_with fail
      go_roundg (t + 1 - (i + 1))
      case rel => exact ⟨i + 1, t, _, by go_num, by go_num, by omega, by omega, rfl, HSW.out 1, HP2.out, HK2.out 1⟩
      case measure => have := HQ.out; omega
    · go_wp2_with fail
      go_end0
      exact ⟨rfl, E, HA.out, HP.out, trivial, HK.out⟩
set_option maxHeartbeats 1000000 in
theorem soSift_at (g n C cap lo hi f : Nat) (D : Nat → Nat) (w : World) (h : Ar w g n C D) (hn : n ≤ 100000) (hc : n ≤ cap) (hfn : f + hi ≤ n) (hlo : lo ≤ 100000) (hh : Hp D f (lo + 1) hi) : Calls Tryz.prog 95 #[.slice (some ⟨g, 0, none⟩) n cap, .int .i64 (lo : Int), .int .i64 (hi : Int), .int .i64 (f : Int)] w (fun r w' => r = .returned (.tuple #[]) ∧ SoTo g n C (f + lo) (f + hi) D (fun E => Hp E f lo hi) w w') := by
  have HA := Lib.hid h
  clear h
  have HH := Lib.hid hh.sift
  clear hh
  go_enter Tryz.func95, Tryz.ntmps95
  go_wp2_with fail
  go_loopg [8] (hi - lo) (fun q x wr => ∃ (r : Nat) (E : Nat → Nat), x = .int .i64 (r : Int) ∧ lo ≤ r ∧ r ≤ 100000 ∧ q = hi - r ∧ Ar wr g n C E ∧ Pm (f + lo) (f + hi) D E ∧ Sft E f lo hi r ∧ Kept (fun k => k = g) w wr)
  case atStart => exact ⟨lo, D, rfl, Nat.le_refl _, hlo, rfl, HA.out, Pm.refl _ _ _, HH.out, Kept.refl _ _⟩
  case round =>
    clear HA HH
    obtain ⟨r, E, rfl, hr, hrl, hq, hA, hP, hS, hK⟩ := hrel
    have HQ := Lib.hid hq
    have HA := Lib.hid hA
    have HP := Lib.hid hP
    have HS := Lib.hid hS
    have HK := Lib.hid hK
    clear hq hA hP hS hK
    obtain ⟨k, hk⟩ : ∃ k, 2 * r + 1 = k := ⟨_, rfl⟩
    have ek : 2 * (r : Int) + 1 = (k : Int) := by omega
    by_cases hch : k < hi
    · obtain ⟨xr, hxr⟩ : ∃ x, f + r = x := ⟨_, rfl⟩
      obtain ⟨xk, hxk⟩ : ∃ x, f + k = x := ⟨_, rfl⟩
      have ex : (f : Int) + (r : Int) = (xr : Int) := by omega
      have ey : (f : Int) + (k : Int) = (xk : Int) := by omega
      have HX := Lib.hid (And.intro hxr hxk)
      have c0 := HA.out.get xr (by omega)
      have c1 := HA.out.get xk (by omega)
      have d0 : (xr : Int) < (n : Int) := by omega
      have d1 : (xk : Int) < (n : Int) := by omega
      have wr1 : IntKind.i64.wrap (xr : Int) = (xr : Int) := IntWalk.i64_in _ (by omega)
      have wr2 : IntKind.i64.wrap (xk : Int) = (xk : Int) := IntWalk.i64_in _ (by omega)
      have wr3 : IntKind.i64.wrap ((xk : Int) + 1) = (xk : Int) + 1 := IntWalk.i64_in _ (by omega)
      have d2 : (k : Int) < (hi : Int) := by omega
      by_cases hc2 : k + 1 < hi
      · have c2 := HA.out.get (xk + 1) (by omega)
        have d3 : (xk : Int) + 1 < (n : Int) := by omega
        have d5 : (0 : Int) ≤ (xk : Int) + 1 := by omega
        have d6 : ((xk : Int) + 1).toNat = xk + 1 := by omega
        have d4 : (k : Int) + 1 < (hi : Int) := by omega
        cases hd0 : decide (E xk < E (xk + 1)) with
        | true =>
          have HL0 := Lib.hid (fun w => soLess_is hd0 w)
          have ez : (f : Int) + ((k : Int) + 1) = (xk : Int) + 1 := by omega
          have HXC : Hid (f + (k + 1) = xk + 1) := Lib.hid (by omega)
          have HCH : Hid (∀ s, 1 ≤ s → s < hi → (s - 1) / 2 = r → E (f + s) ≤ E (xk + 1)) := Lib.hid (fun s h1 h2 h3 => by
            have h5 : E xk < E (xk + 1) := by simpa using hd0
            by_cases hs : s = k
            · subst hs
              rw [hxk]
              omega
            · rw [show f + s = xk + 1 by omega]
              exact Nat.le_refl _)
          clear hd0 hxr hxk
          go_wp2_with fail
          go_quiet (first | (go_at_call 90; exact Calls.quiet_of_same (HL0.out _)))
          cases hd : decide (E xr < E (xk + 1)) with
          | false =>
            have HL := Lib.hid (fun w => soLess_is hd w)
            have HQ2 : Hid (Hp E f lo hi) := Lib.hid (HS.out.done (fun s h1 h2 h3 => by have := HCH.out s h1 h2 h3; have h5 : ¬ E xr < E (xk + 1) := (by simpa using hd); rw [HX.out.1]; omega))
            clear hd
            go_wp2_with fail
            go_quiet (first | (go_at_call 90; first | exact Calls.quiet_of_same (HL.out _) | exact (HL.out _).mono fun _ _ h => ⟨h.1, _, h.2⟩))
            go_wp2_with fail
            try simp only [Exit.inBlock, Exit.then]
            refine bodyPost_ret (results_none rfl _ _ _) rfl ?_
            exact ⟨rfl, E, (HA.out.drewN _).drewN _, HP.out, HQ2.out, kept_drewN (kept_drewN HK.out _) _⟩
          | true =>
            have HL := Lib.hid (fun w => soLess_is hd w)
            have HSW := Lib.hid (fun k => (HA.out.drewN k).swap (i := xr) (j := (xk + 1)) (by omega) (by omega))
            have HP2 : Hid (Pm (f + lo) (f + hi) D (swp E (xr) ((xk + 1)))) := Lib.hid (HP.out.trans (Pm.swap (by omega) (by omega)))
            have HK2 := Lib.hid (fun k => kept_put2 (kept_drewN HK.out k) (xr) ((xk + 1)) (.int .u32 (E ((xk + 1)) : Int)) (.int .u32 (E (xr) : Int)))
            have f0 := HA.out.free (xr)
            have f1 := HA.out.free ((xk + 1))
            have HS2 : Hid (Sft (swp E xr (xk + 1)) f lo hi (k + 1)) := Lib.hid (by
              have := HS.out.step (c := (k + 1)) (by omega) (by omega) (by omega) (by rw [HX.out.1, HXC.out]; simpa using hd) (fun s h1 h2 h3 => by rw [HXC.out]; exact HCH.out s h2 h1 h3)
              rwa [HX.out.1, HXC.out] at this)
            clear hd HS HP HK HA HCH
            go_wp2_with fail
            go_quiet (first | (go_at_call 90; first | exact Calls.quiet_of_same (HL.out _) | exact (HL.out _).mono fun _ _ h => ⟨h.1, _, h.2⟩))
            go_wp2_with fail
            go_region
            go_wp2_with fail
            go_roundg (hi - (k + 1))
            case rel => exact ⟨(k + 1), _, by go_num, by omega, by omega, rfl, HSW.out _, HP2.out, HS2.out, HK2.out _⟩
            case measure => have := HQ.out; omega
        | false =>
          have HL0 := Lib.hid (fun w => soLess_is hd0 w)
          have HXC : Hid (f + k = xk) := Lib.hid hxk
          have HCH : Hid (∀ s, 1 ≤ s → s < hi → (s - 1) / 2 = r → E (f + s) ≤ E xk) := Lib.hid (fun s h1 h2 h3 => by
            have h5 : ¬ E xk < E (xk + 1) := by simpa using hd0
            by_cases hs : s = k
            · subst hs
              rw [hxk]
              exact Nat.le_refl _
            · rw [show f + s = xk + 1 by omega]
              omega)
          clear hd0 hxr hxk
          go_wp2_with fail
          go_quiet (first | (go_at_call 90; exact Calls.quiet_of_same (HL0.out _)))
          cases hd : decide (E xr < E xk) with
          | false =>
            have HL := Lib.hid (fun w => soLess_is hd w)
            have HQ2 : Hid (Hp E f lo hi) := Lib.hid (HS.out.done (fun s h1 h2 h3 => by have := HCH.out s h1 h2 h3; have h5 : ¬ E xr < E xk := (by simpa using hd); rw [HX.out.1]; omega))
            clear hd
            go_wp2_with fail
            go_quiet (first | (go_at_call 90; first | exact Calls.quiet_of_same (HL.out _) | exact (HL.out _).mono fun _ _ h => ⟨h.1, _, h.2⟩))
            go_wp2_with fail
            try simp only [Exit.inBlock, Exit.then]
            refine bodyPost_ret (results_none rfl _ _ _) rfl ?_
            exact ⟨rfl, E, (HA.out.drewN _).drewN _, HP.out, HQ2.out, kept_drewN (kept_drewN HK.out _) _⟩
          | true =>
            have HL := Lib.hid (fun w => soLess_is hd w)
            have HSW := Lib.hid (fun k => (HA.out.drewN k).swap (i := xr) (j := xk) (by omega) (by omega))
            have HP2 : Hid (Pm (f + lo) (f + hi) D (swp E (xr) (xk))) := Lib.hid (HP.out.trans (Pm.swap (by omega) (by omega)))
            have HK2 := Lib.hid (fun k => kept_put2 (kept_drewN HK.out k) (xr) (xk) (.int .u32 (E (xk) : Int)) (.int .u32 (E (xr) : Int)))
            have f0 := HA.out.free (xr)
            have f1 := HA.out.free (xk)
            have HS2 : Hid (Sft (swp E xr xk) f lo hi k) := Lib.hid (by
              have := HS.out.step (c := k) (by omega) (by omega) (by omega) (by rw [HX.out.1, HXC.out]; simpa using hd) (fun s h1 h2 h3 => by rw [HXC.out]; exact HCH.out s h2 h1 h3)
              rwa [HX.out.1, HXC.out] at this)
            clear hd HS HP HK HA HCH
            go_wp2_with fail
            go_quiet (first | (go_at_call 90; first | exact Calls.quiet_of_same (HL.out _) | exact (HL.out _).mono fun _ _ h => ⟨h.1, _, h.2⟩))
            go_wp2_with fail
            go_region
            go_wp2_with fail
            go_roundg (hi - k)
            case rel => exact ⟨k, _, by go_num, by omega, by omega, rfl, HSW.out _, HP2.out, HS2.out, HK2.out _⟩
            case measure => have := HQ.out; omega
      · have d4 : decide ((k : Int) + 1 < (hi : Int)) = false := by simp; omega
        have HXC : Hid (f + k = xk) := Lib.hid hxk
        have HCH : Hid (∀ s, 1 ≤ s → s < hi → (s - 1) / 2 = r → E (f + s) ≤ E xk) := Lib.hid (fun s h1 h2 h3 => by
          have hs : s = k := by omega
          subst hs
          rw [hxk]
          exact Nat.le_refl _)
        clear hxr hxk
        go_wp2_with fail
        go_quiet (fail)
        cases hd : decide (E xr < E xk) with
        | false =>
          have HL := Lib.hid (fun w => soLess_is hd w)
          have HQ2 : Hid (Hp E f lo hi) := Lib.hid (HS.out.done (fun s h1 h2 h3 => by have := HCH.out s h1 h2 h3; have h5 : ¬ E xr < E xk := (by simpa using hd); rw [HX.out.1]; omega))
          clear hd
          go_wp2_with fail
          go_quiet (first | (go_at_call 90; first | exact Calls.quiet_of_same (HL.out _) | exact (HL.out _).mono fun _ _ h => ⟨h.1, _, h.2⟩))
          go_wp2_with fail
          try simp only [Exit.inBlock, Exit.then]
          refine bodyPost_ret (results_none rfl _ _ _) rfl ?_
          exact ⟨rfl, E, (HA.out.drewN _).drewN _, HP.out, HQ2.out, kept_drewN (kept_drewN HK.out _) _⟩
        | true =>
          have HL := Lib.hid (fun w => soLess_is hd w)
          have HSW := Lib.hid (fun k => (HA.out.drewN k).swap (i := xr) (j := xk) (by omega) (by omega))
          have HP2 : Hid (Pm (f + lo) (f + hi) D (swp E (xr) (xk))) := Lib.hid (HP.out.trans (Pm.swap (by omega) (by omega)))
          have HK2 := Lib.hid (fun k => kept_put2 (kept_drewN HK.out k) (xr) (xk) (.int .u32 (E (xk) : Int)) (.int .u32 (E (xr) : Int)))
          have f0 := HA.out.free (xr)
          have f1 := HA.out.free (xk)
          have HS2 : Hid (Sft (swp E xr xk) f lo hi k) := Lib.hid (by
            have := HS.out.step (c := k) (by omega) (by omega) (by omega) (by rw [HX.out.1, HXC.out]; simpa using hd) (fun s h1 h2 h3 => by rw [HXC.out]; exact HCH.out s h2 h1 h3)
            rwa [HX.out.1, HXC.out] at this)
          clear hd HS HP HK HA HCH
          go_wp2_with fail
          go_quiet (first | (go_at_call 90; first | exact Calls.quiet_of_same (HL.out _) | exact (HL.out _).mono fun _ _ h => ⟨h.1, _, h.2⟩))
          go_wp2_with fail
          go_region
          go_wp2_with fail
          go_roundg (hi - k)
          case rel => exact ⟨k, _, by go_num, by omega, by omega, rfl, HSW.out _, HP2.out, HS2.out, HK2.out _⟩
          case measure => have := HQ.out; omega
    · have HQ2 : Hid (Hp E f lo hi) := Lib.hid (HS.out.done (fun s h1 h2 h3 => by omega))
      have d2 : ¬ ((k : Int) < (hi : Int)) := by omega
      go_wp2_with fail
      go_end0
      exact ⟨rfl, E, HA.out, HP.out, HQ2.out, HK.out⟩
set_option maxHeartbeats 1000000 in
theorem soHeap_at (g n C cap a H : Nat) (D : Nat → Nat) (w : World) (h : Ar w g n C D) (hn : n ≤ 100000) (hc : n ≤ cap) (hb : a + H ≤ n) (hab : 0 < H) : Calls Tryz.prog 85 #[.slice (some ⟨g, 0, none⟩) n cap, .int .i64 (a : Int), .int .i64 ((a + H : Nat) : Int)] w (fun r w' => r = .returned (.tuple #[]) ∧ SoTo g n C (a) (a + H) D (Srt a (a + H)) w w') := by
  have HA := Lib.hid h
  clear h
  have e1 : ((a + H : Nat) : Int) = (a : Int) + (H : Int) := by omega
  have e5 : (a : Int) + (H : Int) - (a : Int) = (H : Int) := by omega
  obtain ⟨M, hM⟩ : ∃ M : Nat, (H - 1) / 2 = M := ⟨_, rfl⟩
  have e2 : ((H : Int) - 1) / 2 = (M : Int) := by omega
  have wr0 : IntKind.i64.wrap (M : Int) = (M : Int) := IntWalk.i64_in _ (by omega)
  rw [e1]
  clear e1
  go_enter Tryz.func85, Tryz.ntmps85
  go_wp2_with fail
  rw [e2]
  go_loopg [9] (M + 1) (fun q x wr => ∃ (m : Nat) (E : Nat → Nat), x = .int .i64 ((m : Int) - 1) ∧ m ≤ M + 1 ∧ q = m ∧ Ar wr g n C E ∧ Pm a (a + H) D E ∧ Hp E a m H ∧ Kept (fun k => k = g) w wr)
  case atStart => exact ⟨M + 1, D, by go_num, Nat.le_refl _, rfl, HA.out, Pm.refl _ _ _, Hp.half (by omega), Kept.refl _ _⟩
  case round =>
    clear HA
    obtain ⟨m, E, rfl, hm, rfl, hA, hP, hS, hK⟩ := hrel
    have HA := Lib.hid hA
    have HP := Lib.hid hP
    have HS := Lib.hid hS
    have HK := Lib.hid hK
    clear hA hP hS hK
    by_cases hlt : 1 ≤ gk
    · obtain ⟨t, rfl⟩ : ∃ t, gk = t + 1 := ⟨gk - 1, by omega⟩
      have e3 : ((t + 1 : Nat) : Int) - 1 = (t : Int) := by omega
      have e4 : (t : Int) + 1 - 1 = (t : Int) := by omega
      have HC := Lib.hid (soSift_at g n C cap t H a E wr HA.out hn hc hb (by omega) HS.out)
      clear HS HA
      rw [e3]
      go_wp2_with fail
      refine HC.out.mono ?_
      rintro r w2 ⟨rfl, F, hA2, hP2, hS2, hK2⟩
      have HA2 := Lib.hid hA2
      have HP2 := Lib.hid (HP.out.trans (hP2.mono (by omega) (by omega)))
      have HS2 := Lib.hid hS2
      have HK2 := Lib.hid (HK.out.and hK2)
      clear hA2 hP2 hS2 hK2 HP HK
      go_wp2_with fail
      go_roundg t
      case rel => exact ⟨t, F, by go_num, by omega, rfl, HA2.out, HP2.out, HS2.out, HK2.out⟩
      case measure => omega
    · obtain rfl : gk = 0 := by omega
      have HST : Hid (HpS E a H H) := Lib.hid ⟨HS.out, fun p q h1 h2 h3 => by omega⟩
      clear HS
      go_wp2_with fail
      go_loopg [10] H (fun q x w2 => ∃ (m : Nat) (F : Nat → Nat), x = .int .i64 ((m : Int) - 1) ∧ m ≤ H ∧ q = m ∧ Ar w2 g n C F ∧ Pm a (a + H) D F ∧ HpS F a m H ∧ Kept (fun k => k = g) w w2)
      case atStart => exact ⟨H, E, by go_num, Nat.le_refl _, rfl, HA.out, HP.out, HST.out, HK.out⟩
      case round =>
        clear HA HP HST HK
        obtain ⟨m, F, rfl, hm, rfl, hA, hP, hS, hK⟩ := hrel
        have HA := Lib.hid hA
        have HP := Lib.hid hP
        have HS := Lib.hid hS
        have HK := Lib.hid hK
        clear hA hP hS hK
        by_cases hlt : 1 ≤ gk
        · obtain ⟨t, rfl⟩ : ∃ t, gk = t + 1 := ⟨gk - 1, by omega⟩
          have e3 : ((t + 1 : Nat) : Int) - 1 = (t : Int) := by omega
          have e4 : (t : Int) + 1 - 1 = (t : Int) := by omega
          obtain ⟨x, hx⟩ : ∃ x, a + t = x := ⟨_, rfl⟩
          have ex : (a : Int) + (t : Int) = (x : Int) := by omega
          have wr1 : IntKind.i64.wrap (x : Int) = (x : Int) := IntWalk.i64_in _ (by omega)
          have c0 := HA.out.get a (by omega)
          have c1 := HA.out.get x (by omega)
          have d0 : (a : Int) < (n : Int) := by omega
          have d1 : (x : Int) < (n : Int) := by omega
          have HSW := Lib.hid (fun k => (HA.out.drewN k).swap (i := a) (j := x) (by omega) (by omega))
          have HP2 : Hid (Pm (a) (a + H) D (swp F (a) (x))) := Lib.hid (HP.out.trans (Pm.swap (by omega) (by omega)))
          have HK2 := Lib.hid (fun k => kept_put2 (kept_drewN HK.out k) (a) (x) (.int .u32 (F (x) : Int)) (.int .u32 (F (a) : Int)))
          have f0 := HA.out.free (a)
          have f1 := HA.out.free (x)
          have HC := Lib.hid (fun k => soSift_at g n C cap 0 t a (swp F a x) _ (HSW.out k) hn hc (by omega) (by omega) (fun c h1 h2 h3 => by have := HS.out.swap.ok c h1 h2 (by omega) (by omega); rwa [hx] at this))
          have HN : Hid (∀ G, Pm a x (swp F a x) G → Hp G a 0 t → HpS G a t H) := Lib.hid (fun G h1 h2 => by
            rw [← hx] at h1
            exact HS.out.next h2 h1)
          have HX := Lib.hid hx
          by_cases hxa : x = a
          · subst hxa
            clear HS HA hx
            rw [e3]
            go_wp2_with fail
            go_region
            go_wp2_with fail
            refine (HC.out 1).mono ?_
            rintro r w3 ⟨rfl, G, hA2, hP3, hS2, hK3⟩
            rw [Nat.add_zero, HX.out] at hP3
            have HA2 := Lib.hid hA2
            have HP3 := Lib.hid (HP2.out.trans (hP3.mono (Nat.le_refl _) (by have := HX.out; omega)))
            have HS2 := Lib.hid (HN.out G hP3 hS2)
            have HK3 := Lib.hid ((HK2.out 1).and hK3)
            clear hA2 hP3 hS2 hK3 HP HK
            go_wp2_with fail
            go_roundg t
            case rel => exact ⟨t, G, by go_num, by omega, rfl, HA2.out, HP3.out, HS2.out, HK3.out⟩
            case measure => omega
          · have hne : ¬ a = x := fun e => hxa e.symm
            clear HS HA hx
            rw [e3]
            go_wp2_with fail
            go_region
            go_wp2_with fail
            refine (HC.out 1).mono ?_
            rintro r w3 ⟨rfl, G, hA2, hP3, hS2, hK3⟩
            rw [Nat.add_zero, HX.out] at hP3
            have HA2 := Lib.hid hA2
            have HP3 := Lib.hid (HP2.out.trans (hP3.mono (Nat.le_refl _) (by have := HX.out; omega)))
            have HS2 := Lib.hid (HN.out G hP3 hS2)
            have HK3 := Lib.hid ((HK2.out 1).and hK3)
            clear hA2 hP3 hS2 hK3 HP HK
            go_wp2_with fail
            go_roundg t
            case rel => exact ⟨t, G, by go_num, by omega, rfl, HA2.out, HP3.out, HS2.out, HK3.out⟩
            case measure => omega
        · obtain rfl : gk = 0 := by omega
          go_wp2_with fail
          go_end0
          exact ⟨rfl, F, HA.out, HP.out, HS.out.done, HK.out⟩
end Go.Proofs.YtajccmkdfmpapaaGreatDoor
