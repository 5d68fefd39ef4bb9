/-
  A row of 32-bit numbers that is sorted: partialInsertionSortOrdered.
-/
import Derived.Test.YtajccmkdfmpapaaGreatDoorSoC
namespace Go.Proofs.YtajccmkdfmpapaaGreatDoor
open Go.RowKit

theorem Srt.swap_out {a i x y : Nat} {D : Nat → Nat} (h : Srt a i D) (hx : i ≤ x) (hy : i ≤ y) : Srt a i (swp D x y) := fun p q h1 h2 h3 => by
  rw [swp_o (k := p) (by omega) (by omega), swp_o (k := q) (by omega) (by omega)]
  exact h p q h1 h2 h3
theorem InsI.swapped {a i : Nat} {D : Nat → Nat} (h : Srt a (i + 1) D) : InsI (swp D (i + 1) i) a i i := fun p q h1 h2 h3 h4 => by
  rw [swp_o (k := p) (by omega) (by omega), swp_o (k := q) (by omega) (by omega)]
  exact h p q h1 h2 (by omega)
def PInsTo (g n C a b : Nat) (D : Nat → Nat) (w : World) (r : Ending) (w' : World) : Prop := ∃ (E : Nat → Nat) (bo : Bool), r = .returned (.bool bo) ∧ Ar w' g n C E ∧ Pm a b D E ∧ (bo = true → Srt a b E) ∧ Kept (fun k => k = g) w w'
set_option maxHeartbeats 2500000 in
set_option maxRecDepth 100000 in
theorem soPIns_at (g n C cap a b : Nat) (D : Nat → Nat) (w : World) (h : Ar w g n C D) (hn : n ≤ 100000) (hc : n ≤ cap) (hb : b ≤ n) (hab : a < b) (hlo : Lo a b D) : Calls Tryz.prog 89 #[.slice (some ⟨g, 0, none⟩) n cap, .int .i64 (a : Int), .int .i64 (b : Int)] w (PInsTo g n C a b D w) := by
  have HA := Lib.hid h
  have HLO := Lib.hid hlo
  clear h hlo
  go_enter Tryz.func89, Tryz.ntmps89
  go_wp2_with fail
  go_loopg [7, 8] 5 (fun q x y wr => ∃ (i t : Nat) (E : Nat → Nat), x = .int .i64 (i : Int) ∧ y = .int .i64 (t : Int) ∧ a + 1 ≤ i ∧ i ≤ b ∧ t ≤ 5 ∧ q = 5 - t ∧ Ar wr g n C E ∧ Pm a b D E ∧ Srt a i E ∧ Kept (fun k => k = g) w wr)
  case atStart => exact ⟨a + 1, 0, D, by go_num, rfl, Nat.le_refl _, by omega, by omega, rfl, HA.out, Pm.refl _ _ _, Srt.one _ _, Kept.refl _ _⟩
  case round =>
    clear HA
    obtain ⟨i0, t0, E, rfl, rfl, hi1, hi2, ht, hq, hA, hP, hS, hK⟩ := hrel
    have HQ0 := Lib.hid hq
    have HS0 := Lib.hid hS
    clear hq hS
    have HA := Lib.hid hA
    have HP := Lib.hid hP
    have HK := Lib.hid hK
    clear hA hP hK
    by_cases ht5 : t0 < 5
    · have hg5 : (t0 : Int) < 5 := by omega
      go_wp2_with fail
      go_loopg [7] (b - i0) (fun q x w2 => ∃ i : Nat, x = .int .i64 (i : Int) ∧ a + 1 ≤ i ∧ i ≤ b ∧ q = b - i ∧ Ar w2 g n C E ∧ Srt a i E ∧ Kept (fun k => k = g) w w2)
      case atStart => exact ⟨i0, rfl, hi1, hi2, rfl, HA.out, HS0.out, HK.out⟩
      case round =>
        clear HA HK HS0
        obtain ⟨i, rfl, hi3, hi4, hq, hA, hS, hK⟩ := hrel
        have HQ1 := Lib.hid hq
        have HA := Lib.hid hA
        have HS := Lib.hid hS
        have HK := Lib.hid hK
        clear hq hA hS hK
        obtain ⟨I, rfl⟩ : ∃ I, i = I + 1 := ⟨i - 1, by omega⟩
        have e1 : ((I + 1 : Nat) : Int) = (I : Int) + 1 := by omega
        have e2 : (I : Int) + 1 - 1 = (I : Int) := by omega
        by_cases hib : I + 1 < b
        · have hg : (I : Int) + 1 < (b : Int) := by omega
          have c0 := HA.out.get (I + 1) (by omega)
          have c1 := HA.out.get I (by omega)
          have d0 : (I : Int) < (n : Int) := by omega
          have d1 : (I : Int) + 1 < (n : Int) := by omega
          have d2 : ((I : Int) + 1).toNat = I + 1 := by omega
          have d3 : (0 : Int) ≤ (I : Int) + 1 := by omega
          cases hd : decide (E (I + 1) < E I) with
          | false =>
            have HL := Lib.hid (fun w => soLess_is hd w)
            have HS2 : Hid (Srt a (I + 1 + 1) E) := Lib.hid (fun p q h1 h2 h3 => by
              have h5 : ¬ E (I + 1) < E I := by simpa using hd
              by_cases hq : q = I + 1
              · rw [hq]
                by_cases hp : p = I
                · rw [hp]
                  omega
                · exact Nat.le_trans (HS.out p I h1 (by omega) (by omega)) (by omega)
              · exact HS.out p q h1 h2 (by omega))
            clear hd HS
            go_wp2_with fail
            go_quiet (first | (go_at_call 90; first | exact Calls.quiet_of_same (HL.out _) | exact (HL.out _).mono fun _ _ h => ⟨h.1, _, h.2⟩))
            go_wp2_with fail
            go_roundg (b - (I + 1 + 1))
            case rel => exact ⟨I + 1 + 1, by go_num, by omega, by omega, rfl, HA.out.drewN _, HS2.out, kept_drewN HK.out _⟩
            case measure => have := HQ1.out; omega
          | true =>
            have HL := Lib.hid (fun w => soLess_is hd w)
            have qib : ((I : Int) + 1 == (b : Int)) = false := by simp; omega
            clear hd
            by_cases h50 : b - a < 50
            · have hg50 : (b : Int) - (a : Int) < 50 := by omega
              go_wp2_with fail
              go_quiet (first | (go_at_call 90; first | exact Calls.quiet_of_same (HL.out _) | exact (HL.out _).mono fun _ _ h => ⟨h.1, _, h.2⟩))
              go_wp2_with fail
              go_ret
              exact ⟨E, false, rfl, HA.out.drewN _, HP.out, fun h => (by cases h), kept_drewN HK.out _⟩
            · have hg50 : ¬ ((b : Int) - (a : Int) < 50) := by omega
              have HSW := Lib.hid (fun k => (HA.out.drewN k).swap (i := I + 1) (j := I) (by omega) (by omega))
              have HP2 : Hid (Pm (a) (b) D (swp E (I + 1) (I))) := Lib.hid (HP.out.trans (Pm.swap (by omega) (by omega)))
              have HK2 := Lib.hid (fun k => kept_put2 (kept_drewN HK.out k) (I + 1) (I) (.int .u32 (E (I) : Int)) (.int .u32 (E (I + 1) : Int)))
              have f0 := HA.out.free (I + 1)
              have f1 := HA.out.free (I)
              have HIN : Hid (InsI (swp E (I + 1) I) a I I) := Lib.hid (InsI.swapped HS.out)
              go_wp2_with fail
              go_quiet (first | (go_at_call 90; first | exact Calls.quiet_of_same (HL.out _) | exact (HL.out _).mono fun _ _ h => ⟨h.1, _, h.2⟩))
              go_wp2_with fail
              go_region
              clear f0 f1 HA HL c0 c1 d0 d1 d2 d3 HK HP HS
              obtain ⟨E2, hE2⟩ : ∃ E2, swp E (I + 1) I = E2 := ⟨_, rfl⟩
              rw [hE2] at HSW HP2 HIN
              clear hE2
              by_cases hl : 2 ≤ I + 1 - a
              · have hgl : (2 : Int) ≤ (I : Int) + 1 - (a : Int) := by omega
                go_wp2_with fail
                go_loopg [9] I (fun q y w3 => ∃ (j : Nat) (F : Nat → Nat), y = .int .i64 (j : Int) ∧ a ≤ j ∧ j ≤ I ∧ q = j ∧ Ar w3 g n C F ∧ Pm a b D F ∧ InsI F a I j ∧ Kept (fun k => k = g) w w3)
                case atStart => exact ⟨I, E2, by go_num, by omega, Nat.le_refl _, rfl, HSW.out _, HP2.out, HIN.out, HK2.out _⟩
                case round =>
                  clear HSW HP2 HK2 HIN
                  obtain ⟨j, F, rfl, hj1, hj2, hq, hA, hP, hI, hK⟩ := hrel
                  have HQ2 := Lib.hid hq
                  have HI := Lib.hid hI
                  clear hq hI
                  have HA := Lib.hid hA
                  have HP := Lib.hid hP
                  have HK := Lib.hid hK
                  clear hA hP hK
                  by_cases hj : 1 ≤ j
                  · obtain ⟨t, rfl⟩ : ∃ t, j = t + 1 := ⟨j - 1, by omega⟩
                    have e3 : ((t + 1 : Nat) : Int) = (t : Int) + 1 := by omega
                    have e4 : (t : Int) + 1 - 1 = (t : Int) := by omega
                    have hgj : (1 : Int) ≤ (t : Int) + 1 := by omega
                    have c0 := HA.out.get (t + 1) (by omega)
                    have c1 := HA.out.get t (by omega)
                    have d0 : (t : Int) < (n : Int) := by omega
                    have d1 : (t : Int) + 1 < (n : Int) := by omega
                    have d2 : ((t : Int) + 1).toNat = t + 1 := by omega
                    have d3 : (0 : Int) ≤ (t : Int) + 1 := by omega
                    cases hd : decide (F (t + 1) < F t) with
                    | true =>
                      have HL := Lib.hid (fun w => soLess_is hd w)
                      have haj : a < t + 1 := by
                        apply Classical.byContradiction
                        intro hn2
                        have ha : a = t + 1 := by omega
                        rcases HP.out.lo HLO.out with h0 | h0
                        · omega
                        · have h6 := h0 a (Nat.le_refl _) hab
                          have h5 : F (t + 1) < F t := by simpa using hd
                          rw [ha, Nat.add_sub_cancel] at h6
                          omega
                      have HI2 : Hid (InsI (swp F (t + 1) t) a I t) := Lib.hid (by have := HI.out.step haj hj2 (by simpa using hd); simpa using this)
                      have HSW := Lib.hid (fun k => (HA.out.drewN k).swap (i := t + 1) (j := t) (by omega) (by omega))
                      have HP2 : Hid (Pm (a) (b) D (swp F (t + 1) (t))) := Lib.hid (HP.out.trans (Pm.swap (by omega) (by omega)))
                      have HK2 := Lib.hid (fun k => kept_put2 (kept_drewN HK.out k) (t + 1) (t) (.int .u32 (F (t) : Int)) (.int .u32 (F (t + 1) : Int)))
                      have f0 := HA.out.free (t + 1)
                      have f1 := HA.out.free (t)
                      clear hd HI HP HK HA
                      go_wp2_with fail
                      go_quiet (first | (go_at_call 90; first | exact Calls.quiet_of_same (HL.out _) | exact (HL.out _).mono fun _ _ h => ⟨h.1, _, h.2⟩))
                      go_wp2_with fail
                      go_region
                      go_wp2_with fail
                      go_roundg t
                      case rel => exact ⟨t, _, by go_num, by omega, by omega, rfl, HSW.out _, HP2.out, HI2.out, HK2.out _⟩
                      case measure => have := HQ2.out; omega
                    | false =>
                      have HL := Lib.hid (fun w => soLess_is hd w)
                      have HS2 : Hid (Srt a (I + 1) F) := Lib.hid (HI.out.done hj1 (.inr (by have h5 : ¬ F (t + 1) < F t := (by simpa using hd); rw [Nat.add_sub_cancel]; omega)))
                      clear hd HI
                      go_wp2_with fail
                      go_quiet (first | (go_at_call 90; first | exact Calls.quiet_of_same (HL.out _) | exact (HL.out _).mono fun _ _ h => ⟨h.1, _, h.2⟩))
                      clear c0 c1 d0 d1 d2 d3 HL
                      by_cases hr : 2 ≤ b - (I + 1)
                      · have hgr : (2 : Int) ≤ (b : Int) - ((I : Int) + 1) := by omega
                        go_wp2_with fail
                        go_loopg [10] (b - (I + 2)) (fun q y w4 => ∃ (j : Nat) (G : Nat → Nat), y = .int .i64 (j : Int) ∧ I + 2 ≤ j ∧ j ≤ b ∧ q = b - j ∧ Ar w4 g n C G ∧ Pm a b D G ∧ Srt a (I + 1) G ∧ Kept (fun k => k = g) w w4)
                        case atStart => exact ⟨I + 2, F, by go_num, Nat.le_refl _, by omega, rfl, HA.out.drewN _, HP.out, HS2.out, kept_drewN HK.out _⟩
                        case round =>
                          clear HA HP HK HS2
                          obtain ⟨j, G, rfl, hj1, hj2, hq, hA, hP, hS, hK⟩ := hrel
                          have HQ2 := Lib.hid hq
                          have HS := Lib.hid hS
                          clear hq hS
                          have HA := Lib.hid hA
                          have HP := Lib.hid hP
                          have HK := Lib.hid hK
                          clear hA hP hK
                          by_cases hlt : j < b
                          · obtain ⟨t, rfl⟩ : ∃ t, j = t + 1 := ⟨j - 1, by omega⟩
                            have e3 : ((t + 1 : Nat) : Int) = (t : Int) + 1 := by omega
                            have e4 : (t : Int) + 1 - 1 = (t : Int) := by omega
                            have hg2 : (t : Int) + 1 < (b : Int) := by omega
                            have c0 := HA.out.get (t + 1) (by omega)
                            have c1 := HA.out.get t (by omega)
                            have d0 : (t : Int) < (n : Int) := by omega
                            have d1 : (t : Int) + 1 < (n : Int) := by omega
                            have d2 : ((t : Int) + 1).toNat = t + 1 := by omega
                            have d3 : (0 : Int) ≤ (t : Int) + 1 := by omega
                            cases hd : decide (G (t + 1) < G t) with
                            | true =>
                              have HL := Lib.hid (fun w => soLess_is hd w)
                              have HS3 : Hid (Srt a (I + 1) (swp G (t + 1) t)) := Lib.hid (HS.out.swap_out (by omega) (by omega))
                              have HSW := Lib.hid (fun k => (HA.out.drewN k).swap (i := t + 1) (j := t) (by omega) (by omega))
                              have HP2 : Hid (Pm (a) (b) D (swp G (t + 1) (t))) := Lib.hid (HP.out.trans (Pm.swap (by omega) (by omega)))
                              have HK2 := Lib.hid (fun k => kept_put2 (kept_drewN HK.out k) (t + 1) (t) (.int .u32 (G (t) : Int)) (.int .u32 (G (t + 1) : Int)))
                              have f0 := HA.out.free (t + 1)
                              have f1 := HA.out.free (t)
                              clear hd HS HP HK HA
                              go_wp2_with fail
                              go_quiet (first | (go_at_call 90; first | exact Calls.quiet_of_same (HL.out _) | exact (HL.out _).mono fun _ _ h => ⟨h.1, _, h.2⟩))
                              go_wp2_with fail
                              go_region
                              go_wp2_with fail
                              go_roundg (b - (t + 1 + 1))
                              case rel => exact ⟨t + 1 + 1, _, by go_num, by omega, by omega, rfl, HSW.out _, HP2.out, HS3.out, HK2.out _⟩
                              case measure => have := HQ2.out; omega
                            | false =>
                              have HL := Lib.hid (fun w => soLess_is hd w)
                              clear hd
                              go_wp2_with fail
                              go_quiet (first | (go_at_call 90; first | exact Calls.quiet_of_same (HL.out _) | exact (HL.out _).mono fun _ _ h => ⟨h.1, _, h.2⟩))
                              go_wp2_with fail
                              go_roundg (5 - (t0 + 1))
                              case rel => exact ⟨I + 1, t0 + 1, G, by go_num, by go_num, by omega, by omega, by omega, rfl, HA.out.drewN _, HP.out, HS.out, kept_drewN HK.out _⟩
                              case measure => have := HQ0.out; omega
                          · have hg2 : ¬ ((j : Int) < (b : Int)) := by omega
                            go_wp2_with fail
                            go_roundg (5 - (t0 + 1))
                            case rel => exact ⟨I + 1, t0 + 1, G, by go_num, by go_num, by omega, by omega, by omega, rfl, HA.out, HP.out, HS.out, HK.out⟩
                            case measure => have := HQ0.out; omega
                      · have hgr : ¬ ((2 : Int) ≤ (b : Int) - ((I : Int) + 1)) := by omega
                        go_wp2_with fail
                        go_roundg (5 - (t0 + 1))
                        case rel => exact ⟨I + 1, t0 + 1, F, by go_num, by go_num, by omega, by omega, by omega, rfl, HA.out.drewN _, HP.out, HS2.out, kept_drewN HK.out _⟩
                        case measure => have := HQ0.out; omega
                  · have hgj : ¬ ((1 : Int) ≤ (j : Int)) := by omega
                    have HS2 : Hid (Srt a (I + 1) F) := Lib.hid (HI.out.done hj1 (.inl (by omega)))
                    clear HI
                    by_cases hr : 2 ≤ b - (I + 1)
                    · have hgr : (2 : Int) ≤ (b : Int) - ((I : Int) + 1) := by omega
                      go_wp2_with fail
                      go_loopg [10] (b - (I + 2)) (fun q y w4 => ∃ (j : Nat) (G : Nat → Nat), y = .int .i64 (j : Int) ∧ I + 2 ≤ j ∧ j ≤ b ∧ q = b - j ∧ Ar w4 g n C G ∧ Pm a b D G ∧ Srt a (I + 1) G ∧ Kept (fun k => k = g) w w4)
                      case atStart => exact ⟨I + 2, F, by go_num, Nat.le_refl _, by omega, rfl, HA.out, HP.out, HS2.out, HK.out⟩
                      case round =>
                        clear HA HP HK HS2
                        obtain ⟨j, G, rfl, hj1, hj2, hq, hA, hP, hS, hK⟩ := hrel
                        have HQ2 := Lib.hid hq
                        have HS := Lib.hid hS
                        clear hq hS
                        have HA := Lib.hid hA
                        have HP := Lib.hid hP
                        have HK := Lib.hid hK
                        clear hA hP hK
                        by_cases hlt : j < b
                        · obtain ⟨t, rfl⟩ : ∃ t, j = t + 1 := ⟨j - 1, by omega⟩
                          have e3 : ((t + 1 : Nat) : Int) = (t : Int) + 1 := by omega
                          have e4 : (t : Int) + 1 - 1 = (t : Int) := by omega
                          have hg2 : (t : Int) + 1 < (b : Int) := by omega
                          have c0 := HA.out.get (t + 1) (by omega)
                          have c1 := HA.out.get t (by omega)
                          have d0 : (t : Int) < (n : Int) := by omega
                          have d1 : (t : Int) + 1 < (n : Int) := by omega
                          have d2 : ((t : Int) + 1).toNat = t + 1 := by omega
                          have d3 : (0 : Int) ≤ (t : Int) + 1 := by omega
                          cases hd : decide (G (t + 1) < G t) with
                          | true =>
                            have HL := Lib.hid (fun w => soLess_is hd w)
                            have HS3 : Hid (Srt a (I + 1) (swp G (t + 1) t)) := Lib.hid (HS.out.swap_out (by omega) (by omega))
                            have HSW := Lib.hid (fun k => (HA.out.drewN k).swap (i := t + 1) (j := t) (by omega) (by omega))
                            have HP2 : Hid (Pm (a) (b) D (swp G (t + 1) (t))) := Lib.hid (HP.out.trans (Pm.swap (by omega) (by omega)))
                            have HK2 := Lib.hid (fun k => kept_put2 (kept_drewN HK.out k) (t + 1) (t) (.int .u32 (G (t) : Int)) (.int .u32 (G (t + 1) : Int)))
                            have f0 := HA.out.free (t + 1)
                            have f1 := HA.out.free (t)
                            clear hd HS HP HK HA
                            go_wp2_with fail
                            go_quiet (first | (go_at_call 90; first | exact Calls.quiet_of_same (HL.out _) | exact (HL.out _).mono fun _ _ h => ⟨h.1, _, h.2⟩))
                            go_wp2_with fail
                            go_region
                            go_wp2_with fail
                            go_roundg (b - (t + 1 + 1))
                            case rel => exact ⟨t + 1 + 1, _, by go_num, by omega, by omega, rfl, HSW.out _, HP2.out, HS3.out, HK2.out _⟩
                            case measure => have := HQ2.out; omega
                          | false =>
                            have HL := Lib.hid (fun w => soLess_is hd w)
                            clear hd
                            go_wp2_with fail
                            go_quiet (first | (go_at_call 90; first | exact Calls.quiet_of_same (HL.out _) | exact (HL.out _).mono fun _ _ h => ⟨h.1, _, h.2⟩))
                            go_wp2_with fail
                            go_roundg (5 - (t0 + 1))
                            case rel => exact ⟨I + 1, t0 + 1, G, by go_num, by go_num, by omega, by omega, by omega, rfl, HA.out.drewN _, HP.out, HS.out, kept_drewN HK.out _⟩
                            case measure => have := HQ0.out; omega
                        · have hg2 : ¬ ((j : Int) < (b : Int)) := by omega
                          go_wp2_with fail
                          go_roundg (5 - (t0 + 1))
                          case rel => exact ⟨I + 1, t0 + 1, G, by go_num, by go_num, by omega, by omega, by omega, rfl, HA.out, HP.out, HS.out, HK.out⟩
                          case measure => have := HQ0.out; omega
                    · have hgr : ¬ ((2 : Int) ≤ (b : Int) - ((I : Int) + 1)) := by omega
                      go_wp2_with fail
                      go_roundg (5 - (t0 + 1))
                      case rel => exact ⟨I + 1, t0 + 1, F, by go_num, by go_num, by omega, by omega, by omega, rfl, HA.out, HP.out, HS2.out, HK.out⟩
                      case measure => have := HQ0.out; omega
              · have hgl : ¬ ((2 : Int) ≤ (I : Int) + 1 - (a : Int)) := by omega
                have HS2 : Hid (Srt a (I + 1) E2) := Lib.hid (by have : I = a := (by omega); rw [this]; exact Srt.one _ _)
                have HP := Lib.hid HP2.out
                clear HP2
                by_cases hr : 2 ≤ b - (I + 1)
                · have hgr : (2 : Int) ≤ (b : Int) - ((I : Int) + 1) := by omega
                  go_wp2_with fail
                  go_loopg [10] (b - (I + 2)) (fun q y w4 => ∃ (j : Nat) (G : Nat → Nat), y = .int .i64 (j : Int) ∧ I + 2 ≤ j ∧ j ≤ b ∧ q = b - j ∧ Ar w4 g n C G ∧ Pm a b D G ∧ Srt a (I + 1) G ∧ Kept (fun k => k = g) w w4)
                  case atStart => exact ⟨I + 2, E2, by go_num, Nat.le_refl _, by omega, rfl, HSW.out _, HP.out, HS2.out, HK2.out _⟩
                  case round =>
                    clear HSW HP HK2 HS2
                    obtain ⟨j, G, rfl, hj1, hj2, hq, hA, hP, hS, hK⟩ := hrel
                    have HQ2 := Lib.hid hq
                    have HS := Lib.hid hS
                    clear hq hS
                    have HA := Lib.hid hA
                    have HP := Lib.hid hP
                    have HK := Lib.hid hK
                    clear hA hP hK
                    by_cases hlt : j < b
                    · obtain ⟨t, rfl⟩ : ∃ t, j = t + 1 := ⟨j - 1, by omega⟩
                      have e3 : ((t + 1 : Nat) : Int) = (t : Int) + 1 := by omega
                      have e4 : (t : Int) + 1 - 1 = (t : Int) := by omega
                      have hg2 : (t : Int) + 1 < (b : Int) := by omega
                      have c0 := HA.out.get (t + 1) (by omega)
                      have c1 := HA.out.get t (by omega)
                      have d0 : (t : Int) < (n : Int) := by omega
                      have d1 : (t : Int) + 1 < (n : Int) := by omega
                      have d2 : ((t : Int) + 1).toNat = t + 1 := by omega
                      have d3 : (0 : Int) ≤ (t : Int) + 1 := by omega
                      cases hd : decide (G (t + 1) < G t) with
                      | true =>
                        have HL := Lib.hid (fun w => soLess_is hd w)
                        have HS3 : Hid (Srt a (I + 1) (swp G (t + 1) t)) := Lib.hid (HS.out.swap_out (by omega) (by omega))
                        have HSW := Lib.hid (fun k => (HA.out.drewN k).swap (i := t + 1) (j := t) (by omega) (by omega))
                        have HP2 : Hid (Pm (a) (b) D (swp G (t + 1) (t))) := Lib.hid (HP.out.trans (Pm.swap (by omega) (by omega)))
                        have HK2 := Lib.hid (fun k => kept_put2 (kept_drewN HK.out k) (t + 1) (t) (.int .u32 (G (t) : Int)) (.int .u32 (G (t + 1) : Int)))
                        have f0 := HA.out.free (t + 1)
                        have f1 := HA.out.free (t)
                        clear hd HS HP HK HA
                        go_wp2_with fail
                        go_quiet (first | (go_at_call 90; first | exact Calls.quiet_of_same (HL.out _) | exact (HL.out _).mono fun _ _ h => ⟨h.1, _, h.2⟩))
                        go_wp2_with fail
                        go_region
                        go_wp2_with fail
                        go_roundg (b - (t + 1 + 1))
                        case rel => exact ⟨t + 1 + 1, _, by go_num, by omega, by omega, rfl, HSW.out _, HP2.out, HS3.out, HK2.out _⟩
                        case measure => have := HQ2.out; omega
                      | false =>
                        have HL := Lib.hid (fun w => soLess_is hd w)
                        clear hd
                        go_wp2_with fail
                        go_quiet (first | (go_at_call 90; first | exact Calls.quiet_of_same (HL.out _) | exact (HL.out _).mono fun _ _ h => ⟨h.1, _, h.2⟩))
                        go_wp2_with fail
                        go_roundg (5 - (t0 + 1))
                        case rel => exact ⟨I + 1, t0 + 1, G, by go_num, by go_num, by omega, by omega, by omega, rfl, HA.out.drewN _, HP.out, HS.out, kept_drewN HK.out _⟩
                        case measure => have := HQ0.out; omega
                    · have hg2 : ¬ ((j : Int) < (b : Int)) := by omega
                      go_wp2_with fail
                      go_roundg (5 - (t0 + 1))
                      case rel => exact ⟨I + 1, t0 + 1, G, by go_num, by go_num, by omega, by omega, by omega, rfl, HA.out, HP.out, HS.out, HK.out⟩
                      case measure => have := HQ0.out; omega
                · have hgr : ¬ ((2 : Int) ≤ (b : Int) - ((I : Int) + 1)) := by omega
                  go_wp2_with fail
                  go_roundg (5 - (t0 + 1))
                  case rel => exact ⟨I + 1, t0 + 1, E2, by go_num, by go_num, by omega, by omega, by omega, rfl, HSW.out _, HP.out, HS2.out, HK2.out _⟩
                  case measure => have := HQ0.out; omega
        · have hg : decide ((I : Int) + 1 < (b : Int)) = false := by simp; omega
          have HS2 : Hid (Srt a b E) := Lib.hid (by have : b = I + 1 := (by omega); rw [this]; exact HS.out)
          have qib : ((I : Int) + 1 == (b : Int)) = true := by simp; omega
          go_wp2_with fail
          go_quiet (fail)
          go_wp2_with fail
          go_ret
          exact ⟨E, true, rfl, HA.out.drewN _, HP.out, fun _ => HS2.out, kept_drewN HK.out _⟩
    · have hg5 : ¬ ((t0 : Int) < 5) := by omega
      go_wp2_with fail
      go_ret
      exact ⟨E, false, rfl, HA.out, HP.out, fun h => (by cases h), HK.out⟩
end Go.Proofs.YtajccmkdfmpapaaGreatDoor
