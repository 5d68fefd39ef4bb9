/-
  A row of 32-bit numbers that is sorted: partitionOrdered.
-/
import Derived.Test.YtajccmkdfmpapaaGreatDoorSoB
namespace Go.Proofs.YtajccmkdfmpapaaGreatDoor
open Go.RowKit

/-- What stands at mid parts the others. -/
def PartTo (g n C a b : Nat) (D : Nat → Nat) (w : World) (r : Ending) (w' : World) : Prop := ∃ (E : Nat → Nat) (m : Nat) (bo : Bool), r = .returned (.tuple #[.int .i64 (m : Int), .bool bo]) ∧ Ar w' g n C E ∧ Pm a b D E ∧ Part E a b m ∧ Kept (fun k => k = g) w w'
set_option maxHeartbeats 2000000 in
set_option maxRecDepth 100000 in
theorem soPart_at (g n C cap a b p : Nat) (D : Nat → Nat) (w : World) (h : Ar w g n C D) (hn : n ≤ 100000) (hc : n ≤ cap) (hb : b ≤ n) (hap : a ≤ p) (hpb : p < b) : Calls Tryz.prog 92 #[.slice (some ⟨g, 0, none⟩) n cap, .int .i64 (a : Int), .int .i64 (b : Int), .int .i64 (p : Int)] w (PartTo g n C a b D w) := by
  have HA := Lib.hid h
  have HP : Hid (Pm a b D D) := Lib.hid (Pm.refl _ _ _)
  have HK : Hid (Kept (fun k => k = g) w w) := Lib.hid (Kept.refl _ _)
  clear h
  obtain ⟨B, rfl⟩ : ∃ B, b = B + 1 := ⟨b - 1, by omega⟩
  have e1 : ((B + 1 : Nat) : Int) = (B : Int) + 1 := by omega
  rw [e1]
  clear e1
  have e2 : (B : Int) + 1 - 1 = (B : Int) := by omega
  have c0 := HA.out.get a (by omega)
  have c1 := HA.out.get p (by omega)
  have d0 : (a : Int) < (n : Int) := by omega
  have d1 : (p : Int) < (n : Int) := by omega
  have HSW := Lib.hid (fun k => (HA.out.drewN k).swap (i := a) (j := p) (by omega) (by omega))
  have HP2 : Hid (Pm (a) (B + 1) D (swp D (a) (p))) := Lib.hid (HP.out.trans (Pm.swap (by omega) (by omega)))
  have HK2 := Lib.hid (fun k => kept_put2 (kept_drewN HK.out k) (a) (p) (.int .u32 (D (p) : Int)) (.int .u32 (D (a) : Int)))
  have f0 := HA.out.free (a)
  have f1 := HA.out.free (p)
  have hfin : ∀ r w', PartTo g n C a (B + 1) D w r w' → PartTo g n C a (B + 1) D w r w' := fun _ _ h => h
  clear HP HK HA
  go_enter Tryz.func92, Tryz.ntmps92
  by_cases hpa : p = a
  · obtain rfl : a = p := hpa.symm
    go_wp2_with fail
    go_region
    go_wp2_with fail
    obtain ⟨E, hE⟩ : ∃ E, swp D a a = E := ⟨_, rfl⟩
    obtain ⟨w1, hw1⟩ : ∃ w1, ((w.drewN 1).setCell ⟨g, a, none⟩ (.int .u32 (D a : Int))).setCell ⟨g, a, none⟩ (.int .u32 (D a : Int)) = w1 := ⟨_, rfl⟩
    have HA : Hid (Ar w1 g n C E) := Lib.hid (by rw [← hw1, ← hE]; exact HSW.out 1)
    have HK : Hid (Kept (fun k => k = g) w w1) := Lib.hid (by rw [← hw1]; exact HK2.out 1)
    have HP : Hid (Pm a (B + 1) D E) := Lib.hid (by rw [← hE]; exact HP2.out)
    have hw2 : ((w.setCell ⟨g, a, none⟩ (.int .u32 (D a : Int))).setCell ⟨g, a, none⟩ (.int .u32 (D a : Int))).drew = w1 := hw1
    rw [hw2]
    obtain ⟨i0, hi0⟩ : ∃ i0, a + 1 = i0 := ⟨_, rfl⟩
    obtain ⟨j0, hj0⟩ : ∃ j0, B = j0 := ⟨_, rfl⟩
    have HPR : Hid (PrI E a (B + 1) i0 j0) := Lib.hid (by rw [← hi0, ← hj0]; exact PrI.start (by omega))
    have hi0' : ((a : Int) + 1) = (i0 : Int) := by omega
    rw [hi0', show (B : Int) = (j0 : Int) by omega]
    clear hw1 hw2 hE HSW HK2 HP2 c0 c1 f0 f1 hi0'
    go_loopg [10] (B + 2 - i0) (fun q x w2 => ∃ (i : Nat), x = .int .i64 (i : Int) ∧ i0 ≤ i ∧ q = B + 2 - i ∧ PrI E a (B + 1) i j0 ∧ Ar w2 g n C E ∧ Kept (fun k => k = g) w w2)
    case atStart => exact ⟨i0, by go_num, Nat.le_refl _, rfl, HPR.out, HA.out, HK.out⟩
    case round =>
      clear HPR HA HK
      obtain ⟨i, rfl, hii, hq, hpr, hA, hK⟩ := hrel
      have HQ1 := Lib.hid hq
      clear hq
      have HPR := Lib.hid hpr
      have HA := Lib.hid hA
      have HK := Lib.hid hK
      have hb1 := hpr.i1
      have hb2 := hpr.ij
      have hb3 := hpr.jb
      clear hpr hA hK
      by_cases hij : i ≤ j0
      · have hgd : (i : Int) ≤ (j0 : Int) := by omega
        have c0 := HA.out.get a (by omega)
        have c1 := HA.out.get i (by omega)
        have d0 : (a : Int) < (n : Int) := by omega
        have d1 : (i : Int) < (n : Int) := by omega
        cases hd : decide (E i < E a) with
        | true =>
          have HL := Lib.hid (fun w => soLess_is hd w)
          have HPR2 := Lib.hid (HPR.out.right hij (by simpa using hd))
          clear hd HPR
          go_wp2_with fail
          go_quiet (first | (go_at_call 90; first | exact Calls.quiet_of_same (HL.out _) | exact (HL.out _).mono fun _ _ h => ⟨h.1, _, h.2⟩))
          go_wp2_with fail
          go_roundg (B + 2 - (i + 1))
          case rel => exact ⟨i + 1, by go_num, by omega, rfl, HPR2.out, HA.out.drewN _, kept_drewN HK.out _⟩
          case measure => have := HQ1.out; omega
        | false =>
          have HL := Lib.hid (fun w => soLess_is hd w)
          have HD := Lib.hid hd
          clear hd
          go_wp2_with fail
          go_quiet (first | (go_at_call 90; first | exact Calls.quiet_of_same (HL.out _) | exact (HL.out _).mono fun _ _ h => ⟨h.1, _, h.2⟩))
          go_wp2_with fail
          clear c0 c1 d0 d1 hgd HL hb1 hb2 hb3 hij
          go_loopg [11] j0 (fun q y w3 => ∃ (j : Nat), y = .int .i64 (j : Int) ∧ q = j ∧ j ≤ j0 ∧ PrI E a (B + 1) i j ∧ Ar w3 g n C E ∧ Kept (fun k => k = g) w w3)
          case atStart => exact ⟨j0, rfl, rfl, Nat.le_refl _, HPR.out, HA.out.drewN _, kept_drewN HK.out _⟩
          case round =>
            clear HPR HA HK
            obtain ⟨j, rfl, hq, hjj, hpr, hA, hK⟩ := hrel
            have HQ2 := Lib.hid hq
            clear hq
            have HPR := Lib.hid hpr
            have HA := Lib.hid hA
            have HK := Lib.hid hK
            have hb1 := hpr.i1
            have hb2 := hpr.ij
            have hb3 := hpr.jb
            clear hpr hA hK
            by_cases hij : i ≤ j
            · have hgd : (i : Int) ≤ (j : Int) := by omega
              have c0 := HA.out.get a (by omega)
              have c1 := HA.out.get j (by omega)
              have d0 : (a : Int) < (n : Int) := by omega
              have d1 : (j : Int) < (n : Int) := by omega
              cases hd2 : decide (E j < E a) with
              | false =>
                have HL := Lib.hid (fun w => soLess_is hd2 w)
                have HPR2 := Lib.hid (HPR.out.left hij (by simpa using hd2))
                have e5 : (j : Int) - 1 = ((j - 1 : Nat) : Int) := by omega
                clear hd2 HPR
                go_wp2_with fail
                go_quiet (first | (go_at_call 90; first | exact Calls.quiet_of_same (HL.out _) | exact (HL.out _).mono fun _ _ h => ⟨h.1, _, h.2⟩))
                go_wp2_with fail
                go_roundg (j - 1)
                case rel => exact ⟨j - 1, by go_num, rfl, by omega, HPR2.out, HA.out.drewN _, kept_drewN HK.out _⟩
                case measure => have := HQ2.out; omega
              | true =>
                have HL := Lib.hid (fun w => soLess_is hd2 w)
                clear c0 c1 d0 d1
                have c0 := HA.out.get a (by omega)
                have c1 := HA.out.get j (by omega)
                have d0 : (a : Int) < (n : Int) := by omega
                have d1 : (j : Int) < (n : Int) := by omega
                go_wp2_with fail
                go_quiet (first | (go_at_call 90; first | exact Calls.quiet_of_same (HL.out _) | exact (HL.out _).mono fun _ _ h => ⟨h.1, _, h.2⟩))
                clear c0 c1 d0 d1 hgd
                have HB := Lib.hid (HPR.out.both hij (by have := HD.out; simpa using this) (by simpa using hd2))
                have hlt := HB.out.2
                obtain ⟨t, rfl⟩ : ∃ t, j = t + 1 := ⟨j - 1, by omega⟩
                have e3 : ((t + 1 : Nat) : Int) = (t : Int) + 1 := by omega
                have e4 : (t : Int) + 1 - 1 = (t : Int) := by omega
                have hg : ¬ ((t : Int) + 1 < (i : Int)) := by omega
                have HPR2 : Hid (PrI (swp E i (t + 1)) a (B + 1) (i + 1) t) := Lib.hid HB.out.1
                have c0 := HA.out.get i (by omega)
                have c1 := HA.out.get (t + 1) (by omega)
                have d0 : (i : Int) < (n : Int) := by omega
                have d1 : (t : Int) + 1 < (n : Int) := by omega
                have hne : ¬ i = t + 1 := by omega
                have HSW := Lib.hid (fun k => (HA.out.drewN k).swap (i := i) (j := t + 1) (by omega) (by omega))
                have HP2 : Hid (Pm (a) (B + 1) D (swp E (i) (t + 1))) := Lib.hid (HP.out.trans (Pm.swap (by omega) (by omega)))
                have HK2 := Lib.hid (fun k => kept_put2 (kept_drewN HK.out k) (i) (t + 1) (.int .u32 (E (t + 1) : Int)) (.int .u32 (E (i) : Int)))
                have f0 := HA.out.free (i)
                have f1 := HA.out.free (t + 1)
                clear HPR HA HP HK HB hd2 HD HL
                go_wp2_with fail
                go_region
                go_wp2_with fail
                show Code.wp Tryz.prog (Code.loop _) _ _ _
                have HE : Hid (PrI (swp E i (t + 1)) a (B + 1) (i + 1) t) := HPR2
                go_loopg [10, 11] (t + 1 - (i + 1)) (fun q x y w5 => ∃ (i j : Nat) (F : Nat → Nat), x = .int .i64 (i : Int) ∧ y = .int .i64 (j : Int) ∧ q = j + 1 - i ∧ PrI F a (B + 1) i j ∧ Ar w5 g n C F ∧ Pm a (B + 1) D F ∧ Kept (fun k => k = g) w w5)
                case atStart => exact ⟨i + 1, t, _, by go_num, by go_num, rfl, HE.out, HSW.out _, HP2.out, HK2.out _⟩
                case round =>
                  clear HE HPR2 HSW HP2 HK2 HQ1 HQ2 hlt hij
                  obtain ⟨i0, j0, F, rfl, rfl, hq, hpr, hA, hP, hK⟩ := hrel
                  have HQ0 := Lib.hid hq
                  have HP := Lib.hid hP
                  clear hq hP
                  have HPR := Lib.hid hpr
                  have HA := Lib.hid hA
                  have HK := Lib.hid hK
                  have hb1 := hpr.i1
                  have hb2 := hpr.ij
                  have hb3 := hpr.jb
                  clear hpr hA hK
                  go_wp2_with fail
                  go_loopg [10] (B + 2 - i0) (fun q x w2 => ∃ (i : Nat), x = .int .i64 (i : Int) ∧ i0 ≤ i ∧ q = B + 2 - i ∧ PrI F a (B + 1) i j0 ∧ Ar w2 g n C F ∧ Kept (fun k => k = g) w w2)
                  case atStart => exact ⟨i0, by go_num, Nat.le_refl _, rfl, HPR.out, HA.out, HK.out⟩
                  case round =>
                    clear HPR HA HK
                    obtain ⟨i, rfl, hii, hq, hpr, hA, hK⟩ := hrel
                    have HQ1 := Lib.hid hq
                    clear hq
                    have HPR := Lib.hid hpr
                    have HA := Lib.hid hA
                    have HK := Lib.hid hK
                    have hb1 := hpr.i1
                    have hb2 := hpr.ij
                    have hb3 := hpr.jb
                    clear hpr hA hK
                    by_cases hij : i ≤ j0
                    · have hgd : (i : Int) ≤ (j0 : Int) := by omega
                      have c0 := HA.out.get a (by omega)
                      have c1 := HA.out.get i (by omega)
                      have d0 : (a : Int) < (n : Int) := by omega
                      have d1 : (i : Int) < (n : Int) := by omega
                      cases hd : decide (F i < F a) with
                      | true =>
                        have HL := Lib.hid (fun w => soLess_is hd w)
                        have HPR2 := Lib.hid (HPR.out.right hij (by simpa using hd))
                        clear hd HPR
                        go_wp2_with fail
                        go_quiet (first | (go_at_call 90; first | exact Calls.quiet_of_same (HL.out _) | exact (HL.out _).mono fun _ _ h => ⟨h.1, _, h.2⟩))
                        go_wp2_with fail
                        go_roundg (B + 2 - (i + 1))
                        case rel => exact ⟨i + 1, by go_num, by omega, rfl, HPR2.out, HA.out.drewN _, kept_drewN HK.out _⟩
                        case measure => have := HQ1.out; omega
                      | false =>
                        have HL := Lib.hid (fun w => soLess_is hd w)
                        have HD := Lib.hid hd
                        clear hd
                        go_wp2_with fail
                        go_quiet (first | (go_at_call 90; first | exact Calls.quiet_of_same (HL.out _) | exact (HL.out _).mono fun _ _ h => ⟨h.1, _, h.2⟩))
                        go_wp2_with fail
                        clear c0 c1 d0 d1 hgd HL hb1 hb2 hb3 hij
                        go_loopg [11] j0 (fun q y w3 => ∃ (j : Nat), y = .int .i64 (j : Int) ∧ q = j ∧ j ≤ j0 ∧ PrI F a (B + 1) i j ∧ Ar w3 g n C F ∧ Kept (fun k => k = g) w w3)
                        case atStart => exact ⟨j0, rfl, rfl, Nat.le_refl _, HPR.out, HA.out.drewN _, kept_drewN HK.out _⟩
                        case round =>
                          clear HPR HA HK
                          obtain ⟨j, rfl, hq, hjj, hpr, hA, hK⟩ := hrel
                          have HQ2 := Lib.hid hq
                          clear hq
                          have HPR := Lib.hid hpr
                          have HA := Lib.hid hA
                          have HK := Lib.hid hK
                          have hb1 := hpr.i1
                          have hb2 := hpr.ij
                          have hb3 := hpr.jb
                          clear hpr hA hK
                          by_cases hij : i ≤ j
                          · have hgd : (i : Int) ≤ (j : Int) := by omega
                            have c0 := HA.out.get a (by omega)
                            have c1 := HA.out.get j (by omega)
                            have d0 : (a : Int) < (n : Int) := by omega
                            have d1 : (j : Int) < (n : Int) := by omega
                            cases hd2 : decide (F j < F a) with
                            | false =>
                              have HL := Lib.hid (fun w => soLess_is hd2 w)
                              have HPR2 := Lib.hid (HPR.out.left hij (by simpa using hd2))
                              have e5 : (j : Int) - 1 = ((j - 1 : Nat) : Int) := by omega
                              clear hd2 HPR
                              go_wp2_with fail
                              go_quiet (first | (go_at_call 90; first | exact Calls.quiet_of_same (HL.out _) | exact (HL.out _).mono fun _ _ h => ⟨h.1, _, h.2⟩))
                              go_wp2_with fail
                              go_roundg (j - 1)
                              case rel => exact ⟨j - 1, by go_num, rfl, by omega, HPR2.out, HA.out.drewN _, kept_drewN HK.out _⟩
                              case measure => have := HQ2.out; omega
                            | true =>
                              have HL := Lib.hid (fun w => soLess_is hd2 w)
                              clear c0 c1 d0 d1
                              have c0 := HA.out.get a (by omega)
                              have c1 := HA.out.get j (by omega)
                              have d0 : (a : Int) < (n : Int) := by omega
                              have d1 : (j : Int) < (n : Int) := by omega
                              go_wp2_with fail
                              go_quiet (first | (go_at_call 90; first | exact Calls.quiet_of_same (HL.out _) | exact (HL.out _).mono fun _ _ h => ⟨h.1, _, h.2⟩))
                              clear c0 c1 d0 d1 hgd
                              have HB := Lib.hid (HPR.out.both hij (by have := HD.out; simpa using this) (by simpa using hd2))
                              have hlt := HB.out.2
                              obtain ⟨t, rfl⟩ : ∃ t, j = t + 1 := ⟨j - 1, by omega⟩
                              have e3 : ((t + 1 : Nat) : Int) = (t : Int) + 1 := by omega
                              have e4 : (t : Int) + 1 - 1 = (t : Int) := by omega
                              have hg : ¬ ((t : Int) + 1 < (i : Int)) := by omega
                              have HPR2 : Hid (PrI (swp F i (t + 1)) a (B + 1) (i + 1) t) := Lib.hid HB.out.1
                              have c0 := HA.out.get i (by omega)
                              have c1 := HA.out.get (t + 1) (by omega)
                              have d0 : (i : Int) < (n : Int) := by omega
                              have d1 : (t : Int) + 1 < (n : Int) := by omega
                              have hne : ¬ i = t + 1 := by omega
                              have HSW := Lib.hid (fun k => (HA.out.drewN k).swap (i := i) (j := t + 1) (by omega) (by omega))
                              have HP2 : Hid (Pm (a) (B + 1) D (swp F (i) (t + 1))) := Lib.hid (HP.out.trans (Pm.swap (by omega) (by omega)))
                              have HK2 := Lib.hid (fun k => kept_put2 (kept_drewN HK.out k) (i) (t + 1) (.int .u32 (F (t + 1) : Int)) (.int .u32 (F (i) : Int)))
                              have f0 := HA.out.free (i)
                              have f1 := HA.out.free (t + 1)
                              clear HPR HA HP HK HB hd2 HD HL
                              go_wp2_with fail
                              go_region
                              go_wp2_with fail
                              go_roundg (t + 1 - (i + 1))
                              case rel => exact ⟨i + 1, t, _, by go_num, by go_num, rfl, HPR2.out, HSW.out _, HP2.out, HK2.out _⟩
                              case measure => have := HQ0.out; have := HQ1.out; omega
                          · have hgd : decide ((i : Int) ≤ (j : Int)) = false := by simp; omega
                            go_wp2_with fail
                            go_quiet (fail)
                            have HPD := Lib.hid (HPR.out.done hij)
                            have hg : (j : Int) < (i : Int) := by omega
                            have c0 := HA.out.get a (by omega)
                            have c1 := HA.out.get j (by omega)
                            have d0 : (a : Int) < (n : Int) := by omega
                            have d1 : (j : Int) < (n : Int) := by omega
                            have HSW := Lib.hid (fun k => (HA.out.drewN k).swap (i := j) (j := a) (by omega) (by omega))
                            have HP2 : Hid (Pm (a) (B + 1) D (swp F (j) (a))) := Lib.hid (HP.out.trans (Pm.swap (by omega) (by omega)))
                            have HK2 := Lib.hid (fun k => kept_put2 (kept_drewN HK.out k) (j) (a) (.int .u32 (F (a) : Int)) (.int .u32 (F (j) : Int)))
                            have f0 := HA.out.free (j)
                            have f1 := HA.out.free (a)
                            by_cases hja : a = j
                            · obtain rfl := hja
                              clear HPR HA HP HK
                              go_wp2_with fail
                              go_region
                              all_goals
                                go_wp2_with fail
                                go_ret2
                                exact ⟨_, _, false, rfl, HSW.out _, HP2.out, HPD.out, HK2.out _⟩
                            · have hne : ¬ j = a := fun e => hja e.symm
                              clear HPR HA HP HK
                              go_wp2_with fail
                              go_region
                              all_goals
                                go_wp2_with fail
                                go_ret2
                                exact ⟨_, _, false, rfl, HSW.out _, HP2.out, HPD.out, HK2.out _⟩
                    · have hgd : decide ((i : Int) ≤ (j0 : Int)) = false := by simp; omega
                      go_wp2_with fail
                      go_quiet (fail)
                      go_wp2_with fail
                      clear hgd hb1 hb2 hb3
                      go_loopg [11] j0 (fun q y w3 => ∃ (j : Nat), y = .int .i64 (j : Int) ∧ q = j ∧ j ≤ j0 ∧ PrI F a (B + 1) i j ∧ Ar w3 g n C F ∧ Kept (fun k => k = g) w w3)
                      case atStart => exact ⟨j0, rfl, rfl, Nat.le_refl _, HPR.out, HA.out.drewN _, kept_drewN HK.out _⟩
                      case round =>
                        clear HPR HA HK
                        obtain ⟨j, rfl, hq, hjj, hpr, hA, hK⟩ := hrel
                        have HQ2 := Lib.hid hq
                        clear hq
                        have HPR := Lib.hid hpr
                        have HA := Lib.hid hA
                        have HK := Lib.hid hK
                        have hb1 := hpr.i1
                        have hb2 := hpr.ij
                        have hb3 := hpr.jb
                        clear hpr hA hK
                        have hij : ¬ i ≤ j := by omega
                        have hgd : decide ((i : Int) ≤ (j : Int)) = false := by simp; omega
                        go_wp2_with fail
                        go_quiet (fail)
                        have HPD := Lib.hid (HPR.out.done hij)
                        have hg : (j : Int) < (i : Int) := by omega
                        have c0 := HA.out.get a (by omega)
                        have c1 := HA.out.get j (by omega)
                        have d0 : (a : Int) < (n : Int) := by omega
                        have d1 : (j : Int) < (n : Int) := by omega
                        have HSW := Lib.hid (fun k => (HA.out.drewN k).swap (i := j) (j := a) (by omega) (by omega))
                        have HP2 : Hid (Pm (a) (B + 1) D (swp F (j) (a))) := Lib.hid (HP.out.trans (Pm.swap (by omega) (by omega)))
                        have HK2 := Lib.hid (fun k => kept_put2 (kept_drewN HK.out k) (j) (a) (.int .u32 (F (a) : Int)) (.int .u32 (F (j) : Int)))
                        have f0 := HA.out.free (j)
                        have f1 := HA.out.free (a)
                        by_cases hja : a = j
                        · obtain rfl := hja
                          clear HPR HA HP HK
                          go_wp2_with fail
                          go_region
                          all_goals
                            go_wp2_with fail
                            go_ret2
                            exact ⟨_, _, false, rfl, HSW.out _, HP2.out, HPD.out, HK2.out _⟩
                        · have hne : ¬ j = a := fun e => hja e.symm
                          clear HPR HA HP HK
                          go_wp2_with fail
                          go_region
                          all_goals
                            go_wp2_with fail
                            go_ret2
                            exact ⟨_, _, false, rfl, HSW.out _, HP2.out, HPD.out, HK2.out _⟩
            · have hgd : decide ((i : Int) ≤ (j : Int)) = false := by simp; omega
              go_wp2_with fail
              go_quiet (fail)
              have HPD := Lib.hid (HPR.out.done hij)
              have hg : (j : Int) < (i : Int) := by omega
              have c0 := HA.out.get a (by omega)
              have c1 := HA.out.get j (by omega)
              have d0 : (a : Int) < (n : Int) := by omega
              have d1 : (j : Int) < (n : Int) := by omega
              have HSW := Lib.hid (fun k => (HA.out.drewN k).swap (i := j) (j := a) (by omega) (by omega))
              have HP2 : Hid (Pm (a) (B + 1) D (swp E (j) (a))) := Lib.hid (HP.out.trans (Pm.swap (by omega) (by omega)))
              have HK2 := Lib.hid (fun k => kept_put2 (kept_drewN HK.out k) (j) (a) (.int .u32 (E (a) : Int)) (.int .u32 (E (j) : Int)))
              have f0 := HA.out.free (j)
              have f1 := HA.out.free (a)
              by_cases hja : a = j
              · obtain rfl := hja
                clear HPR HA HP HK
                go_wp2_with fail
                go_region
                all_goals
                  go_wp2_with fail
                  go_ret2
                  exact ⟨_, _, true, rfl, HSW.out _, HP2.out, HPD.out, HK2.out _⟩
              · have hne : ¬ j = a := fun e => hja e.symm
                clear HPR HA HP HK
                go_wp2_with fail
                go_region
                all_goals
                  go_wp2_with fail
                  go_ret2
                  exact ⟨_, _, true, rfl, HSW.out _, HP2.out, HPD.out, HK2.out _⟩
      · have hgd : decide ((i : Int) ≤ (j0 : Int)) = false := by simp; omega
        go_wp2_with fail
        go_quiet (fail)
        go_wp2_with fail
        clear hgd hb1 hb2 hb3
        go_loopg [11] j0 (fun q y w3 => ∃ (j : Nat), y = .int .i64 (j : Int) ∧ q = j ∧ j ≤ j0 ∧ PrI E a (B + 1) i j ∧ Ar w3 g n C E ∧ Kept (fun k => k = g) w w3)
        case atStart => exact ⟨j0, rfl, rfl, Nat.le_refl _, HPR.out, HA.out.drewN _, kept_drewN HK.out _⟩
        case round =>
          clear HPR HA HK
          obtain ⟨j, rfl, hq, hjj, hpr, hA, hK⟩ := hrel
          have HQ2 := Lib.hid hq
          clear hq
          have HPR := Lib.hid hpr
          have HA := Lib.hid hA
          have HK := Lib.hid hK
          have hb1 := hpr.i1
          have hb2 := hpr.ij
          have hb3 := hpr.jb
          clear hpr hA hK
          have hij : ¬ i ≤ j := by omega
          have hgd : decide ((i : Int) ≤ (j : Int)) = false := by simp; omega
          go_wp2_with fail
          go_quiet (fail)
          have HPD := Lib.hid (HPR.out.done hij)
          have hg : (j : Int) < (i : Int) := by omega
          have c0 := HA.out.get a (by omega)
          have c1 := HA.out.get j (by omega)
          have d0 : (a : Int) < (n : Int) := by omega
          have d1 : (j : Int) < (n : Int) := by omega
          have HSW := Lib.hid (fun k => (HA.out.drewN k).swap (i := j) (j := a) (by omega) (by omega))
          have HP2 : Hid (Pm (a) (B + 1) D (swp E (j) (a))) := Lib.hid (HP.out.trans (Pm.swap (by omega) (by omega)))
          have HK2 := Lib.hid (fun k => kept_put2 (kept_drewN HK.out k) (j) (a) (.int .u32 (E (a) : Int)) (.int .u32 (E (j) : Int)))
          have f0 := HA.out.free (j)
          have f1 := HA.out.free (a)
          by_cases hja : a = j
          · obtain rfl := hja
            clear HPR HA HP HK
            go_wp2_with fail
            go_region
            all_goals
              go_wp2_with fail
              go_ret2
              exact ⟨_, _, true, rfl, HSW.out _, HP2.out, HPD.out, HK2.out _⟩
          · have hne : ¬ j = a := fun e => hja e.symm
            clear HPR HA HP HK
            go_wp2_with fail
            go_region
            all_goals
              go_wp2_with fail
              go_ret2
              exact ⟨_, _, true, rfl, HSW.out _, HP2.out, HPD.out, HK2.out _⟩
  · have hne : ¬ a = p := fun e => hpa e.symm
    go_wp2_with fail
    go_region
    go_wp2_with fail
    obtain ⟨E, hE⟩ : ∃ E, swp D a p = E := ⟨_, rfl⟩
    obtain ⟨w1, hw1⟩ : ∃ w1, ((w.drewN 1).setCell ⟨g, a, none⟩ (.int .u32 (D p : Int))).setCell ⟨g, p, none⟩ (.int .u32 (D a : Int)) = w1 := ⟨_, rfl⟩
    have HA : Hid (Ar w1 g n C E) := Lib.hid (by rw [← hw1, ← hE]; exact HSW.out 1)
    have HK : Hid (Kept (fun k => k = g) w w1) := Lib.hid (by rw [← hw1]; exact HK2.out 1)
    have HP : Hid (Pm a (B + 1) D E) := Lib.hid (by rw [← hE]; exact HP2.out)
    have hw2 : ((w.setCell ⟨g, a, none⟩ (.int .u32 (D p : Int))).setCell ⟨g, p, none⟩ (.int .u32 (D a : Int))).drew = w1 := hw1
    rw [hw2]
    obtain ⟨i0, hi0⟩ : ∃ i0, a + 1 = i0 := ⟨_, rfl⟩
    obtain ⟨j0, hj0⟩ : ∃ j0, B = j0 := ⟨_, rfl⟩
    have HPR : Hid (PrI E a (B + 1) i0 j0) := Lib.hid (by rw [← hi0, ← hj0]; exact PrI.start (by omega))
    have hi0' : ((a : Int) + 1) = (i0 : Int) := by omega
    rw [hi0', show (B : Int) = (j0 : Int) by omega]
    clear hw1 hw2 hE HSW HK2 HP2 c0 c1 f0 f1 hi0'
    go_loopg [10] (B + 2 - i0) (fun q x w2 => ∃ (i : Nat), x = .int .i64 (i : Int) ∧ i0 ≤ i ∧ q = B + 2 - i ∧ PrI E a (B + 1) i j0 ∧ Ar w2 g n C E ∧ Kept (fun k => k = g) w w2)
    case atStart => exact ⟨i0, by go_num, Nat.le_refl _, rfl, HPR.out, HA.out, HK.out⟩
    case round =>
      clear HPR HA HK
      obtain ⟨i, rfl, hii, hq, hpr, hA, hK⟩ := hrel
      have HQ1 := Lib.hid hq
      clear hq
      have HPR := Lib.hid hpr
      have HA := Lib.hid hA
      have HK := Lib.hid hK
      have hb1 := hpr.i1
      have hb2 := hpr.ij
      have hb3 := hpr.jb
      clear hpr hA hK
      by_cases hij : i ≤ j0
      · have hgd : (i : Int) ≤ (j0 : Int) := by omega
        have c0 := HA.out.get a (by omega)
        have c1 := HA.out.get i (by omega)
        have d0 : (a : Int) < (n : Int) := by omega
        have d1 : (i : Int) < (n : Int) := by omega
        cases hd : decide (E i < E a) with
        | true =>
          have HL := Lib.hid (fun w => soLess_is hd w)
          have HPR2 := Lib.hid (HPR.out.right hij (by simpa using hd))
          clear hd HPR
          go_wp2_with fail
          go_quiet (first | (go_at_call 90; first | exact Calls.quiet_of_same (HL.out _) | exact (HL.out _).mono fun _ _ h => ⟨h.1, _, h.2⟩))
          go_wp2_with fail
          go_roundg (B + 2 - (i + 1))
          case rel => exact ⟨i + 1, by go_num, by omega, rfl, HPR2.out, HA.out.drewN _, kept_drewN HK.out _⟩
          case measure => have := HQ1.out; omega
        | false =>
          have HL := Lib.hid (fun w => soLess_is hd w)
          have HD := Lib.hid hd
          clear hd
          go_wp2_with fail
          go_quiet (first | (go_at_call 90; first | exact Calls.quiet_of_same (HL.out _) | exact (HL.out _).mono fun _ _ h => ⟨h.1, _, h.2⟩))
          go_wp2_with fail
          clear c0 c1 d0 d1 hgd HL hb1 hb2 hb3 hij
          go_loopg [11] j0 (fun q y w3 => ∃ (j : Nat), y = .int .i64 (j : Int) ∧ q = j ∧ j ≤ j0 ∧ PrI E a (B + 1) i j ∧ Ar w3 g n C E ∧ Kept (fun k => k = g) w w3)
          case atStart => exact ⟨j0, rfl, rfl, Nat.le_refl _, HPR.out, HA.out.drewN _, kept_drewN HK.out _⟩
          case round =>
            clear HPR HA HK
            obtain ⟨j, rfl, hq, hjj, hpr, hA, hK⟩ := hrel
            have HQ2 := Lib.hid hq
            clear hq
            have HPR := Lib.hid hpr
            have HA := Lib.hid hA
            have HK := Lib.hid hK
            have hb1 := hpr.i1
            have hb2 := hpr.ij
            have hb3 := hpr.jb
            clear hpr hA hK
            by_cases hij : i ≤ j
            · have hgd : (i : Int) ≤ (j : Int) := by omega
              have c0 := HA.out.get a (by omega)
              have c1 := HA.out.get j (by omega)
              have d0 : (a : Int) < (n : Int) := by omega
              have d1 : (j : Int) < (n : Int) := by omega
              cases hd2 : decide (E j < E a) with
              | false =>
                have HL := Lib.hid (fun w => soLess_is hd2 w)
                have HPR2 := Lib.hid (HPR.out.left hij (by simpa using hd2))
                have e5 : (j : Int) - 1 = ((j - 1 : Nat) : Int) := by omega
                clear hd2 HPR
                go_wp2_with fail
                go_quiet (first | (go_at_call 90; first | exact Calls.quiet_of_same (HL.out _) | exact (HL.out _).mono fun _ _ h => ⟨h.1, _, h.2⟩))
                go_wp2_with fail
                go_roundg (j - 1)
                case rel => exact ⟨j - 1, by go_num, rfl, by omega, HPR2.out, HA.out.drewN _, kept_drewN HK.out _⟩
                case measure => have := HQ2.out; omega
              | true =>
                have HL := Lib.hid (fun w => soLess_is hd2 w)
                clear c0 c1 d0 d1
                have c0 := HA.out.get a (by omega)
                have c1 := HA.out.get j (by omega)
                have d0 : (a : Int) < (n : Int) := by omega
                have d1 : (j : Int) < (n : Int) := by omega
                go_wp2_with fail
                go_quiet (first | (go_at_call 90; first | exact Calls.quiet_of_same (HL.out _) | exact (HL.out _).mono fun _ _ h => ⟨h.1, _, h.2⟩))
                clear c0 c1 d0 d1 hgd
                have HB := Lib.hid (HPR.out.both hij (by have := HD.out; simpa using this) (by simpa using hd2))
                have hlt := HB.out.2
                obtain ⟨t, rfl⟩ : ∃ t, j = t + 1 := ⟨j - 1, by omega⟩
                have e3 : ((t + 1 : Nat) : Int) = (t : Int) + 1 := by omega
                have e4 : (t : Int) + 1 - 1 = (t : Int) := by omega
                have hg : ¬ ((t : Int) + 1 < (i : Int)) := by omega
                have HPR2 : Hid (PrI (swp E i (t + 1)) a (B + 1) (i + 1) t) := Lib.hid HB.out.1
                have c0 := HA.out.get i (by omega)
                have c1 := HA.out.get (t + 1) (by omega)
                have d0 : (i : Int) < (n : Int) := by omega
                have d1 : (t : Int) + 1 < (n : Int) := by omega
                have hne : ¬ i = t + 1 := by omega
                have HSW := Lib.hid (fun k => (HA.out.drewN k).swap (i := i) (j := t + 1) (by omega) (by omega))
                have HP2 : Hid (Pm (a) (B + 1) D (swp E (i) (t + 1))) := Lib.hid (HP.out.trans (Pm.swap (by omega) (by omega)))
                have HK2 := Lib.hid (fun k => kept_put2 (kept_drewN HK.out k) (i) (t + 1) (.int .u32 (E (t + 1) : Int)) (.int .u32 (E (i) : Int)))
                have f0 := HA.out.free (i)
                have f1 := HA.out.free (t + 1)
                clear HPR HA HP HK HB hd2 HD HL
                go_wp2_with fail
                go_region
                go_wp2_with fail
                show Code.wp Tryz.prog (Code.loop _) _ _ _
                have HE : Hid (PrI (swp E i (t + 1)) a (B + 1) (i + 1) t) := HPR2
                go_loopg [10, 11] (t + 1 - (i + 1)) (fun q x y w5 => ∃ (i j : Nat) (F : Nat → Nat), x = .int .i64 (i : Int) ∧ y = .int .i64 (j : Int) ∧ q = j + 1 - i ∧ PrI F a (B + 1) i j ∧ Ar w5 g n C F ∧ Pm a (B + 1) D F ∧ Kept (fun k => k = g) w w5)
                case atStart => exact ⟨i + 1, t, _, by go_num, by go_num, rfl, HE.out, HSW.out _, HP2.out, HK2.out _⟩
                case round =>
                  clear HE HPR2 HSW HP2 HK2 HQ1 HQ2 hlt hij
                  obtain ⟨i0, j0, F, rfl, rfl, hq, hpr, hA, hP, hK⟩ := hrel
                  have HQ0 := Lib.hid hq
                  have HP := Lib.hid hP
                  clear hq hP
                  have HPR := Lib.hid hpr
                  have HA := Lib.hid hA
                  have HK := Lib.hid hK
                  have hb1 := hpr.i1
                  have hb2 := hpr.ij
                  have hb3 := hpr.jb
                  clear hpr hA hK
                  go_wp2_with fail
                  go_loopg [10] (B + 2 - i0) (fun q x w2 => ∃ (i : Nat), x = .int .i64 (i : Int) ∧ i0 ≤ i ∧ q = B + 2 - i ∧ PrI F a (B + 1) i j0 ∧ Ar w2 g n C F ∧ Kept (fun k => k = g) w w2)
                  case atStart => exact ⟨i0, by go_num, Nat.le_refl _, rfl, HPR.out, HA.out, HK.out⟩
                  case round =>
                    clear HPR HA HK
                    obtain ⟨i, rfl, hii, hq, hpr, hA, hK⟩ := hrel
                    have HQ1 := Lib.hid hq
                    clear hq
                    have HPR := Lib.hid hpr
                    have HA := Lib.hid hA
                    have HK := Lib.hid hK
                    have hb1 := hpr.i1
                    have hb2 := hpr.ij
                    have hb3 := hpr.jb
                    clear hpr hA hK
                    by_cases hij : i ≤ j0
                    · have hgd : (i : Int) ≤ (j0 : Int) := by omega
                      have c0 := HA.out.get a (by omega)
                      have c1 := HA.out.get i (by omega)
                      have d0 : (a : Int) < (n : Int) := by omega
                      have d1 : (i : Int) < (n : Int) := by omega
                      cases hd : decide (F i < F a) with
                      | true =>
                        have HL := Lib.hid (fun w => soLess_is hd w)
                        have HPR2 := Lib.hid (HPR.out.right hij (by simpa using hd))
                        clear hd HPR
                        go_wp2_with fail
                        go_quiet (first | (go_at_call 90; first | exact Calls.quiet_of_same (HL.out _) | exact (HL.out _).mono fun _ _ h => ⟨h.1, _, h.2⟩))
                        go_wp2_with fail
                        go_roundg (B + 2 - (i + 1))
                        case rel => exact ⟨i + 1, by go_num, by omega, rfl, HPR2.out, HA.out.drewN _, kept_drewN HK.out _⟩
                        case measure => have := HQ1.out; omega
                      | false =>
                        have HL := Lib.hid (fun w => soLess_is hd w)
                        have HD := Lib.hid hd
                        clear hd
                        go_wp2_with fail
                        go_quiet (first | (go_at_call 90; first | exact Calls.quiet_of_same (HL.out _) | exact (HL.out _).mono fun _ _ h => ⟨h.1, _, h.2⟩))
                        go_wp2_with fail
                        clear c0 c1 d0 d1 hgd HL hb1 hb2 hb3 hij
                        go_loopg [11] j0 (fun q y w3 => ∃ (j : Nat), y = .int .i64 (j : Int) ∧ q = j ∧ j ≤ j0 ∧ PrI F a (B + 1) i j ∧ Ar w3 g n C F ∧ Kept (fun k => k = g) w w3)
                        case atStart => exact ⟨j0, rfl, rfl, Nat.le_refl _, HPR.out, HA.out.drewN _, kept_drewN HK.out _⟩
                        case round =>
                          clear HPR HA HK
                          obtain ⟨j, rfl, hq, hjj, hpr, hA, hK⟩ := hrel
                          have HQ2 := Lib.hid hq
                          clear hq
                          have HPR := Lib.hid hpr
                          have HA := Lib.hid hA
                          have HK := Lib.hid hK
                          have hb1 := hpr.i1
                          have hb2 := hpr.ij
                          have hb3 := hpr.jb
                          clear hpr hA hK
                          by_cases hij : i ≤ j
                          · have hgd : (i : Int) ≤ (j : Int) := by omega
                            have c0 := HA.out.get a (by omega)
                            have c1 := HA.out.get j (by omega)
                            have d0 : (a : Int) < (n : Int) := by omega
                            have d1 : (j : Int) < (n : Int) := by omega
                            cases hd2 : decide (F j < F a) with
                            | false =>
                              have HL := Lib.hid (fun w => soLess_is hd2 w)
                              have HPR2 := Lib.hid (HPR.out.left hij (by simpa using hd2))
                              have e5 : (j : Int) - 1 = ((j - 1 : Nat) : Int) := by omega
                              clear hd2 HPR
                              go_wp2_with fail
                              go_quiet (first | (go_at_call 90; first | exact Calls.quiet_of_same (HL.out _) | exact (HL.out _).mono fun _ _ h => ⟨h.1, _, h.2⟩))
                              go_wp2_with fail
                              go_roundg (j - 1)
                              case rel => exact ⟨j - 1, by go_num, rfl, by omega, HPR2.out, HA.out.drewN _, kept_drewN HK.out _⟩
                              case measure => have := HQ2.out; omega
                            | true =>
                              have HL := Lib.hid (fun w => soLess_is hd2 w)
                              clear c0 c1 d0 d1
                              have c0 := HA.out.get a (by omega)
                              have c1 := HA.out.get j (by omega)
                              have d0 : (a : Int) < (n : Int) := by omega
                              have d1 : (j : Int) < (n : Int) := by omega
                              go_wp2_with fail
                              go_quiet (first | (go_at_call 90; first | exact Calls.quiet_of_same (HL.out _) | exact (HL.out _).mono fun _ _ h => ⟨h.1, _, h.2⟩))
                              clear c0 c1 d0 d1 hgd
                              have HB := Lib.hid (HPR.out.both hij (by have := HD.out; simpa using this) (by simpa using hd2))
                              have hlt := HB.out.2
                              obtain ⟨t, rfl⟩ : ∃ t, j = t + 1 := ⟨j - 1, by omega⟩
                              have e3 : ((t + 1 : Nat) : Int) = (t : Int) + 1 := by omega
                              have e4 : (t : Int) + 1 - 1 = (t : Int) := by omega
                              have hg : ¬ ((t : Int) + 1 < (i : Int)) := by omega
                              have HPR2 : Hid (PrI (swp F i (t + 1)) a (B + 1) (i + 1) t) := Lib.hid HB.out.1
                              have c0 := HA.out.get i (by omega)
                              have c1 := HA.out.get (t + 1) (by omega)
                              have d0 : (i : Int) < (n : Int) := by omega
                              have d1 : (t : Int) + 1 < (n : Int) := by omega
                              have hne : ¬ i = t + 1 := by omega
                              have HSW := Lib.hid (fun k => (HA.out.drewN k).swap (i := i) (j := t + 1) (by omega) (by omega))
                              have HP2 : Hid (Pm (a) (B + 1) D (swp F (i) (t + 1))) := Lib.hid (HP.out.trans (Pm.swap (by omega) (by omega)))
                              have HK2 := Lib.hid (fun k => kept_put2 (kept_drewN HK.out k) (i) (t + 1) (.int .u32 (F (t + 1) : Int)) (.int .u32 (F (i) : Int)))
                              have f0 := HA.out.free (i)
                              have f1 := HA.out.free (t + 1)
                              clear HPR HA HP HK HB hd2 HD HL
                              go_wp2_with fail
                              go_region
                              go_wp2_with fail
                              go_roundg (t + 1 - (i + 1))
                              case rel => exact ⟨i + 1, t, _, by go_num, by go_num, rfl, HPR2.out, HSW.out _, HP2.out, HK2.out _⟩
                              case measure => have := HQ0.out; have := HQ1.out; omega
                          · have hgd : decide ((i : Int) ≤ (j : Int)) = false := by simp; omega
                            go_wp2_with fail
                            go_quiet (fail)
                            have HPD := Lib.hid (HPR.out.done hij)
                            have hg : (j : Int) < (i : Int) := by omega
                            have c0 := HA.out.get a (by omega)
                            have c1 := HA.out.get j (by omega)
                            have d0 : (a : Int) < (n : Int) := by omega
                            have d1 : (j : Int) < (n : Int) := by omega
                            have HSW := Lib.hid (fun k => (HA.out.drewN k).swap (i := j) (j := a) (by omega) (by omega))
                            have HP2 : Hid (Pm (a) (B + 1) D (swp F (j) (a))) := Lib.hid (HP.out.trans (Pm.swap (by omega) (by omega)))
                            have HK2 := Lib.hid (fun k => kept_put2 (kept_drewN HK.out k) (j) (a) (.int .u32 (F (a) : Int)) (.int .u32 (F (j) : Int)))
                            have f0 := HA.out.free (j)
                            have f1 := HA.out.free (a)
                            by_cases hja : a = j
                            · obtain rfl := hja
                              clear HPR HA HP HK
                              go_wp2_with fail
                              go_region
                              all_goals
                                go_wp2_with fail
                                go_ret2
                                exact ⟨_, _, false, rfl, HSW.out _, HP2.out, HPD.out, HK2.out _⟩
                            · have hne : ¬ j = a := fun e => hja e.symm
                              clear HPR HA HP HK
                              go_wp2_with fail
                              go_region
                              all_goals
                                go_wp2_with fail
                                go_ret2
                                exact ⟨_, _, false, rfl, HSW.out _, HP2.out, HPD.out, HK2.out _⟩
                    · have hgd : decide ((i : Int) ≤ (j0 : Int)) = false := by simp; omega
                      go_wp2_with fail
                      go_quiet (fail)
                      go_wp2_with fail
                      clear hgd hb1 hb2 hb3
                      go_loopg [11] j0 (fun q y w3 => ∃ (j : Nat), y = .int .i64 (j : Int) ∧ q = j ∧ j ≤ j0 ∧ PrI F a (B + 1) i j ∧ Ar w3 g n C F ∧ Kept (fun k => k = g) w w3)
                      case atStart => exact ⟨j0, rfl, rfl, Nat.le_refl _, HPR.out, HA.out.drewN _, kept_drewN HK.out _⟩
                      case round =>
                        clear HPR HA HK
                        obtain ⟨j, rfl, hq, hjj, hpr, hA, hK⟩ := hrel
                        have HQ2 := Lib.hid hq
                        clear hq
                        have HPR := Lib.hid hpr
                        have HA := Lib.hid hA
                        have HK := Lib.hid hK
                        have hb1 := hpr.i1
                        have hb2 := hpr.ij
                        have hb3 := hpr.jb
                        clear hpr hA hK
                        have hij : ¬ i ≤ j := by omega
                        have hgd : decide ((i : Int) ≤ (j : Int)) = false := by simp; omega
                        go_wp2_with fail
                        go_quiet (fail)
                        have HPD := Lib.hid (HPR.out.done hij)
                        have hg : (j : Int) < (i : Int) := by omega
                        have c0 := HA.out.get a (by omega)
                        have c1 := HA.out.get j (by omega)
                        have d0 : (a : Int) < (n : Int) := by omega
                        have d1 : (j : Int) < (n : Int) := by omega
                        have HSW := Lib.hid (fun k => (HA.out.drewN k).swap (i := j) (j := a) (by omega) (by omega))
                        have HP2 : Hid (Pm (a) (B + 1) D (swp F (j) (a))) := Lib.hid (HP.out.trans (Pm.swap (by omega) (by omega)))
                        have HK2 := Lib.hid (fun k => kept_put2 (kept_drewN HK.out k) (j) (a) (.int .u32 (F (a) : Int)) (.int .u32 (F (j) : Int)))
                        have f0 := HA.out.free (j)
                        have f1 := HA.out.free (a)
                        by_cases hja : a = j
                        · obtain rfl := hja
                          clear HPR HA HP HK
                          go_wp2_with fail
                          go_region
                          all_goals
                            go_wp2_with fail
                            go_ret2
                            exact ⟨_, _, false, rfl, HSW.out _, HP2.out, HPD.out, HK2.out _⟩
                        · have hne : ¬ j = a := fun e => hja e.symm
                          clear HPR HA HP HK
                          go_wp2_with fail
                          go_region
                          all_goals
                            go_wp2_with fail
                            go_ret2
                            exact ⟨_, _, false, rfl, HSW.out _, HP2.out, HPD.out, HK2.out _⟩
            · have hgd : decide ((i : Int) ≤ (j : Int)) = false := by simp; omega
              go_wp2_with fail
              go_quiet (fail)
              have HPD := Lib.hid (HPR.out.done hij)
              have hg : (j : Int) < (i : Int) := by omega
              have c0 := HA.out.get a (by omega)
              have c1 := HA.out.get j (by omega)
              have d0 : (a : Int) < (n : Int) := by omega
              have d1 : (j : Int) < (n : Int) := by omega
              have HSW := Lib.hid (fun k => (HA.out.drewN k).swap (i := j) (j := a) (by omega) (by omega))
              have HP2 : Hid (Pm (a) (B + 1) D (swp E (j) (a))) := Lib.hid (HP.out.trans (Pm.swap (by omega) (by omega)))
              have HK2 := Lib.hid (fun k => kept_put2 (kept_drewN HK.out k) (j) (a) (.int .u32 (E (a) : Int)) (.int .u32 (E (j) : Int)))
              have f0 := HA.out.free (j)
              have f1 := HA.out.free (a)
              by_cases hja : a = j
              · obtain rfl := hja
                clear HPR HA HP HK
                go_wp2_with fail
                go_region
                all_goals
                  go_wp2_with fail
                  go_ret2
                  exact ⟨_, _, true, rfl, HSW.out _, HP2.out, HPD.out, HK2.out _⟩
              · have hne : ¬ j = a := fun e => hja e.symm
                clear HPR HA HP HK
                go_wp2_with fail
                go_region
                all_goals
                  go_wp2_with fail
                  go_ret2
                  exact ⟨_, _, true, rfl, HSW.out _, HP2.out, HPD.out, HK2.out _⟩
      · have hgd : decide ((i : Int) ≤ (j0 : Int)) = false := by simp; omega
        go_wp2_with fail
        go_quiet (fail)
        go_wp2_with fail
        clear hgd hb1 hb2 hb3
        go_loopg [11] j0 (fun q y w3 => ∃ (j : Nat), y = .int .i64 (j : Int) ∧ q = j ∧ j ≤ j0 ∧ PrI E a (B + 1) i j ∧ Ar w3 g n C E ∧ Kept (fun k => k = g) w w3)
        case atStart => exact ⟨j0, rfl, rfl, Nat.le_refl _, HPR.out, HA.out.drewN _, kept_drewN HK.out _⟩
        case round =>
          clear HPR HA HK
          obtain ⟨j, rfl, hq, hjj, hpr, hA, hK⟩ := hrel
          have HQ2 := Lib.hid hq
          clear hq
          have HPR := Lib.hid hpr
          have HA := Lib.hid hA
          have HK := Lib.hid hK
          have hb1 := hpr.i1
          have hb2 := hpr.ij
          have hb3 := hpr.jb
          clear hpr hA hK
          have hij : ¬ i ≤ j := by omega
          have hgd : decide ((i : Int) ≤ (j : Int)) = false := by simp; omega
          go_wp2_with fail
          go_quiet (fail)
          have HPD := Lib.hid (HPR.out.done hij)
          have hg : (j : Int) < (i : Int) := by omega
          have c0 := HA.out.get a (by omega)
          have c1 := HA.out.get j (by omega)
          have d0 : (a : Int) < (n : Int) := by omega
          have d1 : (j : Int) < (n : Int) := by omega
          have HSW := Lib.hid (fun k => (HA.out.drewN k).swap (i := j) (j := a) (by omega) (by omega))
          have HP2 : Hid (Pm (a) (B + 1) D (swp E (j) (a))) := Lib.hid (HP.out.trans (Pm.swap (by omega) (by omega)))
          have HK2 := Lib.hid (fun k => kept_put2 (kept_drewN HK.out k) (j) (a) (.int .u32 (E (a) : Int)) (.int .u32 (E (j) : Int)))
          have f0 := HA.out.free (j)
          have f1 := HA.out.free (a)
          by_cases hja : a = j
          · obtain rfl := hja
            clear HPR HA HP HK
            go_wp2_with fail
            go_region
            all_goals
              go_wp2_with fail
              go_ret2
              exact ⟨_, _, true, rfl, HSW.out _, HP2.out, HPD.out, HK2.out _⟩
          · have hne : ¬ j = a := fun e => hja e.symm
            clear HPR HA HP HK
            go_wp2_with fail
            go_region
            all_goals
              go_wp2_with fail
              go_ret2
              exact ⟨_, _, true, rfl, HSW.out _, HP2.out, HPD.out, HK2.out _⟩
end Go.Proofs.YtajccmkdfmpapaaGreatDoor
