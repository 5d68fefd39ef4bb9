/-
  A row of 32-bit numbers, no two the same, that is sorted: pdqsortOrdered, slices.Sort.
-/
import Derived.Test.YtajccmkdfmpapaaGreatDoorZmN
import Derived.Test.YtajccmkdfmpapaaGreatDoorSoH
import Derived.Deep.CutBlock
import Derived.Deep.DeepCutAuto
namespace Go.Proofs.YtajccmkdfmpapaaGreatDoor
open Go.RowKit

def PdqAt (g n C cap N : Nat) : Prop := ∀ (a b lim : Nat) (D : Nat → Nat) (w : World), b - a = N → Ar w g n C D → a ≤ b → b ≤ n → lim ≤ 100 → Lo a b D → Inj n D → Calls Tryz.prog 81 #[.slice (some ⟨g, 0, none⟩) n cap, .int .i64 (a : Int), .int .i64 (b : Int), .int .i64 (lim : Int)] w (fun r w' => r = .returned (.tuple #[]) ∧ SoTo g n C a b D (Srt a b) w w')
set_option maxHeartbeats 1500000 in
set_option maxRecDepth 100000 in
theorem soPdq_step (g n C cap N : Nat) (hn : n ≤ 100000) (hc : n ≤ cap) (ih : ∀ M, M < N → PdqAt g n C cap M) : PdqAt g n C cap N := by
  intro a b lim0 D w hN h hab0 hbn hl0 hlo hin
  have IH := Lib.hid ih
  have HA := Lib.hid h
  have HL := Lib.hid hlo
  have HIN := Lib.hid hin
  clear ih h hlo hin
  go_enter Tryz.func81, Tryz.ntmps81
  go_wp2_with fail
  go_loopg [1, 2, 3, 8, 9] (b - a) (fun q x1 x2 x3 x8 x9 wr => ∃ (a2 b2 lim : Nat) (bal par : Bool) (E : Nat → Nat), x1 = .int .i64 (a2 : Int) ∧ x2 = .int .i64 (b2 : Int) ∧ x3 = .int .i64 (lim : Int) ∧ x8 = .bool bal ∧ x9 = .bool par ∧ a ≤ a2 ∧ a2 ≤ b2 ∧ b2 ≤ b ∧ lim ≤ 100 ∧ q = b2 - a2 ∧ Ar wr g n C E ∧ Pm a b D E ∧ OutR E a b a2 b2 ∧ Lo a2 b2 E ∧ Kept (fun k => k = g) w wr)
  case atStart => exact ⟨a, b, lim0, true, true, D, rfl, rfl, rfl, rfl, rfl, Nat.le_refl _, hab0, Nat.le_refl _, hl0, rfl, HA.out, Pm.refl _ _ _, OutR.start _ _ _, HL.out, Kept.refl _ _⟩
  case round =>
    clear HA HL
    obtain ⟨a2, b2, lim, bal, par, E, rfl, rfl, rfl, rfl, rfl, ha, hab, hb, hlim, hq, hA, hP, hO, hL, hK⟩ := hrel
    have HQ := Lib.hid hq
    have HA := Lib.hid hA
    have HP := Lib.hid hP
    have HO := Lib.hid hO
    have HLO := Lib.hid hL
    have HK := Lib.hid hK
    clear hq hA hP hO hL hK
    obtain ⟨H, hH⟩ : ∃ H, b2 - a2 = H := ⟨_, rfl⟩
    have eH : (b2 : Int) - (a2 : Int) = (H : Int) := by omega
    have hbH : a2 + H = b2 := by omega
    by_cases h12 : H ≤ 12
    · have hg12 : (H : Int) ≤ 12 := by omega
      go_wp2_with fail
      refine (soIns_at g n C cap a2 b2 E wr HA.out (by omega) hn hc hab).mono ?_
      rintro r w2 ⟨rfl, E2, hA2, hP2, hS2, hK2⟩
      have HR := Lib.hid (And.intro hA2 (And.intro (HP.out.trans (hP2.mono ha hb)) (And.intro ((HO.out.pm hP2 ha hb).done hS2) (HK.out.and hK2))))
      clear hA2 hP2 hS2 hK2
      go_wp2_with fail
      try simp only [Exit.inBlock, Exit.then]
      refine bodyPost_ret (results_none rfl _ _ _) rfl ?_
      exact ⟨rfl, E2, HR.out.1, HR.out.2.1, HR.out.2.2.1, HR.out.2.2.2⟩
    · have hg12 : ¬ ((H : Int) ≤ 12) := by omega
      by_cases hl : lim = 0
      · subst hl
        have HHP := Lib.hid (soHeap_at g n C cap a2 H E wr HA.out hn hc (by omega) (by omega))
        rw [hbH] at HHP
        go_wp2_with fail
        refine HHP.out.mono ?_
        rintro r w2 ⟨rfl, E2, hA2, hP2, hS2, hK2⟩
        have HR := Lib.hid (And.intro hA2 (And.intro (HP.out.trans (hP2.mono ha hb)) (And.intro ((HO.out.pm hP2 ha hb).done hS2) (HK.out.and hK2))))
        clear hA2 hP2 hS2 hK2
        go_wp2_with fail
        try simp only [Exit.inBlock, Exit.then]
        refine bodyPost_ret (results_none rfl _ _ _) rfl ?_
        exact ⟨rfl, E2, HR.out.1, HR.out.2.1, HR.out.2.2.1, HR.out.2.2.2⟩
      · have ql : ((lim : Int) == 0) = false := by simp; omega
        obtain ⟨M8, hM8⟩ : ∃ M, H / 8 = M := ⟨_, rfl⟩
        have eM8 : (H : Int) / 8 = (M8 : Int) := by omega
        have wM8 : IntKind.i64.wrap (M8 : Int) = (M8 : Int) := IntWalk.i64_in _ (by omega)
        go_upto_if 35 with fail
        go_cut [3] (fun s3 wx => ∃ (l : Nat) (F : Nat → Nat), s3 = .int .i64 (l : Int) ∧ l ≤ 100 ∧ Ar wx g n C F ∧ Pm a2 b2 E F ∧ Kept (fun k => k = g) w wx)
        case first =>
          cases bal with
          | true =>
            go_wp2_with fail
            go_meet
            case rel => exact ⟨lim, E, rfl, hlim, HA.out, Pm.refl _ _ _, HK.out⟩
          | false =>
            obtain ⟨l, rfl⟩ : ∃ l, lim = l + 1 := ⟨lim - 1, by omega⟩
            have el : ((l + 1 : Nat) : Int) - 1 = (l : Int) := by omega
            have el2 : (l : Int) + 1 - 1 = (l : Int) := by omega
            have HBR := Lib.hid (soBreak_at g n C cap a2 H E wr HA.out hn hc (by omega) (by omega))
            rw [hbH] at HBR
            go_wp2_with fail
            refine HBR.out.mono ?_
            rintro r w2 ⟨rfl, F, hA2, hP2, _, hK2⟩
            have HR := Lib.hid (And.intro hA2 (And.intro hP2 (HK.out.and hK2)))
            clear hA2 hP2 hK2
            go_wp2_with fail
            go_meet
            case rel => exact ⟨l, F, by go_num, by omega, HR.out.1, HR.out.2.1, HR.out.2.2⟩
        case rest =>
          obtain ⟨l, F, rfl, hl, hA1, hP1, hK1⟩ := hcut
          have HA1 := Lib.hid hA1
          have HP1 := Lib.hid (HP.out.trans (hP1.mono ha hb))
          have HO1 := Lib.hid (HO.out.pm hP1 ha hb)
          have HL1 := Lib.hid (hP1.lo HLO.out)
          have HK1 := Lib.hid hK1
          clear hA1 hP1 hK1 HA HP HO HLO HK
          have HPV := Lib.hid (soPivot_at g n C cap a2 H F _ HA1.out hn hc (by omega) (by omega))
          rw [hbH] at HPV
          go_wp2_with fail
          refine HPV.out.mono ?_
          rintro r w3 ⟨p, hint, rfl, hp1, hp2, hb3⟩
          have HA1 := Lib.hid (HA1.out.up hb3)
          have HK1 := Lib.hid (HK1.out.and (Kept.of_below hb3))
          clear hb3 HPV
          go_upto_if 50 with fail
          go_cut [11, 12] (fun s11 s12 wx => ∃ (p2 : Nat) (h2 : Int) (G : Nat → Nat), s11 = .int .i64 (p2 : Int) ∧ s12 = .int .i64 h2 ∧ a2 ≤ p2 ∧ p2 < b2 ∧ Ar wx g n C G ∧ Pm a2 b2 F G ∧ Kept (fun k => k = g) w wx)
          case first =>
            by_cases hh : hint = 2
            · subst hh
              obtain ⟨p2, hp2'⟩ : ∃ p2 : Nat, b2 - 1 - (p - a2) = p2 := ⟨_, rfl⟩
              have ep : (b2 : Int) - 1 - ((p : Int) - (a2 : Int)) = (p2 : Int) := by omega
              have wp2 : IntKind.i64.wrap (p2 : Int) = (p2 : Int) := IntWalk.i64_in _ (by omega)
              go_wp2_with fail
              refine (soRev_at g n C cap a2 b2 F _ HA1.out hn hc (by omega) (by omega)).mono ?_
              rintro r w2 ⟨rfl, G, hA2, hP2, _, hK2⟩
              have HR := Lib.hid (And.intro hA2 (And.intro hP2 (HK1.out.and hK2)))
              clear hA2 hP2 hK2
              go_wp2_with fail
              go_meet
              case rel => exact ⟨p2, 1, G, by go_num, rfl, by omega, by omega, HR.out.1, HR.out.2.1, HR.out.2.2⟩
            · have qh : (hint == 2) = false := by simpa using hh
              go_wp2_with fail
              go_meet
              case rel => exact ⟨p, hint, F, rfl, rfl, hp1, hp2, HA1.out, Pm.refl _ _ _, HK1.out⟩
          case rest =>
            obtain ⟨p2, h2, G, rfl, rfl, hp3, hp4, hA2, hP2, hK2⟩ := hcut
            have HA2 := Lib.hid hA2
            have HP2 := Lib.hid (HP1.out.trans (hP2.mono ha hb))
            have HO2 := Lib.hid (HO1.out.pm hP2 ha hb)
            have HL2 := Lib.hid (hP2.lo HL1.out)
            have HK2 := Lib.hid hK2
            clear hA2 hP2 hK2 HA1 HP1 HO1 HL1 HK1 hp1 hp2
            obtain ⟨w4, hw4⟩ : ∃ w4, wc = w4 := ⟨_, rfl⟩
            subst hw4
            go_upto_region 15 with fail
            go_cut [68] (fun s68 wx => ∃ c : Bool, s68 = .bool c ∧ wx = wc)
            case first =>
              cases bal with
              | false =>
                go_wp2_with fail
                go_meet
                case rel => exact ⟨_, rfl, rfl⟩
              | true =>
                cases par with
                | false =>
                  go_wp2_with fail
                  go_meet
                  case rel => exact ⟨_, rfl, rfl⟩
                | true =>
                  go_wp2_with fail
                  go_meet
                  case rel => exact ⟨_, rfl, rfl⟩
            case rest =>
              obtain ⟨c, rfl, hwx⟩ := hcut
              subst hwx
              go_upto_if 68 with fail
              go_cut [72] (fun s72 wx => ∃ G2, Ar wx g n C G2 ∧ Pm a2 b2 G G2 ∧ Kept (fun k => k = g) w wx)
              case first =>
                cases c with
                | false =>
                  go_wp2_with fail
                  go_meet
                  case rel => exact ⟨G, HA2.out, Pm.refl _ _ _, HK2.out⟩
                | true =>
                  go_wp2_with fail
                  refine (soPIns_at g n C cap a2 b2 G _ HA2.out hn hc (by omega) (by omega) HL2.out).mono ?_
                  rintro r w5 ⟨G2, bo, rfl, hA3, hP3, hS3, hK3⟩
                  cases bo with
                  | true =>
                    have HR := Lib.hid (And.intro hA3 (And.intro (HP2.out.trans (hP3.mono ha hb)) (And.intro ((HO2.out.pm hP3 ha hb).done (hS3 rfl)) (HK2.out.and hK3))))
                    clear hA3 hP3 hS3 hK3
                    go_wp2_with fail
                    try simp only [Exit.inBlock, Exit.then]
                    refine bodyPost_ret (results_none rfl _ _ _) rfl ?_
                    exact ⟨rfl, G2, HR.out.1, HR.out.2.1, HR.out.2.2.1, HR.out.2.2.2⟩
                  | false =>
                    have HR := Lib.hid (And.intro hA3 (And.intro hP3 (HK2.out.and hK3)))
                    clear hA3 hP3 hS3 hK3
                    go_wp2_with fail
                    go_meet
                    case rel => exact ⟨G2, HR.out.1, HR.out.2.1, HR.out.2.2⟩
              case rest =>
                obtain ⟨G2, hA3, hP3, hK3⟩ := hcut
                have HA2 := Lib.hid hA3
                have HP2 := Lib.hid (HP2.out.trans (hP3.mono ha hb))
                have HO2 := Lib.hid (HO2.out.pm hP3 ha hb)
                have HL2 := Lib.hid (hP3.lo HL2.out)
                have HI2 := Lib.hid (HP2.out.inj hbn HIN.out)
                have HK2 := Lib.hid hK3
                clear hA3 hP3 hK3
                by_cases ha0 : 0 < a2
                · obtain ⟨t, ht⟩ : ∃ t, a2 = t + 1 := ⟨a2 - 1, by omega⟩
                  have c0 := HA2.out.get t (by omega)
                  have c1 := HA2.out.get p2 (by omega)
                  have d0 : (t : Int) < (n : Int) := by omega
                  have d1 : (p2 : Int) < (n : Int) := by omega
                  have et : (a2 : Int) - 1 = (t : Int) := by omega
                  have d2 : (0 : Int) < (a2 : Int) := by omega
                  have hd : decide (G2 t < G2 p2) = true := by
                    rcases HL2.out with h0 | h0
                    · omega
                    · have := h0 p2 hp3 hp4
                      rw [ht, Nat.add_sub_cancel] at this
                      simpa using this
                  have HL := Lib.hid (fun w => soLess_is hd w)
                  clear hd ht
                  go_wp2_with fail
                  go_quiet (first | (go_at_call 90; first | exact Calls.quiet_of_same (HL.out _) | exact (HL.out _).mono fun _ _ h => ⟨h.1, _, h.2⟩))
                  go_wp2_with fail
                  refine (soPart_at g n C cap a2 b2 p2 G2 _ (HA2.out.drewN _) hn hc (by omega) hp3 hp4).mono ?_
                  rintro r w6 ⟨G3, m, bo, rfl, hA3, hP3a, hPT, hK3⟩
                  have HA3 := Lib.hid hA3
                  have HP3 := Lib.hid (HP2.out.trans (hP3a.mono ha hb))
                  have HO3 := Lib.hid (HO2.out.pm hP3a ha hb)
                  have HL3 := Lib.hid (hP3a.lo HL2.out)
                  have HI3 := Lib.hid (hP3a.inj (by omega) HI2.out)
                  have HPT := Lib.hid hPT
                  have HK3 := Lib.hid ((kept_drewN HK2.out _).and hK3)
                  have hpam := hPT.am
                  have hpmb := hPT.mb
                  clear hA3 hP3a hPT hK3 HA2 HP2 HO2 HL2 HI2 HK2
                  obtain ⟨X, hX⟩ : ∃ X, m - a2 = X := ⟨_, rfl⟩
                  obtain ⟨Y, hY⟩ : ∃ Y, b2 - m = Y := ⟨_, rfl⟩
                  have eX : (m : Int) - (a2 : Int) = (X : Int) := by omega
                  have eY : (b2 : Int) - (m : Int) = (Y : Int) := by omega
                  by_cases hXY : X < Y
                  · have hlt : ¬ (Y : Int) ≤ (X : Int) := by omega
                    have hlt2 : (X : Int) < (Y : Int) := by omega
                    have HREC := Lib.hid (IH.out (m - a2) (by omega) a2 m l G3 w6 rfl HA3.out hpam (by omega) hl (HL3.out.left (by omega)) (HI3.out))
                    go_wp2_with fail
                    refine HREC.out.mono ?_
                    rintro r w7 ⟨rfl, E4, hA4, hP4, hS4, hK4⟩
                    have HA4 := Lib.hid hA4
                    have HP4 := Lib.hid (HP3.out.trans (hP4.mono ha (by omega)))
                    have HO4 : Hid (OutR E4 a b (m + 1) b2) := Lib.hid ((HO3.out.pm (hP4.mono (Nat.le_refl _) (by omega)) ha hb).part_l (HPT.out.pm_l hP4) hS4)
                    have HI4 := Lib.hid (hP4.inj (by omega) HI3.out)
                    have HL4 : Hid (Lo (m + 1) b2 E4) := Lib.hid ((HPT.out.pm_l hP4).lo (by omega) HI4.out)
                    have HK4 := Lib.hid (HK3.out.and hK4)
                    clear hA4 hP4 hS4 hK4
                    go_wp2_with fail
                    go_roundg (b2 - (m + 1))
                    case rel => exact ⟨m + 1, b2, l, _, _, E4, by go_num, rfl, rfl, rfl, rfl, by omega, by omega, hb, hl, rfl, HA4.out, HP4.out, HO4.out, HL4.out, HK4.out⟩
                    case measure => have := HQ.out; omega
                  · have hlt : (Y : Int) ≤ (X : Int) := by omega
                    have hlt2 : ¬ (X : Int) < (Y : Int) := by omega
                    have HREC : Hid (Calls Tryz.prog 81 #[.slice (some ⟨g, 0, none⟩) n cap, .int .i64 ((m : Int) + 1), .int .i64 (b2 : Int), .int .i64 (l : Int)] w6 _) := Lib.hid (IH.out (b2 - (m + 1)) (by omega) (m + 1) b2 l G3 w6 rfl HA3.out (by omega) (by omega) hl (HPT.out.lo (by omega) HI3.out) (HI3.out))
                    go_wp2_with fail
                    refine HREC.out.mono ?_
                    rintro r w7 ⟨rfl, E4, hA4, hP4, hS4, hK4⟩
                    have HA4 := Lib.hid hA4
                    have HP4 := Lib.hid (HP3.out.trans (hP4.mono (by omega) hb))
                    have HO4 : Hid (OutR E4 a b a2 m) := Lib.hid ((HO3.out.pm (hP4.mono (by omega) (Nat.le_refl _)) ha hb).part_r (HPT.out.pm_r hP4) hS4)
                    have HL4 : Hid (Lo a2 m E4) := Lib.hid (((hP4.mono (by omega) (Nat.le_refl _)).lo HL3.out).left (by omega))
                    have HK4 := Lib.hid (HK3.out.and hK4)
                    clear hA4 hP4 hS4 hK4
                    go_wp2_with fail
                    go_roundg (m - a2)
                    case rel => exact ⟨a2, m, l, _, _, E4, rfl, rfl, rfl, rfl, rfl, ha, by omega, by omega, hl, rfl, HA4.out, HP4.out, HO4.out, HL4.out, HK4.out⟩
                    case measure => have := HQ.out; omega
                · have d2 : decide ((0 : Int) < (a2 : Int)) = false := by simp; omega
                  go_wp2_with fail
                  go_quiet (fail)
                  go_wp2_with fail
                  refine (soPart_at g n C cap a2 b2 p2 G2 _ (HA2.out.drewN _) hn hc (by omega) hp3 hp4).mono ?_
                  rintro r w6 ⟨G3, m, bo, rfl, hA3, hP3a, hPT, hK3⟩
                  have HA3 := Lib.hid hA3
                  have HP3 := Lib.hid (HP2.out.trans (hP3a.mono ha hb))
                  have HO3 := Lib.hid (HO2.out.pm hP3a ha hb)
                  have HL3 := Lib.hid (hP3a.lo HL2.out)
                  have HI3 := Lib.hid (hP3a.inj (by omega) HI2.out)
                  have HPT := Lib.hid hPT
                  have HK3 := Lib.hid ((kept_drewN HK2.out _).and hK3)
                  have hpam := hPT.am
                  have hpmb := hPT.mb
                  clear hA3 hP3a hPT hK3 HA2 HP2 HO2 HL2 HI2 HK2
                  obtain ⟨X, hX⟩ : ∃ X, m - a2 = X := ⟨_, rfl⟩
                  obtain ⟨Y, hY⟩ : ∃ Y, b2 - m = Y := ⟨_, rfl⟩
                  have eX : (m : Int) - (a2 : Int) = (X : Int) := by omega
                  have eY : (b2 : Int) - (m : Int) = (Y : Int) := by omega
                  by_cases hXY : X < Y
                  · have hlt : ¬ (Y : Int) ≤ (X : Int) := by omega
                    have hlt2 : (X : Int) < (Y : Int) := by omega
                    have HREC := Lib.hid (IH.out (m - a2) (by omega) a2 m l G3 w6 rfl HA3.out hpam (by omega) hl (HL3.out.left (by omega)) (HI3.out))
                    go_wp2_with fail
                    refine HREC.out.mono ?_
                    rintro r w7 ⟨rfl, E4, hA4, hP4, hS4, hK4⟩
                    have HA4 := Lib.hid hA4
                    have HP4 := Lib.hid (HP3.out.trans (hP4.mono ha (by omega)))
                    have HO4 : Hid (OutR E4 a b (m + 1) b2) := Lib.hid ((HO3.out.pm (hP4.mono (Nat.le_refl _) (by omega)) ha hb).part_l (HPT.out.pm_l hP4) hS4)
                    have HI4 := Lib.hid (hP4.inj (by omega) HI3.out)
                    have HL4 : Hid (Lo (m + 1) b2 E4) := Lib.hid ((HPT.out.pm_l hP4).lo (by omega) HI4.out)
                    have HK4 := Lib.hid (HK3.out.and hK4)
                    clear hA4 hP4 hS4 hK4
                    go_wp2_with fail
                    go_roundg (b2 - (m + 1))
                    case rel => exact ⟨m + 1, b2, l, _, _, E4, by go_num, rfl, rfl, rfl, rfl, by omega, by omega, hb, hl, rfl, HA4.out, HP4.out, HO4.out, HL4.out, HK4.out⟩
                    case measure => have := HQ.out; omega
                  · have hlt : (Y : Int) ≤ (X : Int) := by omega
                    have hlt2 : ¬ (X : Int) < (Y : Int) := by omega
                    have HREC : Hid (Calls Tryz.prog 81 #[.slice (some ⟨g, 0, none⟩) n cap, .int .i64 ((m : Int) + 1), .int .i64 (b2 : Int), .int .i64 (l : Int)] w6 _) := Lib.hid (IH.out (b2 - (m + 1)) (by omega) (m + 1) b2 l G3 w6 rfl HA3.out (by omega) (by omega) hl (HPT.out.lo (by omega) HI3.out) (HI3.out))
                    go_wp2_with fail
                    refine HREC.out.mono ?_
                    rintro r w7 ⟨rfl, E4, hA4, hP4, hS4, hK4⟩
                    have HA4 := Lib.hid hA4
                    have HP4 := Lib.hid (HP3.out.trans (hP4.mono (by omega) hb))
                    have HO4 : Hid (OutR E4 a b a2 m) := Lib.hid ((HO3.out.pm (hP4.mono (by omega) (Nat.le_refl _)) ha hb).part_r (HPT.out.pm_r hP4) hS4)
                    have HL4 : Hid (Lo a2 m E4) := Lib.hid (((hP4.mono (by omega) (Nat.le_refl _)).lo HL3.out).left (by omega))
                    have HK4 := Lib.hid (HK3.out.and hK4)
                    clear hA4 hP4 hS4 hK4
                    go_wp2_with fail
                    go_roundg (m - a2)
                    case rel => exact ⟨a2, m, l, _, _, E4, rfl, rfl, rfl, rfl, rfl, ha, by omega, by omega, hl, rfl, HA4.out, HP4.out, HO4.out, HL4.out, HK4.out⟩
                    case measure => have := HQ.out; omega
theorem soPdq_at (g n C cap : Nat) (hn : n ≤ 100000) (hc : n ≤ cap) (N : Nat) : PdqAt g n C cap N := by
  induction N using Nat.strongRecOn with
  | _ N ih => exact soPdq_step g n C cap N hn hc ih
end Go.Proofs.YtajccmkdfmpapaaGreatDoor
