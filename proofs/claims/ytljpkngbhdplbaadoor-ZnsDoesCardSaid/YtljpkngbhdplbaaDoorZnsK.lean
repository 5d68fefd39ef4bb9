/-
  The document's device: Crash.
-/
import Derived.Test.YtljpkngbhdplbaaDoorZnsJ
import Derived.Deep.DeepCutAuto
import Derived.Deep.CutBlock
namespace Go.Proofs.YtljpkngbhdplbaaDoor
open Go.RowKit

def kCells (l : List Int) : List Value := l.map (fun k => .int .i64 k)
def tCells (l : List Bool) : List Value := l.map (fun b => .bool b)
set_option maxHeartbeats 1000000 in
set_option maxRecDepth 100000 in
theorem rcrash_at {F : Nat → Prop} {w : World} {db zb cap : Nat} {zs : List Value} {S : DevS} (keep : List Int) (tear : List Bool) (KA TA : Option Addr) (mk kc mt tc : Nat) (h : RD F w db zb cap zs S) (hK : RdV w w.heap.size KA (kCells keep)) (hKF : InN (kCells keep).length (fun k => ¬ F k) KA) (hmk : keep.length = mk) (hT : RdV w w.heap.size TA (tCells tear)) (hTF : InN (tCells tear).length (fun k => ¬ F k) TA) (hmt : tear.length = mt) :
    Calls Tryd.prog 43 #[.pointer (some ⟨db, 0, none⟩), .slice KA mk kc, .slice TA mt tc] w (fun r w' => r = .returned (.tuple #[]) ∧ RDev (grow F w w') w' db (S.crash keep tear) ∧ Kept F w w') := by
  have HH := Lib.hid h
  obtain ⟨n, hn⟩ : ∃ n, S.zones.length = n := ⟨_, rfl⟩
  have hnb : 1 ≤ n ∧ n ≤ 24 := by rw [← hn]; exact ⟨h.wf.z0, h.wf.z1⟩
  have HN := Lib.hid hn
  have HKD := Lib.hid (And.intro hK (And.intro hKF hmk))
  have HTD := Lib.hid (And.intro hT (And.intro hTF hmt))
  clear h hn hK hKF hmk hT hTF hmt
  go_enter Tryd.func43, Tryd.ntmps43
  go_wp2_with fail
  go_loopg [6] n (fun q x wr => ∃ (i : Nat) (zs : List Value), i ≤ n ∧ q = n - i ∧ x = .int .i64 i ∧ RD (grow F w wr) wr db zb cap zs (crashTo S keep tear i) ∧ Kept F w wr)
  case atStart => exact ⟨0, zs, by omega, by omega, rfl, by rw [crashTo_zero]; exact HH.out.grow, Kept.refl _ _⟩
  case round =>
    obtain ⟨i, zs, hi, hq, rfl, hr, hk⟩ := hrel
    have HQ := Lib.hid hq
    have H1 := Lib.hid hr
    have HK := Lib.hid hk
    have c0 := hr.c0
    rw [crashTo_len, HN.out] at c0
    clear hq hr hk
    by_cases hlt : i < n
    · have hlz : i < S.zones.length := by rw [HN.out]; exact hlt
      obtain ⟨v, k0, k1, k2, hrows, hrl, _, hv0⟩ := H1.out.zone i (crashTo_is hlz)
      have hnth := H1.out.nth i (crashTo_is hlz)
      rw [crashTo_get hlz] at k1 k2 hrows hnth
      obtain ⟨Z, hZ⟩ : ∃ Z, S.zones[i] = Z := ⟨_, rfl⟩
      have hzw := HH.out.wf.pages Z (hZ ▸ List.getElem_mem _)
      rw [hZ] at k1 k2 hrows hnth
      have HCA : Hid (crashAt S keep tear i = DevS.crashZ Z (keep.getD i 0) (tear.getD i false)) := Lib.hid (by rw [crashAt_get hlz, hZ])
      obtain ⟨B, cp, vs, rfl, hcp, hrv, hBF, hB0, hvl, hx⟩ := hrows.out
      obtain ⟨m, hm⟩ : ∃ m, Z.pages.length = m := ⟨_, rfl⟩
      obtain ⟨su, hsu⟩ : ∃ su, Z.sure = su := ⟨_, rfl⟩
      obtain ⟨fi, hfi⟩ : ∃ fi, Z.fin = fi := ⟨_, rfl⟩
      rw [hm] at k0 hcp hvl
      rw [hsu] at k1
      rw [hfi] at k2
      have HM := Lib.hid hm
      have HSU := Lib.hid hsu
      have HFI := Lib.hid hfi
      have hms : su ≤ m ∧ m ≤ 16 := by rw [← hm, ← hsu]; exact ⟨hzw.2.1, Nat.le_trans hzw.1 HH.out.wf.p1⟩
      have HVL : Hid (vs.length = m) := Lib.hid hvl
      have HRV := Lib.hid hrv
      have HX := Lib.hid hx
      have HB0 := Lib.hid hB0
      clear hZ hlz hrows hnth hrv hBF hB0 hvl hx hm hsu hfi hzw hv0
      obtain ⟨kp, hkp⟩ : ∃ kp, keep.getD i 0 = kp := ⟨_, rfl⟩
      obtain ⟨N, hNN⟩ : ∃ N, DevS.stays Z kp = N := ⟨_, rfl⟩
      have hNs : N = su + min kp.toNat (m - su) := by rw [← hNN, ← HM.out, ← HSU.out]; rfl
      have hNb : su ≤ N ∧ N ≤ m := by omega
      have HKP := Lib.hid hkp
      have HNN := Lib.hid hNN
      have HNS := Lib.hid hNs
      clear hkp hNN hNs
      go_upto_block 2 with fail
      have HBz : Hid (Below wr.heap.size wr (wr.alloc (.cells #[.slice B m cp, .int .i64 (su : Int), .bool fi] 79))) := Lib.hid (Below.alloc (Below.refl _ _) (Nat.le_refl _) _)
      have hzl : wr.heap.size < (wr.alloc (.cells #[.slice B m cp, .int .i64 (su : Int), .bool fi] 79)).heap.size := by rw [World.size_alloc]; omega
      have z0 : (wr.alloc (.cells #[.slice B m cp, .int .i64 (su : Int), .bool fi] 79)).cell? ⟨wr.heap.size, 0, none⟩ = some (.slice B m cp) := by simp
      have z1 : (wr.alloc (.cells #[.slice B m cp, .int .i64 (su : Int), .bool fi] 79)).cell? ⟨wr.heap.size, 1, none⟩ = some (.int .i64 (su : Int)) := by simp
      have z2 : (wr.alloc (.cells #[.slice B m cp, .int .i64 (su : Int), .bool fi] 79)).cell? ⟨wr.heap.size, 2, none⟩ = some (.bool fi) := by simp
      have HZB : Hid (Blk (wr.alloc (.cells #[.slice B m cp, .int .i64 (su : Int), .bool fi] 79)) wr.heap.size 79 [.slice B m cp, .int .i64 (su : Int), .bool fi]) := Lib.hid (heap_alloc_new wr _)
      generalize wr.alloc (.cells #[.slice B m cp, .int .i64 (su : Int), .bool fi] 79) = wz at *
      go_cut [8] (fun s8 wx => s8 = .int .i64 (N : Int) ∧ wx = wz)
      case first =>
        by_cases hik : i < mk
        · obtain ⟨kb, ko, kx, hcell⟩ : ∃ kb ko, KA = some ⟨kb, ko, none⟩ ∧ wz.cell? ⟨kb, ko + i, none⟩ = some (.int .i64 kp) := by
            have hkl : i < (kCells keep).length := by simp [kCells, HKD.out.2.2, hik]
            obtain ⟨b, o, e, _, hc⟩ := ((HKD.out.1.keep HK.out HKD.out.2.1).up HBz.out) (by omega)
            refine ⟨b, o, e, ?_⟩
            rw [hc i hkl]
            have : i < keep.length := by rw [HKD.out.2.2]; exact hik
            simp [kCells, ← HKP.out, List.getD_eq_getElem?_getD, List.getElem?_eq_getElem this]
          subst kx
          go_wp2_with fail
          go_loopg [8, 9] (N - su) (fun q a b wx => ∃ j : Nat, su + j ≤ N ∧ q = N - su - j ∧ a = .int .i64 ((su + j : Nat) : Int) ∧ b = .int .i64 (j : Int) ∧ wz = wx)
          case atStart => exact ⟨0, by omega, by omega, rfl, rfl, rfl⟩
          case round =>
            obtain ⟨j, hj, hq, rfl, rfl, rfl⟩ := hrel
            have HQ2 := Lib.hid hq
            clear hq
            by_cases h1 : (j : Int) < kp
            · by_cases h2 : su + j < m
              · have hN1 : su + (j + 1) ≤ N := by have := HNS.out; omega
                go_wp2_with fail
                go_roundg (N - su - (j + 1))
                case rel => exact ⟨j + 1, hN1, rfl, by go_num, by go_num, rfl⟩
                case measure => have := HQ2.out; omega
              · have hN1 : su + j = N := by have := HNS.out; omega
                have HE1 := Lib.hid hN1
                clear hN1
                go_wp2_with fail
                go_meet
                case rel => exact ⟨by have := HE1.out; first | (rw [this]) | (congr 1; omega), rfl⟩
            · have hN1 : su + j = N := by have := HNS.out; omega
              have HE1 := Lib.hid hN1
              clear hN1
              go_wp2_with fail
              go_meet
              case rel => exact ⟨by have := HE1.out; first | (rw [this]) | (congr 1; omega), rfl⟩
        · have hN1 : su = N := by
            have h0 : kp = 0 := by
              rw [← HKP.out, List.getD_eq_getElem?_getD, List.getElem?_eq_none (by have := HKD.out.2.2; omega)]
              rfl
            have := HNS.out
            omega
          have HE1 := Lib.hid hN1
          clear hN1
          go_wp2_with fail
          go_loopg [8, 9] 0 (fun q a b wx => q = 0 ∧ a = .int .i64 (su : Int) ∧ b = .int .i64 0 ∧ wz = wx)
          case atStart => exact ⟨rfl, rfl, rfl, rfl⟩
          case round =>
            obtain ⟨_, rfl, rfl, rfl⟩ := hrel
            go_wp2_with fail
            go_meet
            case rel => exact ⟨by rw [HE1.out], rfl⟩
      case rest =>
        obtain ⟨rfl, rfl⟩ := hcut
        have HVT : Hid ((vs.take N).length = N) := Lib.hid (by rw [List.length_take, HVL.out]; omega)
        have HRT : Hid (RdV wc wc.heap.size B (vs.take N)) := Lib.hid (by
          intro hp
          obtain ⟨b, o, e, hb, hc⟩ := (HRV.out.up HBz.out) (by rw [List.length_take] at hp; omega)
          exact ⟨b, o, e, hb, fun j hj => by rw [hc j (by rw [List.length_take] at hj; omega), List.getElem_take]⟩)
        have HONE : Hid (∀ u ∈ vs.take N, u.oneCell' = true) := Lib.hid (fun u hu => rows_one (by rw [HVL.out, HM.out]) HX.out u (List.mem_of_mem_take hu))
        have HOE : Hid (RowV (wc.alloc (.cells #[] 35)) (wr.heap.size + 1) 35 (.slice (some ⟨wc.heap.size, 0, none⟩) 0 0) []) := Lib.hid (RowV.new wc _ _ hzl)
        have HBE : Hid (Below wr.heap.size wr (wc.alloc (.cells #[] 35))) := Lib.hid (HBz.out.alloc HBz.out.size _)
        have HZE : Hid (Blk (wc.alloc (.cells #[] 35)) wr.heap.size 79 [.slice B m cp, .int .i64 (su : Int), .bool fi]) := Lib.hid (HZB.out.up (Below.alloc (Below.refl wc.heap.size wc) (Nat.le_refl _) _) hzl)
        have hesz : wr.heap.size + 1 ≤ (wc.alloc (.cells #[] 35)).heap.size := by rw [World.size_alloc]; omega
        go_upto_region 10 with (first
          | (at_builtin; refine appR _ rfl (.tmp 52) (.tmp 56) 48 35 (.slice none 0 0) 24 rfl Tryd.underlying48 infoRow rfl (by decide) (wr.heap.size + 1) 0 N cp (.slice (some ⟨wc.heap.size, 0, none⟩) 0 0) [] (vs.take N) B rfl HOE.out rfl rfl HVT.out ?h1a HB0.out HONE.out ?h1b ?h1c ?_; (case h1a => exact HRT.out.up (Below.alloc (Below.refl _ _) (Nat.le_refl _) _)); (case h1b => omega); (case h1c => exact hesz); intro v2 w2 ho hg; obtain ⟨A2, c2, rfl⟩ : ∃ A c, v2 = .slice A N c := (by obtain ⟨A, c, e, _⟩ := ho.out; exact ⟨A, c, by rw [e]; exact congrArg (fun k => Value.slice A k c) HVT.out⟩); have HO2 : Hid (RowV w2 (wr.heap.size + 1) 35 (.slice A2 N c2) (vs.take N)) := Lib.hid ho; have HB2 : Hid (Below wr.heap.size wr w2) := Lib.hid (HBE.out.grown hg HBE.out.size (fun k e => by have := (HOE.out.own k e).1; omega)); have HZ2 := Lib.hid (HZE.out.kept hg (fun e => by have := (HOE.out.own _ e.symm).1; omega)); have hsz2 : wr.heap.size + 1 ≤ w2.heap.size := Nat.le_trans hesz hg.size; clear ho hg)
          | fail)
        obtain ⟨tt, htt⟩ : ∃ tt, tear.getD i false = tt := ⟨_, rfl⟩
        have HTT := Lib.hid htt
        clear htt
        have y0 : w2.cell? ⟨wr.heap.size, 0, none⟩ = some (.slice B m cp) := HZ2.out.cell 0 (by simp)
        have y2 : w2.cell? ⟨wr.heap.size, 2, none⟩ = some (.bool fi) := HZ2.out.cell 2 (by simp)
        go_cut [74] (fun s74 wx => s74 = .bool (tt && decide (N < m)) ∧ w2 = wx)
        case first =>
          by_cases hit : i < mt
          · obtain ⟨tb, tof, tx, tcell⟩ : ∃ tb tof, TA = some ⟨tb, tof, none⟩ ∧ w2.cell? ⟨tb, tof + i, none⟩ = some (.bool tt) := by
              have htl : i < (tCells tear).length := by simp [tCells, HTD.out.2.2, hit]
              obtain ⟨b, o, e, _, hc⟩ := ((HTD.out.1.keep HK.out HTD.out.2.1).up HB2.out) (by omega)
              refine ⟨b, o, e, ?_⟩
              rw [hc i htl]
              have : i < tear.length := by rw [HTD.out.2.2]; exact hit
              simp [tCells, ← HTT.out, List.getD_eq_getElem?_getD, List.getElem?_eq_getElem this]
            subst tx
            cases tt
            · go_wp2_with fail
              go_meet
              case rel => exact ⟨rfl, rfl⟩
            · by_cases hNm : N < m
              · go_wp2_with fail
                go_meet
                case rel => exact ⟨by simp [hNm], rfl⟩
              · go_wp2_with fail
                go_meet
                case rel => exact ⟨by simp [hNm], rfl⟩
          · obtain rfl : tt = false := by
              rw [← HTT.out, List.getD_eq_getElem?_getD, List.getElem?_eq_none (by have := HTD.out.2.2; omega)]
              rfl
            go_wp2_with fail
            go_meet
            case rel => exact ⟨rfl, rfl⟩
        case rest =>
          obtain ⟨rfl, rfl⟩ := hcut
          obtain ⟨bb, hbb⟩ : ∃ bb, (tt && decide (N < m)) = bb := ⟨_, rfl⟩
          have HBB : Hid ((tt && decide (DevS.stays Z kp < Z.pages.length)) = bb) := Lib.hid (by rw [HNN.out, HM.out]; exact hbb)
          rw [hbb]
          clear hbb
          have hdb := lt_of_block H1.out.dev
          have hzb := lt_of_block H1.out.blk
          have q0 := H1.out.blk.free (i * 3)
          have q1 := H1.out.blk.free (i * 3 + 1)
          have q2 := H1.out.blk.free (i * 3 + 2)
          cases bb
          · have HC := Lib.hid (crash_round (N := N) H1.out HH.out.wf (by rw [HN.out]; exact hlt) (by rw [HCA.out, HKP.out, HTT.out]) (by rw [HVL.out, HM.out]) (by rw [HSU.out, HM.out]; exact hms.1) HFI.out HX.out HB2.out (by rw [HBB.out, HNN.out]; simpa using HO2.out.le (Nat.le_succ _)) (by rw [HBB.out, HNN.out]; simpa using HVT.out) HK.out)
            have e0 : w2.cell? ⟨db, 0, none⟩ = some (.slice (some ⟨zb, 0, none⟩) n cap) := (HB2.out.cell (p := ⟨db, 0, none⟩) hdb).trans c0
            have e1 : w2.cell? ⟨zb, i * 3, none⟩ = some (.slice B m cp) := (HB2.out.cell (p := ⟨zb, i * 3, none⟩) hzb).trans k0
            have e2 : w2.cell? ⟨zb, i * 3 + 1, none⟩ = some (.int .i64 (su : Int)) := (HB2.out.cell (p := ⟨zb, i * 3 + 1, none⟩) hzb).trans k1
            have e3 : w2.cell? ⟨zb, i * 3 + 2, none⟩ = some (.bool fi) := (HB2.out.cell (p := ⟨zb, i * 3 + 2, none⟩) hzb).trans k2
            have g0 : w2.frozen? ⟨zb, i * 3, none⟩ = false := (HB2.out.frozen (p := ⟨zb, i * 3, none⟩) hzb).trans q0
            have g1 : w2.frozen? ⟨zb, i * 3 + 1, none⟩ = false := (HB2.out.frozen (p := ⟨zb, i * 3 + 1, none⟩) hzb).trans q1
            have g2 : w2.frozen? ⟨zb, i * 3 + 2, none⟩ = false := (HB2.out.frozen (p := ⟨zb, i * 3 + 2, none⟩) hzb).trans q2
            go_wp2_with fail
            go_region
            go_wp2_with fail
            go_roundg (n - (i + 1))
            case rel => exact ⟨i + 1, _, by omega, rfl, by go_num, HC.out.1.choose_spec.up (Below.refl _ _).drew, HC.out.2.drew⟩
            case measure => have := HQ.out; omega
          · have HNE : Hid (RowV (w2.alloc (.cells #[.slice none 0 0] 35)) (wr.heap.size + 1) 35 (.slice A2 N c2) (vs.take N)) := Lib.hid (HO2.out.rise (Below.alloc (Below.refl _ _) (Nat.le_refl _) _))
            have HBN : Hid (Below wr.heap.size wr (w2.alloc (.cells #[.slice none 0 0] 35))) := Lib.hid (HB2.out.alloc HB2.out.size _)
            have HZN : Hid (Blk (w2.alloc (.cells #[.slice none 0 0] 35)) wr.heap.size 79 [.slice B m cp, .int .i64 (su : Int), .bool fi]) := Lib.hid (HZ2.out.up (Below.alloc (Below.refl w2.heap.size w2) (Nat.le_refl _) _) hsz2)
            go_upto_region 12 with (first
              | (at_builtin; refine appR _ rfl (.tmp 75) (.tmp 76) 48 35 (.slice none 0 0) 24 rfl Tryd.underlying48 infoRow rfl (by decide) (wr.heap.size + 1) N 1 1 (.slice A2 N c2) (vs.take N) [.slice none 0 0] (some ⟨w2.heap.size, 0, none⟩) rfl HNE.out HVT.out rfl rfl (rdv_one w2 _ _) (fun e => by cases e) (fun u hu => by simp at hu; subst hu; rfl) ?h2b ?h2c ?_; (case h2b => omega); (case h2c => rw [World.size_alloc]; omega); intro v3 w3 ho hg; obtain ⟨A3, c3, rfl⟩ : ∃ A c, v3 = .slice A (N + 1) c := (by obtain ⟨A, c, e, _⟩ := ho.out; exact ⟨A, c, by rw [e, app_one_len HVT.out]⟩); have HO3 := Lib.hid ho; have HB3 : Hid (Below wr.heap.size wr w3) := Lib.hid (HBN.out.grown hg HBN.out.size (fun k e => by have := (HNE.out.own k e).1; omega)); have HZ3 := Lib.hid (HZN.out.kept hg (fun e => by have := (HNE.out.own _ e.symm).1; omega)); clear ho hg)
              | fail)
            have HC := Lib.hid (crash_round (N := N + 1) H1.out HH.out.wf (by rw [HN.out]; exact hlt) (by rw [HCA.out, HKP.out, HTT.out]) (by rw [HVL.out, HM.out]) (by rw [HSU.out, HM.out]; exact hms.1) HFI.out HX.out HB3.out (by rw [HBB.out, HNN.out]; simpa using HO3.out.le (Nat.le_succ _)) (by rw [HBB.out, HNN.out]; simpa using HVT.out) HK.out)
            have y3 : w3.cell? ⟨wr.heap.size, 2, none⟩ = some (.bool fi) := HZ3.out.cell 2 (by simp)
            have e0 : w3.cell? ⟨db, 0, none⟩ = some (.slice (some ⟨zb, 0, none⟩) n cap) := (HB3.out.cell (p := ⟨db, 0, none⟩) hdb).trans c0
            have e1 : w3.cell? ⟨zb, i * 3, none⟩ = some (.slice B m cp) := (HB3.out.cell (p := ⟨zb, i * 3, none⟩) hzb).trans k0
            have e2 : w3.cell? ⟨zb, i * 3 + 1, none⟩ = some (.int .i64 (su : Int)) := (HB3.out.cell (p := ⟨zb, i * 3 + 1, none⟩) hzb).trans k1
            have e3 : w3.cell? ⟨zb, i * 3 + 2, none⟩ = some (.bool fi) := (HB3.out.cell (p := ⟨zb, i * 3 + 2, none⟩) hzb).trans k2
            have g0 : w3.frozen? ⟨zb, i * 3, none⟩ = false := (HB3.out.frozen (p := ⟨zb, i * 3, none⟩) hzb).trans q0
            have g1 : w3.frozen? ⟨zb, i * 3 + 1, none⟩ = false := (HB3.out.frozen (p := ⟨zb, i * 3 + 1, none⟩) hzb).trans q1
            have g2 : w3.frozen? ⟨zb, i * 3 + 2, none⟩ = false := (HB3.out.frozen (p := ⟨zb, i * 3 + 2, none⟩) hzb).trans q2
            go_region
            go_wp2_with fail
            go_roundg (n - (i + 1))
            case rel => exact ⟨i + 1, _, by omega, rfl, by go_num, HC.out.1.choose_spec.up (Below.refl _ _).drew, HC.out.2.drew⟩
            case measure => have := HQ.out; omega
    · obtain rfl : i = n := by omega
      have f2 := H1.out.dev.free 2
      have f4 := H1.out.dev.free 4
      have c2 := H1.out.c2
      have c4 := H1.out.c4
      have HF : Hid (crashTo S keep tear i = crashTo S keep tear S.zones.length) := Lib.hid (by rw [HN.out])
      have HW : Hid (S.crash keep tear).WF := Lib.hid (DevS.crash_wf HH.out.wf _ _)
      have HE : Hid (RD (grow F w wr) ((wr.setCell ⟨db, 2, none⟩ (.int .i64 (-1))).setCell ⟨db, 4, none⟩ (.bool false)) db zb cap zs (S.crash keep tear)) := Lib.hid (by
        have h1 := H1.out.setDev (S' := { crashTo S keep tear i with left := -1 }) 2 (.int .i64 (-1)) rfl rfl ⟨H1.out.wf.z0, H1.out.wf.z1, H1.out.wf.p0, H1.out.wf.p1, by simp, by simp, H1.out.wf.pages⟩
        have h2 := h1.setDev (S' := { crashTo S keep tear i with left := -1, gone := false }) 4 (.bool false) rfl rfl ⟨h1.wf.z0, h1.wf.z1, h1.wf.p0, h1.wf.p1, h1.wf.l0, h1.wf.l1, h1.wf.pages⟩
        rw [HF.out, crashTo_all] at h2
        exact h2)
      have HKE : Hid (Kept F w ((wr.setCell ⟨db, 2, none⟩ (.int .i64 (-1))).setCell ⟨db, 4, none⟩ (.bool false))) := Lib.hid ((HK.out.put (.inl HH.out.fd) _ _).put (.inl HH.out.fd) _ _)
      go_wp2_with fail
      go_end0
      exact ⟨rfl, ⟨zb, cap, zs, rd_rounds (wr := wr) HE.out.grow HK.out.size (Nat.le_trans (kept_put wr db 2 _).size (kept_put _ db 4 _).size)⟩, HKE.out⟩
end Go.Proofs.YtljpkngbhdplbaaDoor
