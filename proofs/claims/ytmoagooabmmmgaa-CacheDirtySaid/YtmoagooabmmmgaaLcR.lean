/-
  platelayerlaw10.CacheDirty answers true.
-/
import Derived.Test.YtmoagooabmmmgaaLcP
import Derived.Test.YtmoagooabmmmgaaLcA0
import Derived.Test.YtmoagooabmmmgaaLcR0
import Derived.Deep.CutBlock
import Derived.Deep.DeepCutAuto
namespace Go.Proofs.Ytmoagooabmmmgaa
open Go.RowKit

theorem below_drewN {B : Nat} {a b : World} (h : Below B a b) (n : Nat) : Below B a (b.drewN n) := ⟨h.os, h.tape, h.output, h.size, h.block⟩
theorem any_take {L : List CE} (p : CE → Bool) (i : Nat) (h : i < L.length) : (L.take (i + 1)).any p = ((L.take i).any p || p L[i]) := by
  rw [List.take_succ_eq_append_getElem h, List.any_append]
  simp
theorem i64_top {n : Int} (h : (Lit.int .i64 n).wf = true) : n < 9223372036854775808 := by
  simp only [Lit.wf, Bool.and_eq_true, decide_eq_true_eq] at h
  have h2 : n ≤ 9223372036854775807 := h.2
  omega
set_option maxHeartbeats 8000000 in
set_option maxRecDepth 100000 in
theorem cdirtyl_true {w : World} (n : Int) (A : Option Addr) (m c : Nat) (l : List CAct) (k : Int) (hk : k < 9223372036854775808) (hl : l.length = m) (hr : RdC w A l) : Calls Try.prog 3 #[.int .i64 n, .slice A m c, .int .i64 k] w (BoolB true w) := by
  have HL := Lib.hid hl
  have HR := Lib.hid hr
  have HK := Lib.hid hk
  clear hl hr hk
  go_enter Try.func3, Try.ntmps3
  go_wp2_with fail
  refine (caawake_true w).mono ?_
  rintro r w1 ⟨rfl, hb⟩
  have HB1 := Lib.hid hb
  clear hb
  go_wp2_with fail
  refine (lcnew_at n w1).mono ?_
  rintro r w2 ⟨hb, h⟩
  have HB2 := Lib.hid (below_all HB1.out hb)
  by_cases hnn : 1 ≤ n ∧ n ≤ 64
  · rw [if_pos hnn] at h
    obtain ⟨cb, kb, ib, eb, hge, rfl, hm⟩ := h
    have HW2 : Hid (LcW w w2 cb kb ib eb ⟨[], [], [], n.toNat⟩) := Lib.hid ⟨⟨id, hm⟩, by have := HB1.out.size; omega, HB2.out⟩
    clear hb hge hm
    by_cases hmm : 200 < m
    · go_wp2_with fail
      go_ret
      exact ⟨rfl, HB2.out⟩
    by_cases hk : k < 0
    · go_wp2_with fail
      go_ret
      exact ⟨rfl, HB2.out⟩
    clear HB2 HB1
    go_upto_region 7 with fail
    obtain ⟨kn, rfl⟩ : ∃ kn : Nat, k = (kn : Int) := ⟨k.toNat, by omega⟩
    clear hk
    have q4 : IntKind.i64.wrap ((kn : Int).tdiv 4) = ((kn / 4 : Nat) : Int) := by
      rw [Int.tdiv_eq_ediv_of_nonneg (by omega), IntWalk.i64_in _ (by have := HK.out; omega)]
      omega
    obtain ⟨k4, hk4⟩ : ∃ z, kn / 4 = z := ⟨_, rfl⟩
    have HK4 := Lib.hid hk4
    rw [hk4] at q4
    have q5 : wrap64 ((kn : Int) / 4) = (k4 : Int) := by
      rw [show (kn : Int) / 4 = ((kn / 4 : Nat) : Int) by omega, hk4]
      unfold wrap64
      have := HK.out
      omega
    clear hk4
    go_wp2_with fail
    go_loopg [9, 10, 11, 42] m (fun q s9 s10 s11 x wr => ∃ (i : Nat) (S : CaS), i ≤ m ∧ q = m - i ∧ s9 = .int .u32 (S.addr (kn : Int) : Int) ∧ s10 = .bool (S.has (kn : Int)) ∧ s11 = .bool (S.dty (kn : Int)) ∧ x = .int .i64 (i : Int) ∧ LcW w wr cb kb ib eb S)
    case atStart => exact ⟨0, _, by omega, rfl, rfl, rfl, rfl, rfl, HW2.out⟩
    case round =>
      clear HW2
      obtain ⟨i, S, hi, hq, rfl, rfl, rfl, rfl, hw⟩ := hrel
      have HQ := Lib.hid hq
      have HW := Lib.hid hw
      clear hq hw
      obtain ⟨ad, had⟩ : ∃ z, S.addr (kn : Int) = z := ⟨_, rfl⟩
      obtain ⟨th, hth⟩ : ∃ z, S.has (kn : Int) = z := ⟨_, rfl⟩
      obtain ⟨dy, hdy⟩ : ∃ z, S.dty (kn : Int) = z := ⟨_, rfl⟩
      have HI := Lib.hid (And.intro had (And.intro hth hdy))
      rw [had, hth, hdy]
      clear had hth hdy
      by_cases hlt : i < m
      · have hll : i < l.length := by rw [HL.out]; exact hlt
        obtain ⟨b, o, rfl, _, hcell⟩ := (HR.out.below HW.out.old) (by omega)
        obtain ⟨c0, c1, c2, c3⟩ := hcell i hll
        obtain ⟨xd, hxd⟩ : ∃ d, l[i].d = d := ⟨_, rfl⟩
        obtain ⟨xb, hxb⟩ : ∃ d, l[i].b = d := ⟨_, rfl⟩
        obtain ⟨xa, hxa⟩ : ∃ d, l[i].a = d := ⟨_, rfl⟩
        obtain ⟨xy, hxy⟩ : ∃ d, l[i].y = d := ⟨_, rfl⟩
        rw [hxd] at c0
        rw [hxb] at c1
        rw [hxa] at c2
        rw [hxy] at c3
        obtain ⟨wa, hwa⟩ : ∃ wa, wr.alloc (.cells #[.int .i64 xd, .int .i64 xb, .int .u32 (xa : Int), .bool xy] 31) = wa := ⟨_, rfl⟩
        have hba : Below wr.heap.size wr wa := by rw [← hwa]; exact (Below.refl _ _).alloc (Nat.le_refl _) _
        have hbk : Blk wa wr.heap.size 31 [.int .i64 xd, .int .i64 xb, .int .u32 (xa : Int), .bool xy] := by rw [← hwa]; exact heap_alloc_new wr _
        have hcx : cb < wr.heap.size := HW.out.lt.2.2.2.2
        have HV := Lib.hid (wvic (HW.out.up hba))
        have HIN := Lib.hid (info_do S xd xb xa xy kn)
        obtain ⟨vi, hvi⟩ : ∃ z, S.vicE.isSome = z := ⟨_, rfl⟩
        obtain ⟨⟨vb, va, vd⟩, hvc⟩ : ∃ z, vicF S = z := ⟨_, rfl⟩
        obtain ⟨tb, htb⟩ : ∃ z, S.toldB xd xb = z := ⟨_, rfl⟩
        unfold infoN c2F c3F at HIN
        unfold ceV LcWTo at HV
        rw [HI.out.1, HI.out.2.1, HI.out.2.2, hvi, hvc, htb] at HIN
        rw [hvi, hvc] at HV
        obtain ⟨xp, hxp⟩ : ∃ z, wr.heap.size = z := ⟨_, rfl⟩
        rw [hxp] at hbk hcx
        have HXP := Lib.hid hbk
        have HCX := Lib.hid hcx
        clear hcell hxd hxb hxa hxy hba hbk HW hvi hvc HI hcx
        go_wp2_with fail
        refine HV.out.mono ?_
        rintro r w3 ⟨rfl, h3, hk3⟩
        have hx3 := hk3.blk HXP.out (by intro e; have := HCX.out; have := h3.lt; unfold lcF at e; omega)
        obtain ⟨w4, hw4⟩ : ∃ u, w3.alloc (.cells #[.int .i64 (vb : Int), .int .u32 (va : Int), .bool vd] 33) = u := ⟨_, rfl⟩
        have hb4 : Below w3.heap.size w3 w4 := by rw [← hw4]; exact (Below.refl _ _).alloc (Nat.le_refl _) _
        have hv4 : Blk w4 w3.heap.size 33 [.int .i64 (vb : Int), .int .u32 (va : Int), .bool vd] := by rw [← hw4]; exact heap_alloc_new w3 _
        have hx4 : Blk w4 xp 31 [.int .i64 xd, .int .i64 xb, .int .u32 (xa : Int), .bool xy] := hx3.up hb4 (lt_of_block hx3)
        have hcv : cb < w3.heap.size := h3.lt.2.2.2.2
        obtain ⟨vp, hvp⟩ : ∃ z, w3.heap.size = z := ⟨_, rfl⟩
        rw [hvp] at hv4 hcv
        have y0 := hx4.cell 0 (by simp)
        have y1 := hx4.cell 1 (by simp)
        have y2 := hx4.cell 2 (by simp)
        have y3 := hx4.cell 3 (by simp)
        simp only [List.getElem_cons_zero, List.getElem_cons_succ] at y0 y1 y2 y3
        have HX4 := Lib.hid hx4
        have HV4 := Lib.hid hv4
        have HCV := Lib.hid hcv
        have HA := Lib.hid (wdo xd xb xa xy (h3.up hb4))
        unfold LcWTo at HA
        rw [htb] at HA
        clear hx3 hb4 hv4 hx4 hcv h3 hk3 HV HXP htb
        go_wp2_with fail
        refine HA.out.mono ?_
        rintro r w5 ⟨rfl, h5, hk5⟩
        obtain ⟨S', hS'⟩ : ∃ S', S.doS xd xb xa xy = S' := ⟨_, rfl⟩
        rw [hS'] at h5 HIN
        obtain ⟨q1, hq1⟩ : ∃ z, S.toldN xd xb = z := ⟨_, rfl⟩
        obtain ⟨q3, hq3⟩ : ∃ z, S.toldM xd xb = z := ⟨_, rfl⟩
        rw [hq1, hq3]
        have hne := h5.lt
        have hx5 := hk5.blk HX4.out (by intro e; have := HCX.out; unfold lcF at e; omega)
        have hv5 := hk5.blk HV4.out (by intro e; have := HCV.out; unfold lcF at e; omega)
        obtain ⟨w6, hw6⟩ : ∃ u, w5.alloc (.cells #[.int .u32 (q1 : Int), .bool tb, .int .i64 (q3 : Int)] 37) = u := ⟨_, rfl⟩
        have hb6 : Below w5.heap.size w5 w6 := by rw [← hw6]; exact (Below.refl _ _).alloc (Nat.le_refl _) _
        have ht6 : Blk w6 w5.heap.size 37 [.int .u32 (q1 : Int), .bool tb, .int .i64 (q3 : Int)] := by rw [← hw6]; exact heap_alloc_new w5 _
        obtain ⟨tp, htp⟩ : ∃ z, w5.heap.size = z := ⟨_, rfl⟩
        rw [htp] at ht6
        have HX6 := Lib.hid (hx5.up hb6 (lt_of_block hx5))
        have HV6 := Lib.hid (hv5.up hb6 (lt_of_block hv5))
        have HW6 := Lib.hid (h5.up hb6)
        have z0 := HX6.out.cell 0 (by simp)
        have z1 := HX6.out.cell 1 (by simp)
        have z2 := HX6.out.cell 2 (by simp)
        have z3 := HX6.out.cell 3 (by simp)
        have u1 := ht6.cell 1 (by simp)
        simp only [List.getElem_cons_zero, List.getElem_cons_succ] at z0 z1 z2 z3 u1
        clear hS' HA y0 y1 y2 y3 c0 c1 c2 c3 hq1 hq3 hx5 hv5 hb6 ht6 h5 hk5 hne HX4 HV4
        go_upto_region 12 with fail
        clear hwa hxp hw4 hvp hw6 htp
        go_cut [63] (fun s63 wx => s63 = .bool (p1F xd xb kn) ∧ wx = w6)
        case first =>
          by_cases h4 : xd = 4
          · subst h4
            go_wp2_with fail
            go_meet
            case rel => exact ⟨by unfold p1F; rw [HK4.out]; simp; rfl, rfl⟩
          · have qq : (xd == 4) = false := by simpa using h4
            go_wp2_with fail
            go_meet
            case rel => exact ⟨by unfold p1F; simp [h4], rfl⟩
        case rest =>
          obtain ⟨rfl, rfl⟩ := hcut
          obtain ⟨p1, hp1⟩ : ∃ z, p1F xd xb kn = z := ⟨_, rfl⟩
          rw [hp1] at HIN ⊢
          clear hp1
          go_upto_if 63 with fail
          go_cut [11] (fun s11 wx => s11 = .bool (dyF p1 dy) ∧ wx = wc)
          case first =>
            cases p1 with
            | true =>
              go_wp2_with fail
              go_meet
              case rel => exact ⟨rfl, rfl⟩
            | false =>
              go_wp2_with fail
              go_meet
              case rel => exact ⟨rfl, rfl⟩
          case rest =>
          obtain ⟨rfl, rfl⟩ := hcut
          obtain ⟨dy1, hp1⟩ : ∃ z, dyF p1 dy = z := ⟨_, rfl⟩
          rw [hp1] at HIN ⊢
          clear hp1
          go_upto_region 14 with fail
          go_cut [71] (fun s71 wx => s71 = .bool (decide (xb = (kn : Int)) && tb) ∧ wx = wc)
          case first =>
            by_cases h4 : xb = (kn : Int)
            · subst h4
              go_wp2_with fail
              go_meet
              case rel => exact ⟨by simp, rfl⟩
            · have qq : (xb == (kn : Int)) = false := by simpa using h4
              go_wp2_with fail
              go_meet
              case rel => exact ⟨by simp [h4], rfl⟩
          case rest =>
          obtain ⟨rfl, rfl⟩ := hcut
          obtain ⟨c2, hp1⟩ : ∃ z, (decide (xb = (kn : Int)) && tb) = z := ⟨_, rfl⟩
          rw [hp1] at HIN ⊢
          clear hp1
          obtain ⟨w6, hw6⟩ : ∃ z, wc = z := ⟨_, rfl⟩
          subst hw6
          go_upto_if 71 with fail
          go_cut [9, 10, 11] (fun s9 s10 s11 wx => s9 = .int .u32 ((I2 c2 xd xa xy ad th dy1).1 : Int) ∧ s10 = .bool (I2 c2 xd xa xy ad th dy1).2.1 ∧ s11 = .bool (I2 c2 xd xa xy ad th dy1).2.2 ∧ Below wc.heap.size wc wx)
          case first =>
            cases c2 with
            | false =>
              go_wp2_with fail
              go_meet
              case rel => exact ⟨rfl, rfl, rfl, Below.refl _ _⟩
            | true =>
              by_cases h1 : xd = 1
              · subst h1
                go_upto_region 17 with fail
                cases dy1 with
                | true =>
                  go_quiet (fail)
                  go_wp2_with fail
                  go_meet
                  case rel => exact ⟨rfl, rfl, rfl, below_drewN (Below.refl _ _) _⟩
                | false =>
                  go_quiet (fail)
                  go_wp2_with fail
                  go_meet
                  case rel => exact ⟨rfl, rfl, rfl, below_drewN (Below.refl _ _) _⟩
              · have qq1 : (xd == 1) = false := by simpa using h1
                by_cases h2 : xd = 2
                · subst h2
                  go_wp2_with fail
                  go_meet
                  case rel => exact ⟨rfl, rfl, rfl, Below.refl _ _⟩
                · have qq2 : (xd == 2) = false := by simpa using h2
                  by_cases h3 : xd = 3
                  · subst h3
                    go_wp2_with fail
                    go_meet
                    case rel => exact ⟨rfl, rfl, rfl, Below.refl _ _⟩
                  · have qq3 : (xd == 3) = false := by simpa using h3
                    have HE : Hid (I2 true xd xa xy ad th dy1 = (ad, th, dy1)) := Lib.hid (by unfold I2; simp [h1, h2, h3])
                    clear h1 h2 h3
                    go_wp2_with fail
                    go_meet
                    case rel => exact ⟨by rw [HE.out], by rw [HE.out], by rw [HE.out], Below.refl _ _⟩
          case rest =>
          obtain ⟨rfl, rfl, rfl, hb7⟩ := hcut
          obtain ⟨J, hJ⟩ : ∃ J, I2 c2 xd xa xy ad th dy1 = J := ⟨_, rfl⟩
          rw [hJ] at HIN ⊢
          obtain ⟨ad2, th2, dy2⟩ := J
          have HX7 := Lib.hid (HX6.out.up hb7 (lt_of_block HX6.out))
          have HV7 := Lib.hid (HV6.out.up hb7 (lt_of_block HV6.out))
          have HW7 := Lib.hid (HW6.out.up hb7)
          clear z0 z1 z2 z3 u1 HX6 HV6 HW6 hb7 hJ
          have z0 := HX7.out.cell 0 (by simp)
          have v0 := HV7.out.cell 0 (by simp)
          simp only [List.getElem_cons_zero] at z0 v0
          go_upto_region 22 with fail
          go_cut [100] (fun s100 wx => s100 = .bool (decide (xd = 5) && vi && decide ((vb : Int) = (kn : Int))) ∧ wx = wc)
          case first =>
            by_cases h4 : xd = 5
            · subst h4
              cases vi with
              | true =>
                by_cases h5 : (vb : Int) = (kn : Int)
                · have qq : ((vb : Int) == (kn : Int)) = true := by simpa using h5
                  go_wp2_with fail
                  go_meet
                  case rel => exact ⟨by simp [h5], rfl⟩
                · have qq : ((vb : Int) == (kn : Int)) = false := by simpa using h5
                  go_wp2_with fail
                  go_meet
                  case rel => exact ⟨by simp [h5], rfl⟩
              | false =>
                go_wp2_with fail
                go_meet
                case rel => exact ⟨by simp, rfl⟩
            · have qq : (xd == 5) = false := by simpa using h4
              go_wp2_with fail
              go_meet
              case rel => exact ⟨by simp [h4], rfl⟩
          case rest =>
          obtain ⟨rfl, rfl⟩ := hcut
          obtain ⟨c3, hp1⟩ : ∃ z, (decide (xd = 5) && vi && decide ((vb : Int) = (kn : Int))) = z := ⟨_, rfl⟩
          rw [hp1] at HIN ⊢
          clear hp1
          go_upto_if 100 with fail
          go_cut [9, 10, 11] (fun s9 s10 s11 wx => s9 = .int .u32 ((I3 c3 (ad2, th2, dy2)).1 : Int) ∧ s10 = .bool (I3 c3 (ad2, th2, dy2)).2.1 ∧ s11 = .bool (I3 c3 (ad2, th2, dy2)).2.2 ∧ wx = wc)
          case first =>
            cases c3 with
            | true =>
              go_wp2_with fail
              go_meet
              case rel => exact ⟨rfl, rfl, rfl, rfl⟩
            | false =>
              go_wp2_with fail
              go_meet
              case rel => exact ⟨rfl, rfl, rfl, rfl⟩
          case rest =>
          obtain ⟨rfl, rfl, rfl, rfl⟩ := hcut
          obtain ⟨J, hJ⟩ : ∃ J, I3 c3 (ad2, th2, dy2) = J := ⟨_, rfl⟩
          rw [hJ] at HIN ⊢
          obtain ⟨ad3, th3, dy3⟩ := J
          have HP := Lib.hid (wpeek (kn : Int) HW7.out)
          unfold LcWTo LPeekV at HP
          rw [HIN.out.1, HIN.out.2.1] at HP
          clear hJ HW7 z0 v0 HX7 HV7
          go_wp2_with fail
          refine HP.out.mono ?_
          rintro r w8 ⟨rfl, h8, _⟩
          have HD := Lib.hid (wdirty ((k4 : Nat) : Int) h8)
          have HDA := Lib.hid (CaS.dirty_any kn h8.wf)
          rw [HK4.out, HIN.out.2.2] at HDA
          obtain ⟨D, hD⟩ : ∃ D, S'.dirtyL ((k4 : Nat) : Int) = D := ⟨_, rfl⟩
          have hdl : (S'.dirtyL ((k4 : Nat) : Int)).length ≤ 64 := Nat.le_trans (List.length_filter_le _ _) (Nat.le_trans h8.wf.le h8.wf.n64)
          rw [hD] at HDA HD hdl
          obtain ⟨N, hN⟩ : ∃ N, D.length = N := ⟨_, rfl⟩
          have HN := Lib.hid hN
          rw [hN] at hdl
          clear hN hD h8 HP
          go_wp2_with fail
          refine HD.out.mono ?_
          rintro r w9 ⟨A9, c9, rfl, hr9, _, hb9, h9, _⟩
          rw [HN.out]
          have HR9 := Lib.hid hr9
          have HW9 := Lib.hid h9
          clear hr9 hb9 h9 HD
          go_wp2_with fail
          go_loopg [19, 112] N (fun q x y wq => ∃ (j : Nat), j ≤ N ∧ q = N - j ∧ x = .bool ((D.take j).any (fun e => decide ((e.b : Int) = (kn : Int)))) ∧ y = .int .i64 (j : Int) ∧ RdV wq wq.heap.size A9 (cesC D) ∧ LcW w wq cb kb ib eb S')
          case atStart => exact ⟨0, by omega, rfl, by simp, rfl, HR9.out, HW9.out⟩
          case round =>
            clear HR9 HW9
            obtain ⟨j, hj, hq2, rfl, rfl, hr2, hw2⟩ := hrel
            have HQ2 := Lib.hid hq2
            have HR2 := Lib.hid hr2
            have HW2 := Lib.hid hw2
            clear hq2 hr2 hw2
            by_cases hlt2 : j < N
            · have hll : j < D.length := by rw [HN.out]; exact hlt2
              obtain ⟨b9, o9, hA9, _, hcell⟩ := HR2.out (by rw [cesC_len, HN.out]; omega)
              obtain ⟨c0, c1, c2⟩ := ces_cells hcell j hll
              have HT := Lib.hid (any_take (L := D) (fun e => decide ((e.b : Int) = (kn : Int))) j hll)
              obtain ⟨f, hf⟩ : ∃ f, (D.take j).any (fun e => decide ((e.b : Int) = (kn : Int))) = f := ⟨_, rfl⟩
              rw [hf] at HT ⊢
              obtain ⟨x, hx⟩ : ∃ x, D[j].b = x := ⟨_, rfl⟩
              obtain ⟨y, hy⟩ : ∃ y, D[j].a = y := ⟨_, rfl⟩
              obtain ⟨d, hd⟩ : ∃ d, D[j].d = d := ⟨_, rfl⟩
              rw [hx] at c0 HT
              rw [hy] at c1
              rw [hd] at c2
              obtain ⟨w5, hw5⟩ : ∃ u, wr.alloc (.cells #[.int .i64 (x : Int), .int .u32 (y : Int), .bool d] 33) = u := ⟨_, rfl⟩
              have hb5 : Below wr.heap.size wr w5 := by rw [← hw5]; exact (Below.refl _ _).alloc (Nat.le_refl _) _
              have hx5 : Blk w5 wr.heap.size 33 [.int .i64 (x : Int), .int .u32 (y : Int), .bool d] := by rw [← hw5]; exact heap_alloc_new wr _
              have y0 := hx5.cell 0 (by simp)
              simp only [List.getElem_cons_zero] at y0
              have HR5 := Lib.hid (HR2.out.up hb5)
              have HB5 := Lib.hid (HW2.out.up hb5)
              obtain ⟨a5, ha5⟩ : ∃ a, wr.heap.size = a := ⟨_, rfl⟩
              rw [ha5] at y0
              subst hA9
              clear hcell hx hy hd hb5 hx5 HR2 HW2 hf
              go_upto_region 29 with fail
              clear hw5 ha5
              cases f with
              | true =>
                go_wp2_with fail
                go_roundg (N - (j + 1))
                case rel => exact ⟨j + 1, by omega, rfl, by rw [HT.out]; rfl, by go_num, HR5.out, HB5.out⟩
                case measure => have := HQ2.out; omega
              | false =>
                go_wp2_with fail
                go_roundg (N - (j + 1))
                case rel => exact ⟨j + 1, by omega, rfl, by rw [HT.out]; simp; rfl, by go_num, HR5.out, HB5.out⟩
                case measure => have := HQ2.out; omega
            · obtain rfl : j = N := by omega
              have hto : D.take j = D := List.take_of_length_le (by rw [HN.out]; exact Nat.le_refl _)
              rw [hto, HDA.out]
              have qa : ((ad3 : Int) != (ad3 : Int)) = false := by simp
              have qt : (th3 != th3) = false := by simp
              have qd : (dy3 != dy3) = false := by simp
              clear hto HR2
              go_wp2_with fail
              go_roundg (m - (i + 1))
              case rel => exact ⟨i + 1, S', by omega, rfl, by rw [HIN.out.1], by rw [HIN.out.2.1], by rw [HIN.out.2.2], by go_num, HW2.out⟩
              case measure => have := HQ.out; omega
      · go_wp2_with fail
        go_ret
        exact ⟨rfl, HW.out.old⟩
  · rw [if_neg hnn] at h
    obtain rfl := h
    clear hb
    go_wp2_with fail
    go_ret
    exact ⟨rfl, HB2.out⟩
end Go.Proofs.Ytmoagooabmmmgaa
