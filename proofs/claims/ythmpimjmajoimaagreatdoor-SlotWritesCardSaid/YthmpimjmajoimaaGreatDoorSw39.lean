/-
  The document's Read of blocks: the directory that it tells lies in new memory.
-/
import Derived.Test.YthmpimjmajoimaaGreatDoorSw25
import Derived.Deep.RegionLaw
namespace Go.Proofs.YthmpimjmajoimaaGreatDoor
open Go.RowKit

theorem ReadN.no {e : Int} {l : List (List Int)} {w w' : World} (he : readGE l = e) (h0 : e ≠ 0) (hb : Below w.heap.size w w') : ReadN (.int .i64 (readGE l)) l w (.returned (.tuple #[kV 0 0 0 0 0 0 (.slice none 0 0), .int .i64 e])) w' := by
  have hn : readGE l ≠ 0 := by rw [he]; exact h0
  refine ⟨.slice none 0 0, ?_, ?_, hb⟩
  · unfold rdN
    rw [if_neg hn, if_neg hn, if_neg hn, if_neg hn, if_neg hn, if_neg hn, he]
  · unfold rdD
    rw [if_neg hn]
    exact ⟨none, 0, rfl, by simp [u32s], RdV.nil, (InF.none _).n, fun _ => rfl⟩
theorem NumRow.rowN {w0 w : World} {base : Nat} {S : Value} {ns : List Int} (h : NumRow w base S ns) (hB : w0.heap.size ≤ base) : RowF (newB w0 w) w S (u32s ns) := by
  rcases h.2 with ⟨rfl, h0⟩ | ⟨g, cap, cur, rfl, hb, hg, hc, _⟩
  · exact ⟨none, 0, by rw [u32s_len, h0], by rw [u32s_len]; omega, fun hn => by rw [u32s_len] at hn; omega, (InF.none _).n, fun _ => rfl⟩
  · have ho : OwnG w base 35 g cap (u32s ns) := by
      have := h
      unfold NumRow at this
      unfold OwnG
      rw [u32s_len]
      exact this
    exact ⟨_, cap, by rw [u32s_len], by rw [u32s_len]; exact hc, ho.rdV, (InF.one ⟨Nat.le_trans hB hb, lt_of_block hg⟩).n, fun e => by cases e⟩
set_option maxHeartbeats 4000000 in
set_option maxRecDepth 100000 in
theorem rkread_n {A : Option Addr} {n c : Nat} {vs : List Value} {l : List (List Int)} {w : World} (hl : l.length = n) (hv : RdV w w.heap.size A vs) (hr : RdR w vs l) (hx : ∀ x ∈ l, Byt x) (hn : n ≤ 10000) :
    Calls Tryz.prog 55 #[.slice A n c] w (ReadN (.int .i64 (readGE l)) l w) := by
  have HL := Lib.hid hl
  have HV := Lib.hid hv
  have HR := Lib.hid hr
  have HX := Lib.hid hx
  clear hl hv hr hx
  have HK := Lib.hid (KeptK.new w 46 zList)
  go_enter Tryz.func55, Tryz.ntmps55
  go_wp2_with fail
  obtain ⟨w1, hw1⟩ : ∃ w1 : World, w1 = w.alloc (.cells (kCellsq1 0 0 0 0 0 0 (.slice none 0 0)) 46) := ⟨_, rfl⟩
  rw [show w.alloc (.cells zList.toArray 46) = w1 from hw1.symm] at HK
  have hz1 : w1.heap.size = w.heap.size + 1 := by rw [hw1]; simp
  rw [← hw1]
  clear hw1
  have HO0 := Lib.hid (Own8.none w1 (w.heap.size + 1) (by omega))
  have HK1 := Lib.hid (HK.out.up (Below.alloc (Below.refl w1.heap.size w1) (Nat.le_refl _) (.cells #[] 5)))
  rw [hz1] at HO0
  clear hz1 HK
  obtain ⟨w2, hw2⟩ : ∃ w2 : World, w2 = w1.alloc (.cells #[] 5) := ⟨_, rfl⟩
  rw [← hw2] at HO0 HK1 ⊢
  clear hw2
  go_loopg [4, 5] n (fun q s x wr => ∃ k g cap : Nat, k ≤ n ∧ q = n - k ∧ x = .int .i64 k ∧ s = .slice (some ⟨g, 0, none⟩) (16 * k) cap ∧ ((l.take k).all fun b => decide (b.length = 16)) = true ∧ (l.take k).flatten.length = 16 * k ∧ Own8 wr (w.heap.size + 1) g cap (l.take k).flatten ∧ KeptK w 46 zList wr)
  case atStart => exact ⟨0, _, 0, by omega, by omega, rfl, rfl, rfl, rfl, HO0.out, HK1.out⟩
  case round =>
    clear HO0 HK1
    obtain ⟨k, g, cap, hk, hq, rfl, rfl, hall, hfl, ho, hkk⟩ := hrel
    have HQ := Lib.hid hq
    have HALL := Lib.hid hall
    have HFL := Lib.hid hfl
    have HO := Lib.hid ho
    have HB := Lib.hid hkk.1
    have HH := Lib.hid hkk.2
    clear hq hall hfl ho hkk
    by_cases hlt : k < n
    · have hk1 : k < l.length := by rw [HL.out]; exact hlt
      have hv1 : k < vs.length := by rw [HR.out.1]; exact hk1
      obtain ⟨A1, c1, e1, hc1, hx1⟩ := HR.out.2 k hv1 hk1
      obtain ⟨b, o, rfl, hbl, hcell⟩ := HV.out (by omega)
      have cc : wr.cell? ⟨b, o + k, none⟩ = some (.slice A1 l[k].length c1) := by
        have := hcell k hv1
        rw [e1] at this
        exact (HB.out.cell (p := ⟨b, o + k, none⟩) hbl).trans this
      have HX1 := Lib.hid (rd_up hx1 HB.out)
      clear hcell e1 hx1
      by_cases h16 : l[k].length = 16
      · have HF := Lib.hid (take_flatten hk1)
        have HA2 : Hid (((l.take (k + 1)).all fun b => decide (b.length = 16)) = true) := Lib.hid (by
          rw [List.take_succ_eq_append_getElem hk1, List.all_append, HALL.out]
          simp [h16])
        have H16 := Lib.hid h16
        have HF2 : Hid ((l.take (k + 1)).flatten.length = 16 * (k + 1)) := Lib.hid (by rw [← HF.out, List.length_append, HFL.out, h16]; omega)
        obtain ⟨b1, o1, rfl, _, _⟩ := HX1.out (by omega)
        rw [h16] at cc hc1
        clear h16
        generalize l[k] = row at *
        have HM := Lib.hid HO.out.mem
        go_wp2_with (first
          | (at_builtin; refine app8 _ rfl (.tmp 25) (.tmp 29) rfl (w.heap.size + 1) wr.heap.size g cap (16 * k) 16 c1 (l.take k).flatten row (some ⟨b1, o1, none⟩) rfl HO.out HFL.out rfl HX1.out H16.out (fun h => by cases h) ?h11 ?h12 ?h13 ?h14; (case h11 => omega); (case h12 => omega); (case h13 => have := HM.out; omega); intro g3 cap3 w3 ho hg; have HO3 := Lib.hid ho; have HB3 := Lib.hid (HB.out.grown hg HB.out.size (fun j hj => by have := Option.some.inj hj; have := HM.out.1; omega)); have HH3 := Lib.hid (HH.out.kept hg (fun e => by have := Option.some.inj e; have := HM.out.1; omega)); clear ho hg)
          | fail)
        go_roundg (n - (k + 1))
        case rel => exact ⟨k + 1, g3, cap3, by omega, rfl, by go_num, by rw [Nat.mul_add], HA2.out, HF2.out, by rw [← HF.out]; exact HO3.out, HB3.out, HH3.out⟩
        case measure => have := HQ.out; omega
      · have q1 : ((l[k].length : Int) != 16) = true := by simp; omega
        have HE : Hid (readGE l = 3) := Lib.hid (readGE_row hk1 h16)
        have d0 : wr.cell? ⟨w.heap.size, 0, none⟩ = some (.int .u32 0) := HH.out.cell 0 (by simp)
        have d1 : wr.cell? ⟨w.heap.size, 1, none⟩ = some (.int .u32 0) := HH.out.cell 1 (by simp)
        have d2 : wr.cell? ⟨w.heap.size, 2, none⟩ = some (.int .u32 0) := HH.out.cell 2 (by simp)
        have d3 : wr.cell? ⟨w.heap.size, 3, none⟩ = some (.int .i64 0) := HH.out.cell 3 (by simp)
        have d4 : wr.cell? ⟨w.heap.size, 4, none⟩ = some (.int .i64 0) := HH.out.cell 4 (by simp)
        have d5 : wr.cell? ⟨w.heap.size, 5, none⟩ = some (.int .i64 0) := HH.out.cell 5 (by simp)
        have d6 : wr.cell? ⟨w.heap.size, 6, none⟩ = some (.slice none 0 0) := HH.out.cell 6 (by simp)
        have f0 := HH.out.free 0
        have f1 := HH.out.free 1
        have f2 := HH.out.free 2
        have f3 := HH.out.free 3
        have f4 := HH.out.free 4
        have f5 := HH.out.free 5
        have f6 := HH.out.free 6
        generalize l[k].length = rowlen at *
        go_wp2_with fail
        refine bodyPost_ret (v := .tuple #[kV 0 0 0 0 0 0 (.slice none 0 0), .int .i64 3]) (by simp [results, Tryz.results55, go_sem, d0, d1, d2, d3, d4, d5, d6]) rfl ?_
        exact ReadN.no HE.out (by decide) (below_seven HB.out (Nat.le_refl _) _ _ _ _ _ _ _)
    · obtain rfl : k = n := by omega
      clear HV HR
      rw [List.take_of_length_le (by rw [HL.out]; omega)] at HALL HFL HO
      by_cases h2 : k < 2
      · skip
        have HE : Hid (readGE l = 3) := Lib.hid (readGE_short (by rw [HL.out]; exact h2))
        have d0 : wr.cell? ⟨w.heap.size, 0, none⟩ = some (.int .u32 0) := HH.out.cell 0 (by simp)
        have d1 : wr.cell? ⟨w.heap.size, 1, none⟩ = some (.int .u32 0) := HH.out.cell 1 (by simp)
        have d2 : wr.cell? ⟨w.heap.size, 2, none⟩ = some (.int .u32 0) := HH.out.cell 2 (by simp)
        have d3 : wr.cell? ⟨w.heap.size, 3, none⟩ = some (.int .i64 0) := HH.out.cell 3 (by simp)
        have d4 : wr.cell? ⟨w.heap.size, 4, none⟩ = some (.int .i64 0) := HH.out.cell 4 (by simp)
        have d5 : wr.cell? ⟨w.heap.size, 5, none⟩ = some (.int .i64 0) := HH.out.cell 5 (by simp)
        have d6 : wr.cell? ⟨w.heap.size, 6, none⟩ = some (.slice none 0 0) := HH.out.cell 6 (by simp)
        have f0 := HH.out.free 0
        have f1 := HH.out.free 1
        have f2 := HH.out.free 2
        have f3 := HH.out.free 3
        have f4 := HH.out.free 4
        have f5 := HH.out.free 5
        have f6 := HH.out.free 6
        go_wp2_with fail
        refine bodyPost_ret (v := .tuple #[kV 0 0 0 0 0 0 (.slice none 0 0), .int .i64 3]) (by simp [results, Tryz.results55, go_sem, d0, d1, d2, d3, d4, d5, d6]) rfl ?_
        exact ReadN.no HE.out (by decide) (below_seven HB.out (Nat.le_refl _) _ _ _ _ _ _ _)
      · have HROK : Hid (rowsOk l) := Lib.hid ⟨by rw [HL.out]; omega, HALL.out⟩
        have HBY := Lib.hid (byt_flatten HX.out)
        clear HALL HX hlt
        obtain ⟨all, hall⟩ : ∃ all, l.flatten = all := ⟨_, rfl⟩
        have HFT := Lib.hid hall
        rw [hall] at HFL HO HBY
        clear hall
        obtain ⟨N, hN⟩ : ∃ N, 16 * k = N := ⟨_, rfl⟩
        rw [hN] at HFL ⊢
        have hw3 := numAt_word 3 HBY.out
        have hw4 := numAt_word 4 HBY.out
        have hw5 := numAt_word 5 HBY.out
        have HB3 := Lib.hid (fun (u : World) (i : Nat) (hu : Below wr.heap.size wr u) (hi : 4 * i + 4 ≤ N) => back_is (A := some ⟨g, 0, none⟩) i N cap (rd_up HO.out.rd hu) HBY.out HFL.out hi (by omega))
        obtain ⟨z, ez⟩ : ∃ z, numAt all 3 = z := ⟨_, rfl⟩
        obtain ⟨p, ep⟩ : ∃ p, numAt all 4 = p := ⟨_, rfl⟩
        obtain ⟨b, eb⟩ : ∃ b, numAt all 5 = b := ⟨_, rfl⟩
        have EZ := Lib.hid (And.intro ez (And.intro ep eb))
        rw [ez] at hw3
        rw [ep] at hw4
        rw [eb] at hw5
        obtain ⟨z0, z1⟩ := hw3
        obtain ⟨p0, p1⟩ := hw4
        obtain ⟨b0, b1⟩ := hw5
        clear ez ep eb
        obtain ⟨wo, rfl⟩ : ∃ wo : World, wo = wr := ⟨_, rfl⟩
        have HWO := Lib.hid (lt_of_block HH.out)
        have C3 := Lib.hid (fun (u : World) (hu : Below wo.heap.size wo u) => by have := HB3.out u 3 hu (by omega); rwa [EZ.out.1] at this)
        have C4 := Lib.hid (fun (u : World) (hu : Below wo.heap.size wo u) => by have := HB3.out u 4 hu (by omega); rwa [EZ.out.2.1] at this)
        have C5 := Lib.hid (fun (u : World) (hu : Below wo.heap.size wo u) => by have := HB3.out u 5 hu (by omega); rwa [EZ.out.2.2] at this)
        go_wp2_with fail
        refine (C3.out wo (Below.refl _ _)).mono ?_
        rintro r wa ⟨rfl, hb⟩
        have HBa := Lib.hid hb
        clear hb
        go_wp2_with fail
        refine (C4.out wa HBa.out).mono ?_
        rintro r wb ⟨rfl, hb⟩
        have HBb := Lib.hid (HBa.out.trans (hb.mono HBa.out.size))
        clear hb HBa
        go_wp2_with fail
        refine (C5.out wb HBb.out).mono ?_
        rintro r wc ⟨rfl, hb⟩
        have HBc := Lib.hid (HBb.out.trans (hb.mono HBb.out.size))
        clear hb HBb
        have HBd := Lib.hid (HBc.out.alloc HBc.out.size (.cells #[.int .i64 z, .int .i64 p, .int .i64 b] 44))
        have HGd := Lib.hid (blk_new wc [.int .i64 z, .int .i64 p, .int .i64 b] 44)
        clear HBc C3 C4 C5
        go_wp2_with fail
        obtain ⟨G, hG⟩ : ∃ G, wc.heap.size = G := ⟨_, rfl⟩
        obtain ⟨wd, hwd⟩ : ∃ wd : World, wd = wc.alloc (.cells #[.int .i64 z, .int .i64 p, .int .i64 b] 44) := ⟨_, rfl⟩
        rw [show wc.alloc (.cells ([.int .i64 z, .int .i64 p, .int .i64 b] : List Value).toArray 44) = wd from hwd.symm] at HGd
        rw [← hwd] at HBd ⊢
        rw [hG] at HGd ⊢
        clear hwd hG
        refine (rright_is z p b wd).mono ?_
        rintro r we ⟨rfl, hb⟩
        have HBe := Lib.hid (HBd.out.trans (hb.mono HBd.out.size))
        have HGe := Lib.hid (HGd.out.up hb (lt_of_block HGd.out))
        clear hb HBd HGd
        have HBw := Lib.hid (HB.out.trans (HBe.out.mono HB.out.size))
        have HHe := Lib.hid (HH.out.up HBe.out (lt_of_block HH.out))
        clear HB HH
        have HB := Lib.hid HBw.out
        have HH := Lib.hid HHe.out
        clear HBw HHe
        by_cases hrb : rightB z p b = true
        · rw [hrb]
          have hb64 : 1 ≤ b ∧ b ≤ 64 := by
            unfold rightB at hrb
            have := (bnd_bd z p).2
            simp only [decide_eq_true_eq] at hrb
            omega
          have HRB : Hid (rightB (numAt l.flatten 3) (numAt l.flatten 4) (numAt l.flatten 5) = true) := Lib.hid (by rw [HFT.out, EZ.out.1, EZ.out.2.1, EZ.out.2.2]; exact hrb)
          have HM5 : Hid (numAt l.flatten 5 = b) := Lib.hid (by rw [HFT.out]; exact EZ.out.2.2)
          clear hrb
          have gc2 := HGe.out.cell 2 (by simp)
          simp only [List.getElem_cons_succ, List.getElem_cons_zero] at gc2
          go_wp2_with fail
          refine (rmany_is b _ (by omega) (by omega)).mono ?_
          rintro r w' ⟨rfl, rfl⟩
          have hMC : manyC b = (4 * (7 + tab b) + 15) / 16 := rfl
          have htb := tab_le (n := b) (by omega) (by omega)
          obtain ⟨T, hT⟩ : ∃ T : Nat, tab b = (T : Int) := ⟨(tab b).toNat, by omega⟩
          rw [hT] at hMC htb
          have HT := Lib.hid hT
          by_cases hmm : (k : Int) = manyC b
          · have hTN : 28 + 4 * T ≤ N := by omega
            have HMM : Hid ((l.length : Int) = manyC (numAt l.flatten 5)) := Lib.hid (by rw [HM5.out, HL.out]; exact hmm)
            have q1 : ((k : Int) != manyC b) = false := by simpa using hmm
            have HT5 : Hid (tab (numAt l.flatten 5) = (T : Int)) := Lib.hid (by rw [HM5.out]; exact HT.out)
            obtain ⟨mc, hmc⟩ : ∃ mc, manyC b = mc := ⟨_, rfl⟩
            rw [hmc] at q1 ⊢
            clear hmc hmm hMC
            go_wp2_with fail
            refine (rtables_is b _ (by omega) (by omega)).mono ?_
            rw [hT]
            rintro r w' ⟨rfl, rfl⟩
            clear hT
            obtain ⟨T4, hT4⟩ : ∃ T4 : Nat, (4 : Int) * (T : Int) = (T4 : Int) := ⟨4 * T, by omega⟩
            obtain ⟨U, hU⟩ : ∃ U : Nat, (24 : Int) + (T4 : Int) = (U : Int) := ⟨24 + 4 * T, by omega⟩
            obtain ⟨V, hV⟩ : ∃ V : Nat, (6 : Int) + (T : Int) = (V : Int) := ⟨6 + T, by omega⟩
            obtain ⟨Y, hY⟩ : ∃ Y : Nat, (28 : Int) + (T4 : Int) = (Y : Int) := ⟨28 + 4 * T, by omega⟩
            have HUT : Hid (U = 24 + 4 * T) := Lib.hid (by omega)
            have HVT : Hid (V = 6 + T) := Lib.hid (by omega)
            have HYT : Hid (Y = 28 + 4 * T) := Lib.hid (by omega)
            have t1 : T ≤ 16 := by omega
            have t2 : T4 ≤ 64 := by omega
            have t3 : U ≤ N := by omega
            have t4 : 4 * V + 4 ≤ N := by omega
            have t5 : Y ≤ N := by omega
            have t6 : V ≤ 22 := by omega
            have t7 : U ≤ 88 := by omega
            have t8 : Y ≤ 92 := by omega
            have hcp := HO.out.cap
            rw [HFL.out] at hcp
            clear htb hTN
            go_wp2_with fail
            obtain ⟨sm, hsm⟩ : ∃ sm, sumN (all.take U) = sm := ⟨_, rfl⟩
            refine (rof_at (n := U) (c := cap) (HBY.out.take U) ((rd_up HO.out.rd HBe.out).take U) (by rw [List.length_take, HFL.out]; omega) (by omega) hsm).mono ?_
            rintro r w' ⟨rfl, rfl⟩
            go_wp2_with fail
            have hback := HB3.out we V HBe.out t4
            obtain ⟨st, hst⟩ : ∃ st, numAt all V = st := ⟨_, rfl⟩
            rw [hst] at hback
            refine hback.mono ?_
            rintro r wf ⟨rfl, hb⟩
            have HBf := Lib.hid (HBe.out.trans (hb.mono HBe.out.size))
            have HGf := Lib.hid (HGe.out.up hb (lt_of_block HGe.out))
            have HBx := Lib.hid (HB.out.trans (hb.mono HB.out.size))
            have HHx := Lib.hid (HH.out.up hb (lt_of_block HH.out))
            clear hb HBe HGe HB HH hback gc2
            have HB := Lib.hid HBx.out
            have HH := Lib.hid HHx.out
            clear HBx HHx
            by_cases hss : sm = st
            · have HSS : Hid (sumN (l.flatten.take (24 + 4 * T)) = numAt l.flatten (6 + T)) := Lib.hid (by rw [HFT.out, ← HUT.out, ← HVT.out, hsm, hst]; exact hss)
              have q2 : (sm != st) = false := by simpa using hss
              clear hss hsm hst
              have HCL : Hid (∀ i (h : i < all.length), wf.cell? ⟨g, i, none⟩ = some (.int .u8 all[i])) := Lib.hid (fun i h => by
                obtain ⟨b', o', hA, _, hc⟩ := rd_up HO.out.rd HBf.out (by rw [HFL.out]; omega)
                have hA := Option.some.inj hA
                injection hA with e1 e2
                subst e1 e2
                have := hc i h
                rwa [Nat.zero_add] at this)
              go_wp2_with fail
              go_loopg [8] (N - Y) (fun q x wr => ∃ j : Nat, Y + j ≤ N ∧ q = N - Y - j ∧ x = .int .i64 ((Y + j : Nat) : Int) ∧ (((all.drop Y).take j).all fun x => decide (x = 0)) = true ∧ wf = wr)
              case atStart => exact ⟨0, by omega, by omega, rfl, rfl, rfl⟩
              case round =>
                obtain ⟨j, hj, hq2, rfl, hz, rfl⟩ := hrel
                have HQ2 := Lib.hid hq2
                have HZ := Lib.hid hz
                clear hq2 hz
                by_cases hlt2 : Y + j < N
                · have hia : Y + j < all.length := by rw [HFL.out]; exact hlt2
                  have ci := HCL.out (Y + j) hia
                  have HZ2 : Hid ((((all.drop Y).take (j + 1)).all fun x => decide (x = 0)) = decide (all[Y + j] = 0)) := Lib.hid (by
                    rw [List.take_succ_eq_append_getElem (l := all.drop Y) (i := j) (by simp; omega), List.all_append, HZ.out, List.getElem_drop]
                    simp)
                  have HZ3 : Hid (all[Y + j] ≠ 0 → ((all.drop Y).all fun x => decide (x = 0)) = false) := Lib.hid (fun hne => by
                    rw [Bool.eq_false_iff]
                    intro ha
                    have := List.all_eq_true.1 ha all[Y + j] (by
                      have e : (all.drop Y)[j]'(by simp; omega) = all[Y + j] := List.getElem_drop
                      rw [← e]
                      exact List.getElem_mem _)
                    exact hne (by simpa using this))
                  obtain ⟨x, hx⟩ : ∃ x, all[Y + j] = x := ⟨_, rfl⟩
                  rw [hx] at ci HZ2 HZ3
                  clear hx
                  obtain ⟨i, hi⟩ : ∃ i, Y + j = i := ⟨_, rfl⟩
                  rw [hi] at ci ⊢
                  have hi2 : i < N := by omega
                  by_cases hx0 : x = 0
                  · subst hx0
                    have HZ4 : Hid ((((all.drop Y).take (j + 1)).all fun x => decide (x = 0)) = true) := Lib.hid (by rw [HZ2.out]; rfl)
                    have HI := Lib.hid hi
                    clear hi hj hlt2 hia
                    go_wp2_with fail
                    go_roundg (N - Y - (j + 1))
                    case rel => have := HI.out; exact ⟨j + 1, by omega, by omega, by go_num, HZ4.out, rfl⟩
                    case measure => have := HI.out; have := HQ2.out; omega
                  · have q3 : (x != 0) = true := by simpa using hx0
                    have HZ5 := Lib.hid (HZ3.out hx0)
                    clear hx0 hi hj hlt2 hia
                    have HE : Hid (readGE l = 2) := Lib.hid (readGE_zero HROK.out HRB.out HMM.out HT5.out HSS.out (by rw [HFT.out, ← HYT.out]; exact HZ5.out))
                    have d0 : wf.cell? ⟨w.heap.size, 0, none⟩ = some (.int .u32 0) := HH.out.cell 0 (by simp)
                    have d1 : wf.cell? ⟨w.heap.size, 1, none⟩ = some (.int .u32 0) := HH.out.cell 1 (by simp)
                    have d2 : wf.cell? ⟨w.heap.size, 2, none⟩ = some (.int .u32 0) := HH.out.cell 2 (by simp)
                    have d3 : wf.cell? ⟨w.heap.size, 3, none⟩ = some (.int .i64 0) := HH.out.cell 3 (by simp)
                    have d4 : wf.cell? ⟨w.heap.size, 4, none⟩ = some (.int .i64 0) := HH.out.cell 4 (by simp)
                    have d5 : wf.cell? ⟨w.heap.size, 5, none⟩ = some (.int .i64 0) := HH.out.cell 5 (by simp)
                    have d6 : wf.cell? ⟨w.heap.size, 6, none⟩ = some (.slice none 0 0) := HH.out.cell 6 (by simp)
                    have f0 := HH.out.free 0
                    have f1 := HH.out.free 1
                    have f2 := HH.out.free 2
                    have f3 := HH.out.free 3
                    have f4 := HH.out.free 4
                    have f5 := HH.out.free 5
                    have f6 := HH.out.free 6
                    go_wp2_with fail
                    refine bodyPost_ret (v := .tuple #[kV 0 0 0 0 0 0 (.slice none 0 0), .int .i64 2]) (by simp [results, Tryz.results55, go_sem, d0, d1, d2, d3, d4, d5, d6]) rfl ?_
                    exact ReadN.no HE.out (by decide) (below_seven HB.out (Nat.le_refl _) _ _ _ _ _ _ _)
                · have hjN : Y + j = N := by omega
                  have HZE : Hid (((all.drop Y).all fun x => decide (x = 0)) = true) := Lib.hid (by
                    have := HZ.out
                    rwa [List.take_of_length_le (by simp [HFL.out]; omega)] at this)
                  have HOK : Hid (readGE l = 0) := Lib.hid (readGE_ok HROK.out HRB.out HMM.out HT5.out HSS.out (by rw [HFT.out, ← HYT.out]; exact HZE.out))
                  rw [hjN]
                  clear hj hlt2 hjN HZ HZE HQ2 HCL q2
                  go_wp2_with fail
                  have HKn : Hid (G < wf.heap.size ∧ wo.heap.size ≤ wf.heap.size) := Lib.hid ⟨lt_of_block HGf.out, HBf.out.size⟩
                  have HKc : Hid (KeptD w wo G z p b wf.drew) := Lib.hid (KeptD.up ⟨HB.out, HBf.out, HH.out, HGf.out⟩ (Below.refl wf.heap.size wf).drew)
                  have HKa : Hid (KeptD w wo G z p b (wf.alloc (.cells #[.int .u32 0, .int .u32 0, .int .u32 0, .int .i64 0, .int .i64 0, .int .i64 0, .slice none 0 0] 46)).drew) := Lib.hid ((KeptD.al ⟨HB.out, HBf.out, HH.out, HGf.out⟩ _).up (Below.refl _ _).drew)
                  have HXa : Hid (Blk (wf.alloc (.cells #[.int .u32 0, .int .u32 0, .int .u32 0, .int .i64 0, .int .i64 0, .int .i64 0, .slice none 0 0] 46)).drew wf.heap.size 46 zList) := Lib.hid (heap_alloc_new wf _)
                  have R0 : ∀ u, KeptD w wo G z p b u → Calls Tryz.prog 92 #[.slice (some ⟨g, 0, none⟩) N cap, .int .i64 0] u (NumB (numAt all 0) u) := fun u hu => HB3.out u 0 hu.2.1 (by omega)
                  have R1 : ∀ u, KeptD w wo G z p b u → Calls Tryz.prog 92 #[.slice (some ⟨g, 0, none⟩) N cap, .int .i64 1] u (NumB (numAt all 1) u) := fun u hu => HB3.out u 1 hu.2.1 (by omega)
                  have R2 : ∀ u, KeptD w wo G z p b u → Calls Tryz.prog 92 #[.slice (some ⟨g, 0, none⟩) N cap, .int .i64 2] u (NumB (numAt all 2) u) := fun u hu => HB3.out u 2 hu.2.1 (by omega)
                  obtain ⟨nu, en⟩ : ∃ v, numAt all 0 = v := ⟨_, rfl⟩
                  obtain ⟨se, es⟩ : ∃ v, numAt all 1 = v := ⟨_, rfl⟩
                  obtain ⟨sq, eq⟩ : ∃ v, numAt all 2 = v := ⟨_, rfl⟩
                  have EN := Lib.hid (And.intro en (And.intro es eq))
                  rw [en] at R0
                  rw [es] at R1
                  rw [eq] at R2
                  clear en es eq
                  have KS : ∀ u, KeptD w wo G z p b u → u.cell? ⟨G, 0, none⟩ = some (.int .i64 z) ∧ u.cell? ⟨G, 1, none⟩ = some (.int .i64 p) ∧ u.cell? ⟨G, 2, none⟩ = some (.int .i64 b) := fun u hu => hu.cells
                  have gs := KS _ ⟨HB.out, HBf.out, HH.out, HGf.out⟩
                  have cg0 := gs.1
                  have cg1 := gs.2.1
                  have cg2 := gs.2.2
                  clear gs
                  have hwo : w.heap.size < wo.heap.size := HWO.out
                  go_region_held3 (fun w' => w'.cell? ⟨G, 0, none⟩ = some (.int .i64 z) ∧ w'.cell? ⟨G, 1, none⟩ = some (.int .i64 p) ∧ w'.cell? ⟨G, 2, none⟩ = some (.int .i64 b))
                      (first | with_reducible exact KS _ HKa.out | with_reducible exact KS _ HKc.out | with_reducible exact KS _ (KeptD.al HKc.out _) | with_reducible exact KS _ (KeptD.put7 HKc.out hwo hnew.1 hnew.2 _ _ _ _ _ _ _))
                      (first
                        | (go_at_call 92; (with_reducible refine (R0 _ HKc.out).mono ?_); rintro r w5 ⟨rfl, hb⟩; (try replace HXc := Lib.hid (HXc.out.up hb (lt_of_block HXc.out))); replace HKc := Lib.hid (HKc.out.up hb); clear hb; (try (have e0 := HXc.out.cell 0 (by simp); have e1 := HXc.out.cell 1 (by simp); have e2 := HXc.out.cell 2 (by simp); have e3 := HXc.out.cell 3 (by simp); have e4 := HXc.out.cell 4 (by simp); have e5 := HXc.out.cell 5 (by simp); have e6 := HXc.out.cell 6 (by simp); have p0 := HXc.out.free 0; have p1 := HXc.out.free 1; have p2 := HXc.out.free 2; have p3 := HXc.out.free 3; have p4 := HXc.out.free 4; have p5 := HXc.out.free 5; have p6 := HXc.out.free 6)))
                        | (go_at_call 92; (with_reducible refine (R1 _ HKc.out).mono ?_); rintro r w5 ⟨rfl, hb⟩; (try replace HXc := Lib.hid (HXc.out.up hb (lt_of_block HXc.out))); replace HKc := Lib.hid (HKc.out.up hb); clear hb; (try (have e0 := HXc.out.cell 0 (by simp); have e1 := HXc.out.cell 1 (by simp); have e2 := HXc.out.cell 2 (by simp); have e3 := HXc.out.cell 3 (by simp); have e4 := HXc.out.cell 4 (by simp); have e5 := HXc.out.cell 5 (by simp); have e6 := HXc.out.cell 6 (by simp); have p0 := HXc.out.free 0; have p1 := HXc.out.free 1; have p2 := HXc.out.free 2; have p3 := HXc.out.free 3; have p4 := HXc.out.free 4; have p5 := HXc.out.free 5; have p6 := HXc.out.free 6)))
                        | (go_at_call 92; (with_reducible refine (R2 _ HKc.out).mono ?_); rintro r w5 ⟨rfl, hb⟩; (try replace HXc := Lib.hid (HXc.out.up hb (lt_of_block HXc.out))); replace HKc := Lib.hid (HKc.out.up hb); clear hb; (try (have e0 := HXc.out.cell 0 (by simp); have e1 := HXc.out.cell 1 (by simp); have e2 := HXc.out.cell 2 (by simp); have e3 := HXc.out.cell 3 (by simp); have e4 := HXc.out.cell 4 (by simp); have e5 := HXc.out.cell 5 (by simp); have e6 := HXc.out.cell 6 (by simp); have p0 := HXc.out.free 0; have p1 := HXc.out.free 1; have p2 := HXc.out.free 2; have p3 := HXc.out.free 3; have p4 := HXc.out.free 4; have p5 := HXc.out.free 5; have p6 := HXc.out.free 6)))
                        | (go_at_call 92; (with_reducible refine (R1 _ (HKc.out.al (.cells #[.int .u32 0, .int .u32 0, .int .u32 0, .int .i64 0, .int .i64 0, .int .i64 0, .slice none 0 0] 46))).mono ?_); rintro r w6 ⟨rfl, hb⟩; obtain ⟨h, hh⟩ : ∃ h, w5.heap.size = h := ⟨_, rfl⟩; have HXc : Hid (Blk w6 h 46 zList) := Lib.hid (Blk.up (show Blk (w5.alloc (.cells #[.int .u32 0, .int .u32 0, .int .u32 0, .int .i64 0, .int .i64 0, .int .i64 0, .slice none 0 0] 46)) h 46 zList by rw [← hh]; exact heap_alloc_new w5 _) hb (by rw [World.size_alloc]; omega)); have hnew : G < h ∧ wo.heap.size ≤ h := (by have := HKc.out.new; omega); replace HKc := Lib.hid ((HKc.out.al (.cells #[.int .u32 0, .int .u32 0, .int .u32 0, .int .i64 0, .int .i64 0, .int .i64 0, .slice none 0 0] 46)).up hb); clear hb; have e0 := HXc.out.cell 0 (by simp); have e1 := HXc.out.cell 1 (by simp); have e2 := HXc.out.cell 2 (by simp); have e3 := HXc.out.cell 3 (by simp); have e4 := HXc.out.cell 4 (by simp); have e5 := HXc.out.cell 5 (by simp); have e6 := HXc.out.cell 6 (by simp); have p0 := HXc.out.free 0; have p1 := HXc.out.free 1; have p2 := HXc.out.free 2; have p3 := HXc.out.free 3; have p4 := HXc.out.free 4; have p5 := HXc.out.free 5; have p6 := HXc.out.free 6; rw [hh])
                        | (go_at_call 92; (with_reducible refine (R2 _ (HKc.out.al (.cells #[.int .u32 0, .int .u32 0, .int .u32 0, .int .i64 0, .int .i64 0, .int .i64 0, .slice none 0 0] 46))).mono ?_); rintro r w6 ⟨rfl, hb⟩; obtain ⟨h, hh⟩ : ∃ h, w5.heap.size = h := ⟨_, rfl⟩; have HXc : Hid (Blk w6 h 46 zList) := Lib.hid (Blk.up (show Blk (w5.alloc (.cells #[.int .u32 0, .int .u32 0, .int .u32 0, .int .i64 0, .int .i64 0, .int .i64 0, .slice none 0 0] 46)) h 46 zList by rw [← hh]; exact heap_alloc_new w5 _) hb (by rw [World.size_alloc]; omega)); have hnew : G < h ∧ wo.heap.size ≤ h := (by have := HKc.out.new; omega); replace HKc := Lib.hid ((HKc.out.al (.cells #[.int .u32 0, .int .u32 0, .int .u32 0, .int .i64 0, .int .i64 0, .int .i64 0, .slice none 0 0] 46)).up hb); clear hb; have e0 := HXc.out.cell 0 (by simp); have e1 := HXc.out.cell 1 (by simp); have e2 := HXc.out.cell 2 (by simp); have e3 := HXc.out.cell 3 (by simp); have e4 := HXc.out.cell 4 (by simp); have e5 := HXc.out.cell 5 (by simp); have e6 := HXc.out.cell 6 (by simp); have p0 := HXc.out.free 0; have p1 := HXc.out.free 1; have p2 := HXc.out.free 2; have p3 := HXc.out.free 3; have p4 := HXc.out.free 4; have p5 := HXc.out.free 5; have p6 := HXc.out.free 6; rw [hh])
                        | (go_at_call 92; (with_reducible refine (R0 _ (HKc.out.al (.cells #[.int .u32 0, .int .u32 0, .int .u32 0, .int .i64 0, .int .i64 0, .int .i64 0, .slice none 0 0] 46))).mono ?_); rintro r w6 ⟨rfl, hb⟩; obtain ⟨h, hh⟩ : ∃ h, w5.heap.size = h := ⟨_, rfl⟩; have HXc : Hid (Blk w6 h 46 zList) := Lib.hid (Blk.up (show Blk (w5.alloc (.cells #[.int .u32 0, .int .u32 0, .int .u32 0, .int .i64 0, .int .i64 0, .int .i64 0, .slice none 0 0] 46)) h 46 zList by rw [← hh]; exact heap_alloc_new w5 _) hb (by rw [World.size_alloc]; omega)); have hnew : G < h ∧ wo.heap.size ≤ h := (by have := HKc.out.new; omega); replace HKc := Lib.hid ((HKc.out.al (.cells #[.int .u32 0, .int .u32 0, .int .u32 0, .int .i64 0, .int .i64 0, .int .i64 0, .slice none 0 0] 46)).up hb); clear hb; have e0 := HXc.out.cell 0 (by simp); have e1 := HXc.out.cell 1 (by simp); have e2 := HXc.out.cell 2 (by simp); have e3 := HXc.out.cell 3 (by simp); have e4 := HXc.out.cell 4 (by simp); have e5 := HXc.out.cell 5 (by simp); have e6 := HXc.out.cell 6 (by simp); have p0 := HXc.out.free 0; have p1 := HXc.out.free 1; have p2 := HXc.out.free 2; have p3 := HXc.out.free 3; have p4 := HXc.out.free 4; have p5 := HXc.out.free 5; have p6 := HXc.out.free 6; rw [hh])
                        | (go_at_call 92; (with_reducible refine (R0 _ HKa.out).mono ?_); rintro r w6 ⟨rfl, hb⟩; obtain ⟨h, hh⟩ : ∃ h, wf.heap.size = h := ⟨_, rfl⟩; have HXc := Lib.hid (HXa.out.up hb (lt_of_block HXa.out)); rw [hh] at HXc; have hnew : G < h ∧ wo.heap.size ≤ h := (by have := HKn.out; omega); replace HKc := Lib.hid (HKa.out.up hb); clear hb; have e0 := HXc.out.cell 0 (by simp); have e1 := HXc.out.cell 1 (by simp); have e2 := HXc.out.cell 2 (by simp); have e3 := HXc.out.cell 3 (by simp); have e4 := HXc.out.cell 4 (by simp); have e5 := HXc.out.cell 5 (by simp); have e6 := HXc.out.cell 6 (by simp); have p0 := HXc.out.free 0; have p1 := HXc.out.free 1; have p2 := HXc.out.free 2; have p3 := HXc.out.free 3; have p4 := HXc.out.free 4; have p5 := HXc.out.free 5; have p6 := HXc.out.free 6; rw [hh]))
                  all_goals first
                    | (obtain ⟨h, hh⟩ : ∃ h, w5.heap.size = h := ⟨_, rfl⟩
                       have HX6 : Hid (Blk (w5.alloc (.cells #[.int .u32 nu, .int .u32 se, .int .u32 sq, .int .i64 z, .int .i64 p, .int .i64 b, .slice none 0 0] 46)) h 46 [.int .u32 nu, .int .u32 se, .int .u32 sq, .int .i64 z, .int .i64 p, .int .i64 b, .slice none 0 0]) := Lib.hid (by rw [← hh]; exact heap_alloc_new w5 _)
                       have HK6 := Lib.hid (HKc.out.al (.cells #[.int .u32 nu, .int .u32 se, .int .u32 sq, .int .i64 z, .int .i64 p, .int .i64 b, .slice none 0 0] 46))
                       have hnew : G < h ∧ wo.heap.size ≤ h := (by have := HKc.out.new; omega)
                       rw [hh]
                       clear HKc hh)
                    | (have HX6 := Lib.hid (blk7 HXc.out (.int .u32 nu) (.int .u32 se) (.int .u32 sq) (.int .i64 z) (.int .i64 p) (.int .i64 b) (.slice none 0 0))
                       have HK6 := Lib.hid (HKc.out.put7 hwo hnew.1 hnew.2 (.int .u32 nu) (.int .u32 se) (.int .u32 sq) (.int .i64 z) (.int .i64 p) (.int .i64 b) (.slice none 0 0))
                       clear HXc HKc e0 e1 e2 e3 e4 e5 e6 p0 p1 p2 p3 p4 p5 p6)
                  all_goals (
                    have hGh := hnew.1
                    have hwh := hnew.2
                    clear hnew KS R0 R1 R2 HKa HXa cg0 cg1 cg2
                    go_wp2_with fail
                    go_loopg [10] T (fun q x wr => ∃ (j : Nat) (A : Option Addr) (cp : Nat), j ≤ T ∧ q = T - j ∧ x = .int .i64 (j : Int) ∧ NumRow wr (h + 1) (.slice A j cp) (dirUp all j) ∧ Blk wr h 46 [.int .u32 nu, .int .u32 se, .int .u32 sq, .int .i64 z, .int .i64 p, .int .i64 b, .slice A j cp] ∧ KeptD w wo G z p b wr)
                    case atStart => exact ⟨0, none, 0, by omega, by omega, rfl, NumRow.nil _ _, HX6.out, HK6.out⟩
                    case round =>
                      clear HX6 HK6
                      obtain ⟨j, A, cp, hj, hq3, rfl, hnr, hxb, hkd⟩ := hrel
                      have HQ3 := Lib.hid hq3
                      have HNR := Lib.hid (hnr.rise (Below.refl wr.heap.size wr).drew)
                      have HXR := Lib.hid (Blk.up hxb (Below.refl wr.heap.size wr).drew (lt_of_block hxb))
                      have HKR := Lib.hid (hkd.up (Below.refl wr.heap.size wr).drew)
                      by_cases hlt3 : j < T
                      · clear hq3 hnr hkd
                        have e6 : wr.cell? ⟨h, 6, none⟩ = some (.slice A j cp) := hxb.cell 6 (by simp)
                        have p6 := hxb.free 6
                        have hhl := lt_of_block hxb
                        clear hxb
                        obtain ⟨e, he⟩ : ∃ e : Nat, (6 : Int) + (j : Int) = (e : Int) := ⟨6 + j, by omega⟩
                        have HEJ : Hid (e = 6 + j) := Lib.hid (by omega)
                        have t9 : e ≤ 22 := by omega
                        have hwr : IntKind.i64.wrap (e : Int) = (e : Int) := IntWalk.i64_in _ (by omega)
                        obtain ⟨v, hv⟩ : ∃ v, numAt all e = v := ⟨_, rfl⟩
                        have RB : ∀ u, KeptD w wo G z p b u → Calls Tryz.prog 92 #[.slice (some ⟨g, 0, none⟩) N cap, .int .i64 (e : Int)] u (NumB v u) := fun u hu => by rw [← hv]; exact HB3.out u e hu.2.1 (by omega)
                        have HDU : Hid (dirUp all (j + 1) = dirUp all j ++ [v]) := Lib.hid (by rw [dirUp_succ, ← hv, HEJ.out])
                        clear hv
                        go_wp2_with fail
                        go_region_law (first
                          | (refine stepN rfl (.tmp 100) (.tmp 105) rfl (h + 1) j 1 w8.heap.size (.slice A j cp) (dirUp all j) v rfl (NumRow.rise HNR.out (Below.alloc (Below.refl _ _) (Nat.le_refl _) _)) (dirUp_len all j) rfl (by simp) (by omega) (by simp; omega) ?_; intro g9 cap9 w9 ho hg; have HO9 := Lib.hid ho; have HG9 := Lib.hid hg; clear ho hg; have hrow := NumRow.block HNR.out; have HX9 := Lib.hid ((HXR.out.up (Below.alloc (Below.refl w8.heap.size w8) (Nat.le_refl _) (.cells #[.int .u32 v] 35)) hhl).kept HG9.out (fun e => by have := hrow _ e.symm; omega)); have HK9 := Lib.hid ((HKR.out.al (.cells #[.int .u32 v] 35)).row hwo HG9.out (fun g hg => by have := hrow g hg; omega)); have e6 : w9.cell? ⟨h, 6, none⟩ = some (.slice A j cp) := HX9.out.cell 6 (by simp); have p6 := HX9.out.free 6)
                          | (go_simp; go_at_call 92; refine (RB _ HKR.out).mono ?_; rintro r w8 ⟨rfl, hb⟩; replace HXR := Lib.hid (HXR.out.up hb (lt_of_block HXR.out)); replace HKR := Lib.hid (HKR.out.up hb); replace HNR := Lib.hid (HNR.out.rise hb); have e6 : w8.cell? ⟨h, 6, none⟩ = some (.slice A j cp) := HXR.out.cell 6 (by simp); have p6 := HXR.out.free 6; have hhl := lt_of_block HXR.out; clear hb))
                        all_goals (
                          have hgm := HO9.out.mem
                          have HN9 : Hid (NumRow (w9.setCell ⟨h, 6, none⟩ (.slice (some ⟨g9, 0, none⟩) (j + 1) cap9)) (h + 1) (.slice (some ⟨g9, 0, none⟩) (j + 1) cap9) (dirUp all (j + 1))) := Lib.hid (by
                            rw [HDU.out]
                            exact NumRow.of (HO9.out.kept (grown_put (World.grownBy.refl _ _) 6 _) (fun e => by have := Option.some.inj e; omega)) (by rw [List.length_append, dirUp_len]; rfl))
                          have HX10 := Lib.hid (HX9.out.put 6 (.slice (some ⟨g9, 0, none⟩) (j + 1) cap9))
                          have HK10 := Lib.hid (HK9.out.kept hwo hGh hwh (grown_put (World.grownBy.refl w9 (some h)) 6 (.slice (some ⟨g9, 0, none⟩) (j + 1) cap9)))
                          clear HO9 HG9 HX9 HK9 HDU hrow HKR HXR HNR RB
                          go_wp2_with fail
                          go_roundg (T - (j + 1))
                          case rel => exact ⟨j + 1, some ⟨g9, 0, none⟩, cap9, by omega, rfl, by go_num, HN9.out, HX10.out, HK10.out⟩
                          case measure => have := HQ3.out; omega)
                      · obtain rfl : j = T := by omega
                        clear hq3 HNR HXR HKR
                        have e0 : wr.cell? ⟨h, 0, none⟩ = some (.int .u32 nu) := hxb.cell 0 (by simp)
                        have e1 : wr.cell? ⟨h, 1, none⟩ = some (.int .u32 se) := hxb.cell 1 (by simp)
                        have e2 : wr.cell? ⟨h, 2, none⟩ = some (.int .u32 sq) := hxb.cell 2 (by simp)
                        have e3 : wr.cell? ⟨h, 3, none⟩ = some (.int .i64 z) := hxb.cell 3 (by simp)
                        have e4 : wr.cell? ⟨h, 4, none⟩ = some (.int .i64 p) := hxb.cell 4 (by simp)
                        have e5 : wr.cell? ⟨h, 5, none⟩ = some (.int .i64 b) := hxb.cell 5 (by simp)
                        have e6 : wr.cell? ⟨h, 6, none⟩ = some (.slice A j cp) := hxb.cell 6 (by simp)
                        have HHZ := Lib.hid hkd.2.2.1
                        have HBZ := Lib.hid hkd.1
                        have HNZ := Lib.hid hnr
                        have HRD : Hid (readDir l = dirUp all j) := Lib.hid (by unfold readDir dirUp; rw [HM5.out, HT.out, Int.toNat_natCast, HFT.out])
                        have HV : Hid ((numAt l.flatten 0 = nu ∧ numAt l.flatten 1 = se ∧ numAt l.flatten 2 = sq) ∧ numAt l.flatten 3 = z ∧ numAt l.flatten 4 = p ∧ numAt l.flatten 5 = b) := Lib.hid (by rw [HFT.out]; exact ⟨EN.out, EZ.out⟩)
                        clear hxb hkd hnr
                        have d0 : wr.cell? ⟨w.heap.size, 0, none⟩ = some (.int .u32 0) := HHZ.out.cell 0 (by simp)
                        have d1 : wr.cell? ⟨w.heap.size, 1, none⟩ = some (.int .u32 0) := HHZ.out.cell 1 (by simp)
                        have d2 : wr.cell? ⟨w.heap.size, 2, none⟩ = some (.int .u32 0) := HHZ.out.cell 2 (by simp)
                        have d3 : wr.cell? ⟨w.heap.size, 3, none⟩ = some (.int .i64 0) := HHZ.out.cell 3 (by simp)
                        have d4 : wr.cell? ⟨w.heap.size, 4, none⟩ = some (.int .i64 0) := HHZ.out.cell 4 (by simp)
                        have d5 : wr.cell? ⟨w.heap.size, 5, none⟩ = some (.int .i64 0) := HHZ.out.cell 5 (by simp)
                        have d6 : wr.cell? ⟨w.heap.size, 6, none⟩ = some (.slice none 0 0) := HHZ.out.cell 6 (by simp)
                        have f0 := HHZ.out.free 0
                        have f1 := HHZ.out.free 1
                        have f2 := HHZ.out.free 2
                        have f3 := HHZ.out.free 3
                        have f4 := HHZ.out.free 4
                        have f5 := HHZ.out.free 5
                        have f6 := HHZ.out.free 6
                        go_wp2_with fail
                        refine bodyPost_ret (v := .tuple #[kV nu se sq z p b (.slice A j cp), .int .i64 0]) (by simp [results, Tryz.results55, go_sem, d0, d1, d2, d3, d4, d5, d6]) rfl ?_
                        refine ⟨.slice A j cp, ?_, ?_, below_seven HBZ.out (Nat.le_refl _) _ _ _ _ _ _ _⟩
                        · unfold rdN
                          rw [if_pos HOK.out, if_pos HOK.out, if_pos HOK.out, if_pos HOK.out, if_pos HOK.out, if_pos HOK.out, HOK.out, HV.out.1.1, HV.out.1.2.1, HV.out.1.2.2, HV.out.2.1, HV.out.2.2.1, HV.out.2.2.2]
                        · unfold rdD
                          rw [if_pos HOK.out, HRD.out]
                          exact (HNZ.out.kept (grown7 wr w.heap.size _ _ _ _ _ _ _) (fun g hg => by have := Option.some.inj hg; omega)).rowN (by omega))
            · have q2 : (sm != st) = true := by simpa using hss
              have HSS : Hid (sumN (l.flatten.take (24 + 4 * T)) ≠ numAt l.flatten (6 + T)) := Lib.hid (by rw [HFT.out, ← HUT.out, ← HVT.out, hsm, hst]; exact hss)
              clear hss hsm hst
              have HE : Hid (readGE l = 4) := Lib.hid (readGE_sum HROK.out HRB.out HMM.out HT5.out HSS.out)
              have d0 : wf.cell? ⟨w.heap.size, 0, none⟩ = some (.int .u32 0) := HH.out.cell 0 (by simp)
              have d1 : wf.cell? ⟨w.heap.size, 1, none⟩ = some (.int .u32 0) := HH.out.cell 1 (by simp)
              have d2 : wf.cell? ⟨w.heap.size, 2, none⟩ = some (.int .u32 0) := HH.out.cell 2 (by simp)
              have d3 : wf.cell? ⟨w.heap.size, 3, none⟩ = some (.int .i64 0) := HH.out.cell 3 (by simp)
              have d4 : wf.cell? ⟨w.heap.size, 4, none⟩ = some (.int .i64 0) := HH.out.cell 4 (by simp)
              have d5 : wf.cell? ⟨w.heap.size, 5, none⟩ = some (.int .i64 0) := HH.out.cell 5 (by simp)
              have d6 : wf.cell? ⟨w.heap.size, 6, none⟩ = some (.slice none 0 0) := HH.out.cell 6 (by simp)
              have f0 := HH.out.free 0
              have f1 := HH.out.free 1
              have f2 := HH.out.free 2
              have f3 := HH.out.free 3
              have f4 := HH.out.free 4
              have f5 := HH.out.free 5
              have f6 := HH.out.free 6
              go_wp2_with fail
              refine bodyPost_ret (v := .tuple #[kV 0 0 0 0 0 0 (.slice none 0 0), .int .i64 4]) (by simp [results, Tryz.results55, go_sem, d0, d1, d2, d3, d4, d5, d6]) rfl ?_
              exact ReadN.no HE.out (by decide) (below_seven HB.out (Nat.le_refl _) _ _ _ _ _ _ _)
          · have q1 : ((k : Int) != manyC b) = true := by simpa using hmm
            have HNE : Hid ((l.length : Int) ≠ manyC (numAt l.flatten 5)) := Lib.hid (by rw [HM5.out, HL.out]; exact hmm)
            obtain ⟨mc, hmc⟩ : ∃ mc, manyC b = mc := ⟨_, rfl⟩
            rw [hmc] at q1 ⊢
            clear hmc hmm hMC
            have HE : Hid (readGE l = 3) := Lib.hid (readGE_many HROK.out HRB.out HNE.out)
            have d0 : we.cell? ⟨w.heap.size, 0, none⟩ = some (.int .u32 0) := HH.out.cell 0 (by simp)
            have d1 : we.cell? ⟨w.heap.size, 1, none⟩ = some (.int .u32 0) := HH.out.cell 1 (by simp)
            have d2 : we.cell? ⟨w.heap.size, 2, none⟩ = some (.int .u32 0) := HH.out.cell 2 (by simp)
            have d3 : we.cell? ⟨w.heap.size, 3, none⟩ = some (.int .i64 0) := HH.out.cell 3 (by simp)
            have d4 : we.cell? ⟨w.heap.size, 4, none⟩ = some (.int .i64 0) := HH.out.cell 4 (by simp)
            have d5 : we.cell? ⟨w.heap.size, 5, none⟩ = some (.int .i64 0) := HH.out.cell 5 (by simp)
            have d6 : we.cell? ⟨w.heap.size, 6, none⟩ = some (.slice none 0 0) := HH.out.cell 6 (by simp)
            have f0 := HH.out.free 0
            have f1 := HH.out.free 1
            have f2 := HH.out.free 2
            have f3 := HH.out.free 3
            have f4 := HH.out.free 4
            have f5 := HH.out.free 5
            have f6 := HH.out.free 6
            go_wp2_with fail
            refine bodyPost_ret (v := .tuple #[kV 0 0 0 0 0 0 (.slice none 0 0), .int .i64 3]) (by simp [results, Tryz.results55, go_sem, d0, d1, d2, d3, d4, d5, d6]) rfl ?_
            exact ReadN.no HE.out (by decide) (below_seven HB.out (Nat.le_refl _) _ _ _ _ _ _ _)
        · have hrb' : rightB z p b = false := by simpa using hrb
          rw [hrb']
          have HRB : Hid (rightB (numAt l.flatten 3) (numAt l.flatten 4) (numAt l.flatten 5) = false) := Lib.hid (by rw [HFT.out, EZ.out.1, EZ.out.2.1, EZ.out.2.2]; exact hrb')
          clear hrb hrb'
          have HE : Hid (readGE l = 2) := Lib.hid (readGE_form HROK.out HRB.out)
          have d0 : we.cell? ⟨w.heap.size, 0, none⟩ = some (.int .u32 0) := HH.out.cell 0 (by simp)
          have d1 : we.cell? ⟨w.heap.size, 1, none⟩ = some (.int .u32 0) := HH.out.cell 1 (by simp)
          have d2 : we.cell? ⟨w.heap.size, 2, none⟩ = some (.int .u32 0) := HH.out.cell 2 (by simp)
          have d3 : we.cell? ⟨w.heap.size, 3, none⟩ = some (.int .i64 0) := HH.out.cell 3 (by simp)
          have d4 : we.cell? ⟨w.heap.size, 4, none⟩ = some (.int .i64 0) := HH.out.cell 4 (by simp)
          have d5 : we.cell? ⟨w.heap.size, 5, none⟩ = some (.int .i64 0) := HH.out.cell 5 (by simp)
          have d6 : we.cell? ⟨w.heap.size, 6, none⟩ = some (.slice none 0 0) := HH.out.cell 6 (by simp)
          have f0 := HH.out.free 0
          have f1 := HH.out.free 1
          have f2 := HH.out.free 2
          have f3 := HH.out.free 3
          have f4 := HH.out.free 4
          have f5 := HH.out.free 5
          have f6 := HH.out.free 6
          go_wp2_with fail
          refine bodyPost_ret (v := .tuple #[kV 0 0 0 0 0 0 (.slice none 0 0), .int .i64 2]) (by simp [results, Tryz.results55, go_sem, d0, d1, d2, d3, d4, d5, d6]) rfl ?_
          exact ReadN.no HE.out (by decide) (below_seven HB.out (Nat.le_refl _) _ _ _ _ _ _ _)
end Go.Proofs.YthmpimjmajoimaaGreatDoor
