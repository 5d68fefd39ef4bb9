/-
  Package ckpt's Read of blocks: the directory that it tells lies in new memory.
  A range over a function whose iterator says which element comes when; what is assigned may make memory, and the body may write a map that lay there at first. For whatever program.
-/
import Derived.Test.YthmpimjmajoimaaGreatDoorSw23
import Derived.Test.YthmpimjmajoimaaGreatDoorChecked
import Derived.RangeFuncFrom
import Derived.RangeFuncBox
namespace Go.Proofs.YthmpimjmajoimaaGreatDoor
open Go.RowKit

/-- What Read answers; its directory is new. -/
def ReadN (e : Value) (l : List (List Int)) (w : World) (r : Ending) (w' : World) : Prop :=
  ∃ S, r = .returned (.tuple #[kV (rdN l 0) (rdN l 1) (rdN l 2) (rdN l 3) (rdN l 4) (rdN l 5) S, e]) ∧ RowF (newB w w') w' S (u32s (rdD l)) ∧ Below w.heap.size w w'
theorem ReadN.err {e : Int} {l : List (List Int)} {w w' : World} (he : readGE l = e) (h0 : e ≠ 0) (hb : Below w.heap.size w w') : ReadN (errV (readGE l)) l w (.returned (.tuple #[kV 0 0 0 0 0 0 (.slice none 0 0), .iface 31 (.int .i64 e)])) w' := by
  have hn : readGE l ≠ 0 := by rw [he]; exact h0
  refine ⟨.slice none 0 0, ?_, ?_, hb⟩
  · unfold rdN errV
    rw [if_neg hn, if_neg hn, if_neg hn, if_neg hn, if_neg hn, if_neg hn, if_neg hn, he]
  · unfold rdD
    rw [if_neg hn]
    exact ⟨none, 0, rfl, by simp [u32s], RdV.nil, (InF.none _).n, fun _ => rfl⟩
theorem ReadN.ok {l : List (List Int)} {w w' : World} {nu se sq z p b : Int} {S : Value} (h0 : readGE l = 0) (hn : numAt l.flatten 0 = nu ∧ numAt l.flatten 1 = se ∧ numAt l.flatten 2 = sq) (hg : numAt l.flatten 3 = z ∧ numAt l.flatten 4 = p ∧ numAt l.flatten 5 = b) (hS : RowF (newB w w') w' S (u32s (readDir l))) (hb : Below w.heap.size w w') :
    ReadN (errV (readGE l)) l w (.returned (.tuple #[kV nu se sq z p b S, .nilIface])) w' := by
  obtain ⟨rfl, rfl, rfl⟩ := hn
  obtain ⟨rfl, rfl, rfl⟩ := hg
  refine ⟨S, ?_, ?_, hb⟩
  · unfold rdN errV
    rw [if_pos h0, if_pos h0, if_pos h0, if_pos h0, if_pos h0, if_pos h0, if_pos h0]
  · unfold rdD
    rw [if_pos h0]
    exact hS

set_option maxHeartbeats 4000000 in
set_option maxRecDepth 100000 in
theorem kread_n {A : Option Addr} {n c : Nat} {vs : List Value} {l : List (List Int)} {w : World} (hl : l.length = n) (hc : n ≤ c) (hv : RdV w w.heap.size A vs) (hr : RdR w vs l) (hx : ∀ x ∈ l, Byt x) (hn : n ≤ 10000) :
    Calls Tryz.prog 89 #[.slice A n c] w (ReadN (errV (readGE l)) l w) := by
  have HL := Lib.hid hl
  have HV := Lib.hid hv
  have HR := Lib.hid hr
  have HX := Lib.hid hx
  clear hl hv hr hx
  have HK := Lib.hid (KeptK.new w 40 zList)
  obtain ⟨w1, hw1⟩ : ∃ w1 : World, w1 = w.alloc (.cells (kCellsq1 0 0 0 0 0 0 (.slice none 0 0)) 40) := ⟨_, rfl⟩
  rw [show w.alloc (.cells zList.toArray 40) = w1 from hw1.symm] at HK
  have HB := Lib.hid HK.out.1
  have HH := Lib.hid HK.out.2
  clear HK
  by_cases h2 : n < 2
  · have HE : Hid (readGE l = 3) := Lib.hid (readGE_short (by rw [HL.out]; exact h2))
    go_enter Tryz.func89, Tryz.ntmps89
    go_upto_region 1 with fail
    rw [← hw1]
    clear hw1
    have d0 : w1.cell? ⟨w.heap.size, 0, none⟩ = some (.int .u32 0) := HH.out.cell 0 (by simp)
    have d1 : w1.cell? ⟨w.heap.size, 1, none⟩ = some (.int .u32 0) := HH.out.cell 1 (by simp)
    have d2 : w1.cell? ⟨w.heap.size, 2, none⟩ = some (.int .u32 0) := HH.out.cell 2 (by simp)
    have d3 : w1.cell? ⟨w.heap.size, 3, none⟩ = some (.int .i64 0) := HH.out.cell 3 (by simp)
    have d4 : w1.cell? ⟨w.heap.size, 4, none⟩ = some (.int .i64 0) := HH.out.cell 4 (by simp)
    have d5 : w1.cell? ⟨w.heap.size, 5, none⟩ = some (.int .i64 0) := HH.out.cell 5 (by simp)
    have d6 : w1.cell? ⟨w.heap.size, 6, none⟩ = some (.slice none 0 0) := HH.out.cell 6 (by simp)
    have f0 := HH.out.free 0
    have f1 := HH.out.free 1
    have f2 := HH.out.free 2
    have f3 := HH.out.free 3
    have f4 := HH.out.free 4
    have f5 := HH.out.free 5
    have f6 := HH.out.free 6
    go_wp2_with fail
    refine bodyPost_ret (v := .tuple #[kV 0 0 0 0 0 0 (.slice none 0 0), .iface 31 (.int .i64 3)]) (by simp [results, Tryz.results89, go_sem, d0, d1, d2, d3, d4, d5, d6]) rfl ?_
    exact ReadN.err HE.out (by decide) (below_seven HB.out (Nat.le_refl _) _ _ _ _ _ _ _)
  · go_enter Tryz.func89, Tryz.ntmps89
    go_upto_region 1 with fail
    rw [← hw1]
    clear hw1
    go_wp2_with fail
    refine (whole16_is HL.out (HV.out.up HB.out) (HR.out.up HB.out) (by omega)).mono ?_
    rintro r w2 ⟨rfl, hb⟩
    have HB2 := Lib.hid (HB.out.trans (hb.mono HB.out.size))
    have HH2 := Lib.hid (HH.out.up hb (lt_of_block HH.out))
    clear hb HB HH
    by_cases hall : (l.all fun b => decide (b.length = 16)) = false
    · have HE := Lib.hid (readGE_all hall)
      rw [hall]
      have d0 : w2.cell? ⟨w.heap.size, 0, none⟩ = some (.int .u32 0) := HH2.out.cell 0 (by simp)
      have d1 : w2.cell? ⟨w.heap.size, 1, none⟩ = some (.int .u32 0) := HH2.out.cell 1 (by simp)
      have d2 : w2.cell? ⟨w.heap.size, 2, none⟩ = some (.int .u32 0) := HH2.out.cell 2 (by simp)
      have d3 : w2.cell? ⟨w.heap.size, 3, none⟩ = some (.int .i64 0) := HH2.out.cell 3 (by simp)
      have d4 : w2.cell? ⟨w.heap.size, 4, none⟩ = some (.int .i64 0) := HH2.out.cell 4 (by simp)
      have d5 : w2.cell? ⟨w.heap.size, 5, none⟩ = some (.int .i64 0) := HH2.out.cell 5 (by simp)
      have d6 : w2.cell? ⟨w.heap.size, 6, none⟩ = some (.slice none 0 0) := HH2.out.cell 6 (by simp)
      have f0 := HH2.out.free 0
      have f1 := HH2.out.free 1
      have f2 := HH2.out.free 2
      have f3 := HH2.out.free 3
      have f4 := HH2.out.free 4
      have f5 := HH2.out.free 5
      have f6 := HH2.out.free 6
      go_wp2_with fail
      refine bodyPost_ret (v := .tuple #[kV 0 0 0 0 0 0 (.slice none 0 0), .iface 31 (.int .i64 3)]) (by simp [results, Tryz.results89, go_sem, d0, d1, d2, d3, d4, d5, d6]) rfl ?_
      exact ReadN.err HE.out (by decide) (below_seven HB2.out (Nat.le_refl _) _ _ _ _ _ _ _)
    · have hall : (l.all fun b => decide (b.length = 16)) = true := by simpa using hall
      have HROK : Hid (rowsOk l) := Lib.hid ⟨by rw [HL.out]; omega, hall⟩
      have H16 : Hid (∀ x ∈ l, x.length = 16) := Lib.hid (fun x hx => by simpa using List.all_eq_true.1 hall x hx)
      rw [hall]
      clear hall
      go_wp2_with fail
      refine (concat_is (m := 32) (l := l.take 2) (vs := vs.take 2) (by rw [List.length_take, HL.out]; omega) ((HV.out.up HB2.out).take 2) ((HR.out.up HB2.out).take 2) (fun x hx => H16.out x (List.mem_of_mem_take hx)) (by omega) (by omega) rfl).mono ?_
      rintro r w3 ⟨g3, cap3, rfl, ho, hb⟩
      have HO3 := Lib.hid ho
      have HB3 := Lib.hid (HB2.out.trans (hb.mono HB2.out.size))
      have HH3 := Lib.hid (HH2.out.up hb (lt_of_block HH2.out))
      clear ho hb HB2 HH2
      have HBY := Lib.hid (byt_flatten HX.out)
      have HF2 : Hid (∀ i : Nat, i < 8 → numAt (l.take 2).flatten i = numAt l.flatten i) := Lib.hid (fun i hi => two_nums H16.out hi)
      obtain ⟨all, hall⟩ : ∃ all, l.flatten = all := ⟨_, rfl⟩
      have HFT := Lib.hid hall
      have HFL : Hid (all.length = 16 * n) := Lib.hid (by rw [← hall, flat_len16 H16.out, HL.out])
      rw [hall] at HBY HF2
      clear hall
      go_wp2_with fail
      refine (ktake_is (m := 8) (HO3.out.rd) (byt_flatten (fun x hx => HX.out x (List.mem_of_mem_take hx))) (by rw [flat_len16 (fun x hx => H16.out x (List.mem_of_mem_take hx)), List.length_take, HL.out]; omega) rfl (by omega)).mono ?_
      rintro r w4 ⟨g4, rfl, hg4, hbl, hb⟩
      have HN4 := Lib.hid hbl
      have HB4 := Lib.hid (HB3.out.trans (hb.mono HB3.out.size))
      have HH4 := Lib.hid (HH3.out.up hb (lt_of_block HH3.out))
      clear hbl hb HB3 HH3 HO3 hg4
      have hw3 := numAt_word 3 HBY.out
      have hw4 := numAt_word 4 HBY.out
      have hw5 := numAt_word 5 HBY.out
      obtain ⟨z, ez⟩ : ∃ z, numAt all 3 = z := ⟨_, rfl⟩
      obtain ⟨p, ep⟩ : ∃ p, numAt all 4 = p := ⟨_, rfl⟩
      obtain ⟨b, eb⟩ : ∃ b, numAt all 5 = b := ⟨_, rfl⟩
      have EZ := Lib.hid (And.intro ez (And.intro ep eb))
      rw [ez] at hw3
      rw [ep] at hw4
      rw [eb] at hw5
      have HWW := Lib.hid (And.intro hw3 (And.intro hw4 hw5))
      clear ez ep eb hw3 hw4 hw5
      go_wp2_with fail
      refine (parted_is (z := z) (p := p) (b := b) (numsLen _ 8 ▸ rfl) HN4.out.rdV (by omega) (by rw [numsGet _ (by omega), HF2.out _ (by omega), EZ.out.1]) (by rw [numsGet _ (by omega), HF2.out _ (by omega), EZ.out.2.1]) (by rw [numsGet _ (by omega), HF2.out _ (by omega), EZ.out.2.2]) HWW.out).mono ?_
      rintro r wc ⟨rfl, hb⟩
      have HBc := Lib.hid (HB4.out.trans (hb.mono HB4.out.size))
      have HHc := Lib.hid (HH4.out.up hb (lt_of_block HH4.out))
      clear hb HB4 HH4 HN4 HF2
      have HBd := Lib.hid (HBc.out.alloc HBc.out.size (.cells #[.int .i64 z, .int .i64 p, .int .i64 b] 37))
      have HHd := Lib.hid (HHc.out.up (Below.alloc (Below.refl wc.heap.size wc) (Nat.le_refl _) (.cells #[.int .i64 z, .int .i64 p, .int .i64 b] 37)) (lt_of_block HHc.out))
      have HGd := Lib.hid (blk_new wc [.int .i64 z, .int .i64 p, .int .i64 b] 37)
      have hG0 := lt_of_block HHc.out
      clear HBc HHc
      go_upto_region 4 with fail
      obtain ⟨G, hG⟩ : ∃ G, wc.heap.size = G := ⟨_, rfl⟩
      obtain ⟨wd, hwd⟩ : ∃ wd : World, wd = wc.alloc (.cells #[.int .i64 z, .int .i64 p, .int .i64 b] 37) := ⟨_, rfl⟩
      rw [show wc.alloc (.cells ([.int .i64 z, .int .i64 p, .int .i64 b] : List Value).toArray 37) = wd from hwd.symm] at HGd
      rw [← hwd] at HBd HHd ⊢
      rw [hG] at HGd hG0 ⊢
      clear hwd hG
      have HKd : Hid (KeptR w G z p b wd) := Lib.hid ⟨HBd.out, HHd.out, HGd.out⟩
      clear HBd HHd HGd
      have c0 := HKd.out.2.2.cell 0 (by simp)
      have c1 := HKd.out.2.2.cell 1 (by simp)
      have c2 := HKd.out.2.2.cell 2 (by simp)
      simp only [List.getElem_cons_succ, List.getElem_cons_zero] at c0 c1 c2
      go_wp2_with fail
      refine (right_is z p b wd).mono ?_
      rintro r we ⟨rfl, hb⟩
      have HKe := Lib.hid (HKd.out.up hb)
      clear hb HKd c0 c1 c2
      by_cases hrb : rightB z p b = true
      · rw [hrb]
        have hb64 : 1 ≤ b ∧ b ≤ 64 := by
          unfold rightB at hrb
          have := (bnd_bd z p).2
          simp only [decide_eq_true_eq] at hrb
          omega
        have HRB : Hid (rightB (numAt l.flatten 3) (numAt l.flatten 4) (numAt l.flatten 5) = true) := Lib.hid (by rw [HFT.out, EZ.out.1, EZ.out.2.1, EZ.out.2.2]; exact hrb)
        have HM5 : Hid (numAt l.flatten 5 = b) := Lib.hid (by rw [HFT.out]; exact EZ.out.2.2)
        clear hrb
        have gc2 := HKe.out.cell2
        go_wp2_with fail
        refine (kmanyq_is b _ (by omega) (by omega)).mono ?_
        rintro r w' ⟨rfl, rfl⟩
        have hMC : manyC b = (4 * (7 + tab b) + 15) / 16 := rfl
        have htb := tab_le (n := b) (by omega) (by omega)
        obtain ⟨T, hT⟩ : ∃ T : Nat, tab b = (T : Int) := ⟨(tab b).toNat, by omega⟩
        rw [hT] at hMC htb
        have HT := Lib.hid hT
        by_cases hmm : (n : Int) = manyC b
        · have hTN : 28 + 4 * T ≤ 16 * n := by omega
          have hn8 : n ≤ 8 := by omega
          have HMM : Hid ((l.length : Int) = manyC (numAt l.flatten 5)) := Lib.hid (by rw [HM5.out, HL.out]; exact hmm)
          have q1 : ((n : Int) != manyC b) = false := by simpa using hmm
          have HT5 : Hid (tab (numAt l.flatten 5) = (T : Int)) := Lib.hid (by rw [HM5.out]; exact HT.out)
          obtain ⟨mc, hmc⟩ : ∃ mc, manyC b = mc := ⟨_, rfl⟩
          rw [hmc] at q1 ⊢
          clear hmc hmm hMC
          obtain ⟨N, hN⟩ : ∃ N, 16 * n = N := ⟨_, rfl⟩
          have HNN := Lib.hid hN
          rw [hN] at HFL hTN
          have hNb : N ≤ 128 := by omega
          go_wp2_with fail
          have HKs := Lib.hid (HKe.out.up (Below.refl we.heap.size we).drew)
          have gd2 := HKs.out.cell2
          have hsl : ∀ u, Calls Tryz.prog 115 #[.int .i64 b] u (IntIs (6 + tab b) u) := fun u => seal_is b u (by omega) (by omega)
          rw [hT] at hsl
          have HCC : Hid (∀ u, KeptR w G z p b u → Calls Tryz.prog 113 #[.slice A n c] u (Own1Is N all u)) := Lib.hid (fun u hu => by
            have := concat_is (c := c) HL.out (HV.out.up hu.1) (HR.out.up hu.1) H16.out (by omega) (by omega) HNN.out
            rwa [HFT.out] at this)
          go_region_held3 (fun w' => w'.cell? ⟨G, 2, none⟩ = some (.int .i64 b))
              (first | exact gc2 | exact gd2 | exact gx2)
              (first
                | (go_at_call 113; (refine (HCC.out _ HKs.out).mono ?_); rintro r w5 ⟨g, cap, rfl, ho, hb⟩; have HO5 := Lib.hid ho; have HK5 := Lib.hid (HKs.out.up hb); clear ho hb; have gx2 := HK5.out.cell2)
                | (go_at_call 115; (refine (hsl _).mono ?_); rintro r w6 ⟨rfl, rfl⟩))
          obtain ⟨V, hV⟩ : ∃ V : Nat, (6 : Int) + (T : Int) = (V : Int) := ⟨6 + T, by omega⟩
          obtain ⟨M, hM⟩ : ∃ M : Nat, 4 * n = M := ⟨_, rfl⟩
          have HVT : Hid (V = 6 + T) := Lib.hid (by omega)
          have HNM : Hid (N = 4 * M) := Lib.hid (by omega)
          have hMb : M ≤ 32 ∧ 8 ≤ M := by omega
          have hVM : V + 1 ≤ M := by omega
          have hcp := HO5.out.cap
          rw [HFL.out] at hcp
          rw [hV]
          clear gc2 gd2 gx2 hsl HCC hT
          go_wp2_with fail
          refine (ktake_is (m := M) HO5.out.rd HBY.out HFL.out HNM.out (by omega)).mono ?_
          rintro r w6 ⟨gn, rfl, hgn, hbl, hb⟩
          have HR6 := Lib.hid (rd_up HO5.out.rd hb)
          have HK6 : Hid (KeptQ w G gn z p b (nums all M) w6) := Lib.hid ⟨HK5.out.up hb, hbl⟩
          have hgw : w.heap.size < gn := Nat.lt_of_lt_of_le (lt_of_block HK5.out.2.1) hgn
          clear hbl hb HO5 HKs HKe HK5 hgn
          obtain ⟨st, hst⟩ : ∃ st, numAt all V = st := ⟨_, rfl⟩
          obtain ⟨U, hU⟩ : ∃ U : Nat, (V : Int) * 4 = (U : Int) := ⟨V * 4, by omega⟩
          obtain ⟨sm, hsm⟩ : ∃ sm, sumN (all.take U) = sm := ⟨_, rfl⟩
          have hUN : U ≤ N := by omega
          have HUT : Hid (U = 24 + 4 * T) := Lib.hid (by omega)
          have HSS : Hid (sumN (l.flatten.take (24 + 4 * T)) = sm ∧ numAt l.flatten (6 + T) = st) := Lib.hid ⟨by rw [HFT.out, ← HUT.out]; exact hsm, by rw [HFT.out, ← HVT.out]; exact hst⟩
          have cV : w6.cell? ⟨gn, V, none⟩ = some (.int .u32 st) := by
            have := HK6.out.2.cell V (by rw [u32s_len, numsLen]; omega)
            rw [u32s_get] at this
            rw [this]
            simp only [nums, List.getElem_map, List.getElem_range, hst]
          have HCV := Lib.hid cV
          have hgl := lt_of_block HK6.out.2
          have HSM := Lib.hid hsm
          clear cV hst hsm hV hM hN
          go_wp2_with fail
          refine wp_region_in (fun u => Below w6.heap.size w6 u) (Below.refl _ _).drew (by kernel_rfl) (by kernel_rfl) (fun ne => ?_)
          have cn := fun q : In (fun u => Below w6.heap.size w6 u) => (q.ok.cell (p := ⟨gn, V, none⟩) hgl).trans HCV.out
          have sD := fun q : In (fun u => Below w6.heap.size w6 u) => of_at (n := U) (c := cap) (HBY.out.take U) ((rd_up HR6.out q.ok).take U) (by rw [List.length_take, HFL.out]; omega) (by omega) (by omega) HSM.out
          repeat (go_big_quiet_step (first
            | (go_at_call 116; with_reducible exact In.more (fun h1 h2 => below_all h1 h2) (sD _))))
          refine wpQuiet_nil ?_
          intro nq
          have HB7 := Lib.hid nq.ok
          obtain ⟨w7, hw7⟩ : ∃ w7, nq.w = w7 := ⟨_, rfl⟩
          rw [hw7] at HB7 ⊢
          have HK7 := Lib.hid (HK6.out.up HB7.out)
          clear cn sD hw7 nq HK6 HR6 HB7 HCV hgl HSM
          by_cases hss : st = sm
          · have q2 : (st != sm) = false := by simpa using hss
            have HS2 : Hid (sumN (l.flatten.take (24 + 4 * T)) = numAt l.flatten (6 + T)) := Lib.hid (by rw [HSS.out.1, HSS.out.2, hss])
            clear hss HSS
            obtain ⟨Y, hY⟩ : ∃ Y : Nat, (V : Int) + 1 = (Y : Int) := ⟨V + 1, by omega⟩
            have hYM : Y ≤ M := by omega
            have HYT : Hid (4 * Y = 28 + 4 * T) := Lib.hid (by have := HVT.out; omega)
            have HEM : Hid (∀ (A' : Option Addr) (u : World), (Y < M → A' = some ⟨gn, Y, none⟩) → KeptQ w G gn z p b (nums all M) u → Calls Tryz.prog 117 #[.slice A' (M - Y) (M - Y)] u (BoolB (((nums all M).drop Y).all fun b => decide (b = 0)) u)) := Lib.hid (fun A' u hA hu => by
              refine empty0_is (by rw [List.length_drop, numsLen]) ?_ (by omega)
              intro hp
              rw [u32s_len, List.length_drop, numsLen] at hp
              rw [hA (by omega)]
              have := (hu.2.rdV).drop Y (by rw [List.length_drop, u32s_len, numsLen]; exact hp)
              rw [Nat.zero_add] at this
              rwa [show (u32s (nums all M)).drop Y = u32s ((nums all M).drop Y) by simp [u32s, List.map_drop]] at this)
            have HZZ : Hid ((((nums all M).drop Y).all fun b => decide (b = 0)) = ((l.flatten.drop (28 + 4 * T)).all fun x => decide (x = 0))) := Lib.hid (by rw [drop_zero HBY.out (by rw [HFL.out]; exact HNM.out), HFT.out, HYT.out])
            have hemp : ∀ A', (Y < M → A' = some ⟨gn, Y, none⟩) → Calls Tryz.prog 117 #[.slice A' (M - Y) (M - Y)] w7 (BoolB (((nums all M).drop Y).all fun b => decide (b = 0)) w7) := fun A' hA => HEM.out A' w7 hA HK7.out
            obtain ⟨AX, hsl, hst, hX⟩ := slice32_tail gn M Y hYM
            have HE12 := Lib.hid (hemp AX hX)
            clear hemp hX
            go_wp2_with fail
            refine HE12.out.mono ?_
            rintro r w8 ⟨rfl, hb⟩
            have HK8 := Lib.hid (HK7.out.up hb)
            clear hb HK7 HE12 hsl hst
            by_cases hzz : ((l.flatten.drop (28 + 4 * T)).all fun x => decide (x = 0)) = true
            · rw [HZZ.out, hzz]
              have HOK : Hid (readGE l = 0) := Lib.hid (readGE_ok HROK.out HRB.out HMM.out HT5.out HS2.out hzz)
              clear hzz HZZ
              have HKd := Lib.hid (HK8.out.up (Below.refl w8.heap.size w8).drew)
              obtain ⟨nu, en⟩ : ∃ v, numAt all 0 = v := ⟨_, rfl⟩
              obtain ⟨se, es⟩ : ∃ v, numAt all 1 = v := ⟨_, rfl⟩
              obtain ⟨sq, eq⟩ : ∃ v, numAt all 2 = v := ⟨_, rfl⟩
              have EN := Lib.hid (And.intro en (And.intro es eq))
              have KS : ∀ u, KeptQ w G gn z p b (nums all M) u → u.cell? ⟨gn, 0, none⟩ = some (.int .u32 nu) ∧ u.cell? ⟨gn, 1, none⟩ = some (.int .u32 se) ∧ u.cell? ⟨gn, 2, none⟩ = some (.int .u32 sq) ∧ u.cell? ⟨G, 0, none⟩ = some (.int .i64 z) ∧ u.cell? ⟨G, 1, none⟩ = some (.int .i64 p) ∧ u.cell? ⟨G, 2, none⟩ = some (.int .i64 b) := fun u hu => by
                have k0 := hu.2.cell 0 (by rw [u32s_len, numsLen]; omega)
                have k1 := hu.2.cell 1 (by rw [u32s_len, numsLen]; omega)
                have k2 := hu.2.cell 2 (by rw [u32s_len, numsLen]; omega)
                rw [u32s_get] at k0 k1 k2
                simp only [nums, List.getElem_map, List.getElem_range, en, es, eq] at k0 k1 k2
                exact ⟨k0, k1, k2, hu.1.2.2.cell 0 (by simp), hu.1.2.2.cell 1 (by simp), hu.1.2.2.cell 2 (by simp)⟩
              clear en es eq
              have HCL : Hid (∀ u, KeptQ w G gn z p b (nums all M) u → Calls Tryz.prog 118 #[.slice (some ⟨gn, 6, none⟩) T (M - 6)] u (Nums1Is T (dirUp all T) u)) := Lib.hid (fun u hu => by
                refine clone_is (dirUp_len _ _) ?_ (by omega) (by omega)
                have := ((hu.2.rdV).drop 6).take T
                rw [Nat.zero_add] at this
                rwa [show ((u32s (nums all M)).drop 6).take T = u32s (dirUp all T) by rw [← dir_nums (M := M) (by have := HVT.out; omega)]; simp [u32s, List.map_drop, List.map_take]] at this)
              have hgs := KS _ HKd.out
              have s0 := hgs.1
              have s1 := hgs.2.1
              have s2 := hgs.2.2.1
              have s3 := hgs.2.2.2.1
              have s4 := hgs.2.2.2.2.1
              have s5 := hgs.2.2.2.2.2
              clear hgs
              have hne1 : gn ≠ w.heap.size := by omega
              have hne2 : G ≠ w.heap.size := by omega
              have hVT2 : V - 6 = T := by have := HVT.out; omega
              have h6V : 6 ≤ V := by omega
              have HT1 : Hid (T + 6 ≤ M) := Lib.hid (by have := HVT.out; omega)
              have KS7 : ∀ u, KeptQ w G gn z p b (nums all M) u → ∀ (v0 v1 v2 v3 v4 v5 v6 : Value), (((((((u.setCell ⟨w.heap.size, 0, none⟩ v0).setCell ⟨w.heap.size, 1, none⟩ v1).setCell ⟨w.heap.size, 2, none⟩ v2).setCell ⟨w.heap.size, 3, none⟩ v3).setCell ⟨w.heap.size, 4, none⟩ v4).setCell ⟨w.heap.size, 5, none⟩ v5).setCell ⟨w.heap.size, 6, none⟩ v6).cell? ⟨gn, 0, none⟩ = some (.int .u32 nu) ∧ (((((((u.setCell ⟨w.heap.size, 0, none⟩ v0).setCell ⟨w.heap.size, 1, none⟩ v1).setCell ⟨w.heap.size, 2, none⟩ v2).setCell ⟨w.heap.size, 3, none⟩ v3).setCell ⟨w.heap.size, 4, none⟩ v4).setCell ⟨w.heap.size, 5, none⟩ v5).setCell ⟨w.heap.size, 6, none⟩ v6).cell? ⟨gn, 1, none⟩ = some (.int .u32 se) ∧ (((((((u.setCell ⟨w.heap.size, 0, none⟩ v0).setCell ⟨w.heap.size, 1, none⟩ v1).setCell ⟨w.heap.size, 2, none⟩ v2).setCell ⟨w.heap.size, 3, none⟩ v3).setCell ⟨w.heap.size, 4, none⟩ v4).setCell ⟨w.heap.size, 5, none⟩ v5).setCell ⟨w.heap.size, 6, none⟩ v6).cell? ⟨gn, 2, none⟩ = some (.int .u32 sq) ∧ (((((((u.setCell ⟨w.heap.size, 0, none⟩ v0).setCell ⟨w.heap.size, 1, none⟩ v1).setCell ⟨w.heap.size, 2, none⟩ v2).setCell ⟨w.heap.size, 3, none⟩ v3).setCell ⟨w.heap.size, 4, none⟩ v4).setCell ⟨w.heap.size, 5, none⟩ v5).setCell ⟨w.heap.size, 6, none⟩ v6).cell? ⟨G, 0, none⟩ = some (.int .i64 z) ∧ (((((((u.setCell ⟨w.heap.size, 0, none⟩ v0).setCell ⟨w.heap.size, 1, none⟩ v1).setCell ⟨w.heap.size, 2, none⟩ v2).setCell ⟨w.heap.size, 3, none⟩ v3).setCell ⟨w.heap.size, 4, none⟩ v4).setCell ⟨w.heap.size, 5, none⟩ v5).setCell ⟨w.heap.size, 6, none⟩ v6).cell? ⟨G, 1, none⟩ = some (.int .i64 p) ∧ (((((((u.setCell ⟨w.heap.size, 0, none⟩ v0).setCell ⟨w.heap.size, 1, none⟩ v1).setCell ⟨w.heap.size, 2, none⟩ v2).setCell ⟨w.heap.size, 3, none⟩ v3).setCell ⟨w.heap.size, 4, none⟩ v4).setCell ⟨w.heap.size, 5, none⟩ v5).setCell ⟨w.heap.size, 6, none⟩ v6).cell? ⟨G, 2, none⟩ = some (.int .i64 b) := fun u hu v0 v1 v2 v3 v4 v5 v6 => by
                obtain ⟨k0, k1, k2, k3, k4, k5⟩ := KS u hu
                exact ⟨set7_cell k0 hne1 v0 v1 v2 v3 v4 v5 v6, set7_cell k1 hne1 v0 v1 v2 v3 v4 v5 v6, set7_cell k2 hne1 v0 v1 v2 v3 v4 v5 v6, set7_cell k3 hne2 v0 v1 v2 v3 v4 v5 v6, set7_cell k4 hne2 v0 v1 v2 v3 v4 v5 v6, set7_cell k5 hne2 v0 v1 v2 v3 v4 v5 v6⟩
              obtain ⟨hsl, hst⟩ := slice32_mid gn M V T HVT.out.symm (by omega) (by omega) (by omega)
              have i0 : (0 : Int) < (M : Int) := by omega
              have i0n : 0 < M := by omega
              have i1 : (1 : Int) < (M : Int) := by omega
              have i2 : (2 : Int) < (M : Int) := by omega
              have i3 : (6 : Int) ≤ (V : Int) := by omega
              have i4 : (V : Int) ≤ (M : Int) := by omega
              go_wp2_with fail
              go_region_held3 (fun w' => w'.cell? ⟨gn, 0, none⟩ = some (.int .u32 nu) ∧ w'.cell? ⟨gn, 1, none⟩ = some (.int .u32 se) ∧ w'.cell? ⟨gn, 2, none⟩ = some (.int .u32 sq) ∧ w'.cell? ⟨G, 0, none⟩ = some (.int .i64 z) ∧ w'.cell? ⟨G, 1, none⟩ = some (.int .i64 p) ∧ w'.cell? ⟨G, 2, none⟩ = some (.int .i64 b))
                  (first | with_reducible exact KS _ HKd.out | with_reducible exact KS _ HK9.out | with_reducible exact KS7 _ HK9.out _ _ _ _ _ _ _)
                  (first
                    | (go_at_call 118; (with_reducible refine (HCL.out _ HKd.out).mono ?_); rintro r w9 ⟨gc, capc, rfl, ho, hb⟩; have HO9 := Lib.hid ho; have HK9 := Lib.hid (HKd.out.up hb); clear ho hb; have e0 := HK9.out.1.2.1.cell 0 (by simp); have e1 := HK9.out.1.2.1.cell 1 (by simp); have e2 := HK9.out.1.2.1.cell 2 (by simp); have e3 := HK9.out.1.2.1.cell 3 (by simp); have e4 := HK9.out.1.2.1.cell 4 (by simp); have e5 := HK9.out.1.2.1.cell 5 (by simp); have e6 := HK9.out.1.2.1.cell 6 (by simp); have p0 := HK9.out.1.2.1.free 0; have p1 := HK9.out.1.2.1.free 1; have p2 := HK9.out.1.2.1.free 2; have p3 := HK9.out.1.2.1.free 3; have p4 := HK9.out.1.2.1.free 4; have p5 := HK9.out.1.2.1.free 5; have p6 := HK9.out.1.2.1.free 6))
              have HBf := Lib.hid (below_seven HK9.out.1.1 (Nat.le_refl _) (.int .u32 nu) (.int .u32 se) (.int .u32 sq) (.int .i64 z) (.int .i64 p) (.int .i64 b) (.slice (some ⟨gc, 0, none⟩) T capc))
              have HOf := Lib.hid (HO9.out.kept (grown7 w9 w.heap.size (.int .u32 nu) (.int .u32 se) (.int .u32 sq) (.int .i64 z) (.int .i64 p) (.int .i64 b) (.slice (some ⟨gc, 0, none⟩) T capc)) (fun e => by have := Option.some.inj e; have := HO9.out.mem.1; have := lt_of_block HKd.out.1.2.1; omega))
              have hcf := HOf.out.cap
              rw [u32s_len, dirUp_len] at hcf
              go_wp2_with fail
              refine bodyPost_ret (v := .tuple #[kV nu se sq z p b (.slice (some ⟨gc, 0, none⟩) T capc), .nilIface]) (by simp [results, Tryz.results89, go_sem, e0, e1, e2, e3, e4, e5, e6]) rfl ?_
              exact ReadN.ok HOK.out (by rw [HFT.out]; exact EN.out) (by rw [HFT.out]; exact EZ.out) ⟨some ⟨gc, 0, none⟩, capc, by rw [u32s_len, readDir_up HT5.out, dirUp_len], by rw [u32s_len, readDir_up HT5.out, dirUp_len]; exact hcf, by rw [readDir_up HT5.out, HFT.out]; exact HOf.out.rdV, (InF.one ⟨Nat.le_trans HKd.out.1.1.size HOf.out.mem.1, HOf.out.mem.2⟩).n, fun e => by cases e⟩ HBf.out
            · have hzz : ((l.flatten.drop (28 + 4 * T)).all fun x => decide (x = 0)) = false := by simpa using hzz
              rw [HZZ.out, hzz]
              have HE : Hid (readGE l = 2) := Lib.hid (readGE_zero HROK.out HRB.out HMM.out HT5.out HS2.out hzz)
              have HB := Lib.hid HK8.out.1.1
              have HH := Lib.hid HK8.out.1.2.1
              clear hzz HZZ
              have d0 : w8.cell? ⟨w.heap.size, 0, none⟩ = some (.int .u32 0) := HH.out.cell 0 (by simp)
              have d1 : w8.cell? ⟨w.heap.size, 1, none⟩ = some (.int .u32 0) := HH.out.cell 1 (by simp)
              have d2 : w8.cell? ⟨w.heap.size, 2, none⟩ = some (.int .u32 0) := HH.out.cell 2 (by simp)
              have d3 : w8.cell? ⟨w.heap.size, 3, none⟩ = some (.int .i64 0) := HH.out.cell 3 (by simp)
              have d4 : w8.cell? ⟨w.heap.size, 4, none⟩ = some (.int .i64 0) := HH.out.cell 4 (by simp)
              have d5 : w8.cell? ⟨w.heap.size, 5, none⟩ = some (.int .i64 0) := HH.out.cell 5 (by simp)
              have d6 : w8.cell? ⟨w.heap.size, 6, none⟩ = some (.slice none 0 0) := HH.out.cell 6 (by simp)
              have f0 := HH.out.free 0
              have f1 := HH.out.free 1
              have f2 := HH.out.free 2
              have f3 := HH.out.free 3
              have f4 := HH.out.free 4
              have f5 := HH.out.free 5
              have f6 := HH.out.free 6
              go_wp2_with fail
              refine bodyPost_ret (v := .tuple #[kV 0 0 0 0 0 0 (.slice none 0 0), .iface 31 (.int .i64 2)]) (by simp [results, Tryz.results89, go_sem, d0, d1, d2, d3, d4, d5, d6]) rfl ?_
              exact ReadN.err HE.out (by decide) (below_seven HB.out (Nat.le_refl _) _ _ _ _ _ _ _)
          · have HE : Hid (readGE l = 4) := Lib.hid (readGE_sum HROK.out HRB.out HMM.out HT5.out (by rw [HSS.out.1, HSS.out.2]; exact fun e => hss e.symm))
            have q2 : (st != sm) = true := by simpa using hss
            have HB := Lib.hid HK7.out.1.1
            have HH := Lib.hid HK7.out.1.2.1
            clear hss
            have d0 : w7.cell? ⟨w.heap.size, 0, none⟩ = some (.int .u32 0) := HH.out.cell 0 (by simp)
            have d1 : w7.cell? ⟨w.heap.size, 1, none⟩ = some (.int .u32 0) := HH.out.cell 1 (by simp)
            have d2 : w7.cell? ⟨w.heap.size, 2, none⟩ = some (.int .u32 0) := HH.out.cell 2 (by simp)
            have d3 : w7.cell? ⟨w.heap.size, 3, none⟩ = some (.int .i64 0) := HH.out.cell 3 (by simp)
            have d4 : w7.cell? ⟨w.heap.size, 4, none⟩ = some (.int .i64 0) := HH.out.cell 4 (by simp)
            have d5 : w7.cell? ⟨w.heap.size, 5, none⟩ = some (.int .i64 0) := HH.out.cell 5 (by simp)
            have d6 : w7.cell? ⟨w.heap.size, 6, none⟩ = some (.slice none 0 0) := HH.out.cell 6 (by simp)
            have f0 := HH.out.free 0
            have f1 := HH.out.free 1
            have f2 := HH.out.free 2
            have f3 := HH.out.free 3
            have f4 := HH.out.free 4
            have f5 := HH.out.free 5
            have f6 := HH.out.free 6
            go_wp2_with fail
            refine bodyPost_ret (v := .tuple #[kV 0 0 0 0 0 0 (.slice none 0 0), .iface 31 (.int .i64 4)]) (by simp [results, Tryz.results89, go_sem, d0, d1, d2, d3, d4, d5, d6]) rfl ?_
            exact ReadN.err HE.out (by decide) (below_seven HB.out (Nat.le_refl _) _ _ _ _ _ _ _)
        · have HE : Hid (readGE l = 3) := Lib.hid (readGE_many HROK.out HRB.out (by rw [HM5.out, HL.out]; exact hmm))
          have q1 : ((n : Int) != manyC b) = true := by simpa using hmm
          have HB := Lib.hid HKe.out.1
          have HH := Lib.hid HKe.out.2.1
          generalize manyC b = mc at *
          have d0 : we.cell? ⟨w.heap.size, 0, none⟩ = some (.int .u32 0) := HH.out.cell 0 (by simp)
          have d1 : we.cell? ⟨w.heap.size, 1, none⟩ = some (.int .u32 0) := HH.out.cell 1 (by simp)
          have d2 : we.cell? ⟨w.heap.size, 2, none⟩ = some (.int .u32 0) := HH.out.cell 2 (by simp)
          have d3 : we.cell? ⟨w.heap.size, 3, none⟩ = some (.int .i64 0) := HH.out.cell 3 (by simp)
          have d4 : we.cell? ⟨w.heap.size, 4, none⟩ = some (.int .i64 0) := HH.out.cell 4 (by simp)
          have d5 : we.cell? ⟨w.heap.size, 5, none⟩ = some (.int .i64 0) := HH.out.cell 5 (by simp)
          have d6 : we.cell? ⟨w.heap.size, 6, none⟩ = some (.slice none 0 0) := HH.out.cell 6 (by simp)
          have f0 := HH.out.free 0
          have f1 := HH.out.free 1
          have f2 := HH.out.free 2
          have f3 := HH.out.free 3
          have f4 := HH.out.free 4
          have f5 := HH.out.free 5
          have f6 := HH.out.free 6
          go_wp2_with fail
          refine bodyPost_ret (v := .tuple #[kV 0 0 0 0 0 0 (.slice none 0 0), .iface 31 (.int .i64 3)]) (by simp [results, Tryz.results89, go_sem, d0, d1, d2, d3, d4, d5, d6]) rfl ?_
          exact ReadN.err HE.out (by decide) (below_seven HB.out (Nat.le_refl _) _ _ _ _ _ _ _)
      · have hrb : rightB z p b = false := by simpa using hrb
        have HE : Hid (readGE l = 2) := Lib.hid (readGE_form HROK.out (by rw [HFT.out, EZ.out.1, EZ.out.2.1, EZ.out.2.2]; exact hrb))
        rw [hrb]
        have HB := Lib.hid HKe.out.1
        have HH := Lib.hid HKe.out.2.1
        have d0 : we.cell? ⟨w.heap.size, 0, none⟩ = some (.int .u32 0) := HH.out.cell 0 (by simp)
        have d1 : we.cell? ⟨w.heap.size, 1, none⟩ = some (.int .u32 0) := HH.out.cell 1 (by simp)
        have d2 : we.cell? ⟨w.heap.size, 2, none⟩ = some (.int .u32 0) := HH.out.cell 2 (by simp)
        have d3 : we.cell? ⟨w.heap.size, 3, none⟩ = some (.int .i64 0) := HH.out.cell 3 (by simp)
        have d4 : we.cell? ⟨w.heap.size, 4, none⟩ = some (.int .i64 0) := HH.out.cell 4 (by simp)
        have d5 : we.cell? ⟨w.heap.size, 5, none⟩ = some (.int .i64 0) := HH.out.cell 5 (by simp)
        have d6 : we.cell? ⟨w.heap.size, 6, none⟩ = some (.slice none 0 0) := HH.out.cell 6 (by simp)
        have f0 := HH.out.free 0
        have f1 := HH.out.free 1
        have f2 := HH.out.free 2
        have f3 := HH.out.free 3
        have f4 := HH.out.free 4
        have f5 := HH.out.free 5
        have f6 := HH.out.free 6
        go_wp2_with fail
        refine bodyPost_ret (v := .tuple #[kV 0 0 0 0 0 0 (.slice none 0 0), .iface 31 (.int .i64 2)]) (by simp [results, Tryz.results89, go_sem, d0, d1, d2, d3, d4, d5, d6]) rfl ?_
        exact ReadN.err HE.out (by decide) (below_seven HB.out (Nat.le_refl _) _ _ _ _ _ _ _)
end Go.Proofs.YthmpimjmajoimaaGreatDoor
namespace Go.Proofs.YthmpimjmajoimaaGreatDoor
open Go.RowKit

/-- What is no cells lies as it lay, from block B on. -/
structure KeepsFrom (B : Nat) (W W' : World) : Prop where
  size : W.heap.size ≤ W'.heap.size
  same : ∀ (k : Nat) (o : Obj), B ≤ k → W.heap[k]? = some o → o.isCells = false → W'.heap[k]? = some o
theorem KeepsFrom.refl (B : Nat) (W : World) : KeepsFrom B W W := ⟨Nat.le_refl _, fun _ _ _ h _ => h⟩
theorem KeepsFrom.trans {B : Nat} {a b c : World} (h : KeepsFrom B a b) (k : KeepsFrom B b c) : KeepsFrom B a c := ⟨Nat.le_trans h.size k.size, fun i o hi h1 h2 => k.same i o hi (h.same i o hi h1 h2) h2⟩
theorem KeepsFrom.of_below {B : Nat} {W W' : World} (h : Below W.heap.size W W') : KeepsFrom B W W' := ⟨h.size, fun k _ _ hk _ => (h.block k (Array.getElem?_eq_some_iff.1 hk).1).trans hk⟩
theorem KeepsFrom.grown {B b : Nat} {W W' : World} (h : W.grownBy W' (some b)) (hb : b < B) : KeepsFrom B W W' := ⟨h.size, fun k _ hB hk _ => (h.block k (Array.getElem?_eq_some_iff.1 hk).1 (fun e => by have := Option.some.inj e; omega)).trans hk⟩

variable {F : Fence} {n : Nat} {P : Program}
theorem ownFrom_step {β : Type} {B : Nat} {J : β → World → Prop} (h : OwnFrom B J) {s : β} {A C : World} (hj : J s A) (hb : Below A.heap.size A C) : J s C :=
  h s A C none hj ⟨hb.os, hb.tape, hb.output, hb.size, fun k hk _ => hb.block k hk⟩ (fun r e => by cases e)
end Go.Proofs.YthmpimjmajoimaaGreatDoor
