/-
  platelayerlaw12.VictimOrder answers true.
-/
import Derived.Test.YtndapbfaaglcgaaVcG
import Derived.Test.YtndapbfaaglcgaaCutR
namespace Go.Proofs.Ytndapbfaaglcgaa
open Go.RowKit

theorem he_vz : Try.prog.underlying 22 = some (.slice (Try.prog.elem 22)) := by kernel_rfl
theorem hz_vz : ∀ W : World, (sizeOf (Try.prog.elem 22)).run Try.prog W = .ok 3 W := by
  intro W
  have h : Try.prog.elem 22 = 38 := by kernel_rfl
  rw [h]
  simp [Try.sizeOf38]
theorem turn_perm (l : List VZ) (k : Nat) : (l.drop k ++ l.take k).Perm l := by
  have h := List.perm_append_comm (l₁ := l.drop k) (l₂ := l.take k)
  rwa [List.take_append_drop] at h
/-- What was last is no more than what comes. -/
def LastOk (pol : Int) (o : List VZ) (t : Nat) (lv : Int) : Prop := pol = 0 → ∀ h : t < o.length, lv ≤ o[t].v
theorem LastOk.next {pol p : Int} {o : List VZ} {t : Nat} (hu : VZ.InOrd pol p o) (ht : t < o.length) : LastOk pol o (t + 1) o[t].v := by
  intro h0 h
  subst h0
  exact List.pairwise_iff_getElem.1 (VZ.ord_up hu) t (t + 1) ht h (by omega)
set_option maxHeartbeats 8000000 in
set_option maxRecDepth 100000 in
theorem vcorder_true (O : VOps) {w : World} (pol p extra turn : Int) (A : Option Addr) (n c : Nat) (l : List VZ) (hl : l.length = n) (hr : RdV w w.heap.size A (zsC l)) (hnc : n ≤ c) (hz : A = none → c = 0) (hg : AgeOk l) : Calls Try.prog 5 #[.int .i64 pol, .int .i64 p, .int .i64 extra, .slice A n c, .int .i64 turn] w (BoolB true w) := by
  have HN := Lib.hid hl
  have HZ := Lib.hid hz
  have HNC := Lib.hid hnc
  have HAG := Lib.hid hg
  have HR := Lib.hid hr
  clear hl hr hz hg hnc
  go_enter Try.func5, Try.ntmps5
  go_wp2_with fail
  refine (vcawake_true O w).mono ?_
  rintro r w1 ⟨rfl, hb⟩
  have HB1 := Lib.hid hb
  have HR1 := Lib.hid (HR.out.up hb)
  clear hb HR
  go_wp2_with fail
  refine (vcoutside_at p l HN.out HR1.out).mono ?_
  rintro r w2 ⟨rfl, hb⟩
  have HB2 := Lib.hid (below_all HB1.out hb)
  have HR2 := Lib.hid (HR1.out.up hb)
  clear hb HB1 HR1
  have HRO := Lib.hid (fun h => outB_no (p := p) (l := l) h)
  obtain ⟨ob, hob⟩ : ∃ x, outB p l = x := ⟨_, rfl⟩
  rw [hob] at HRO ⊢
  clear hob
  cases ob with
  | true =>
    go_wp2_with fail
    go_ret
    exact ⟨rfl, HB2.out⟩
  | false =>
  obtain ⟨hp1, hp2, hfit, hap, hn24⟩ := HRO.out rfl
  rw [HN.out] at hn24
  have HF := Lib.hid hfit
  have HA := Lib.hid hap
  clear hfit hap HRO
  by_cases h4 : extra < 0
  · have d4 : decide (extra < 0) = true := by simpa using h4
    clear h4
    go_wp2_with fail
    go_ret
    exact ⟨rfl, HB2.out⟩
  have d4 : decide (extra < 0) = false := by simpa using h4
  by_cases h5 : 16 < extra
  · have d5 : decide (16 < extra) = true := by simpa using h5
    clear h4 h5
    go_wp2_with fail
    go_ret
    exact ⟨rfl, HB2.out⟩
  have d5 : decide (16 < extra) = false := by simpa using h5
  have he0 : 0 ≤ extra := by omega
  have he1 : extra ≤ 16 := by omega
  clear h4 h5
  by_cases h6 : turn < 0
  · have d6 : decide (turn < 0) = true := by simpa using h6
    clear h6
    go_wp2_with fail
    go_ret
    exact ⟨rfl, HB2.out⟩
  have d6 : decide (turn < 0) = false := by simpa using h6
  by_cases h7 : (n : Int) < turn
  · have d7 : decide ((n : Int) < turn) = true := by simpa using h7
    clear h6 h7
    go_wp2_with fail
    go_ret
    exact ⟨rfl, HB2.out⟩
  have d7 : decide ((n : Int) < turn) = false := by simpa using h7
  obtain ⟨tn, htn⟩ := Int.eq_ofNat_of_zero_le (show 0 ≤ turn by omega)
  have htn' : tn ≤ n := by omega
  subst htn
  have d8 : ¬ n < tn := by omega
  clear h6 h7
  go_wp2_with fail
  clear d4 d5 d6 d7 d8
  obtain ⟨A3, c3, hcut1, hz1, hrd1⟩ := cut_head (w := w2) (Ts := 22) (k := 3) (n := n) (c := c) (j := tn) he_vz hz_vz HR2.out HZ.out HNC.out htn'
  obtain ⟨A4, c4, hcut2, hz2, hrd2⟩ := cut_tail (w := w2) (Ts := 22) (k := 3) (n := n) (c := c) (j := tn) he_vz hz_vz HR2.out HZ.out (by rw [zsC_len, HN.out]) (by omega) HNC.out htn'
  rw [zsC_take] at hrd1
  rw [zsC_drop] at hrd2
  have HPP : Hid ((∀ u, Below w2.heap.size w2 u → RdV u u.heap.size A3 (zsC (l.take tn))) ∧ (zsC (l.take tn)).length = tn * 3 ∧ (A3 = none → c3 = 0)) := Lib.hid ⟨hrd1, by rw [zsC_len, List.length_take, HN.out]; omega, hz1⟩
  have HQP : Hid ((∀ u, Below w2.heap.size w2 u → RdV u u.heap.size A4 (zsC (l.drop tn))) ∧ (zsC (l.drop tn)).length = (n - tn) * 3 ∧ (A4 = none → c4 = 0)) := Lib.hid ⟨hrd2, by rw [zsC_len, List.length_drop, HN.out], hz2⟩
  obtain ⟨h1, h2⟩ := hcut1
  obtain ⟨h3, h4⟩ := hcut2
  clear hz1 hrd1 hz2 hrd2
  refine wp_region_held_drew (S := fun _ => True) (by kernel_rfl) (trivial) (fun hHeld => ?_)
  show wpAnyH _ _ _ _ _ 10 _ _ _
  refine wpAnyH_take (i := 1) (v := ?_) rfl (by kernel_rfl) (by kernel_rfl) (by kernel_rfl) (fun _ _ _ h => h) (Or.inl ⟨by rfl, ?_⟩) hHeld ?_
  rotate_left
  · intro u hSu
    obtain _ := hSu
    go_simp
    try with_reducible rfl
  try simp only [Act.put, List.setIfInBounds_toArray, List.set_cons_zero, List.set_cons_succ, List.getElem_toArray, List.getElem_cons_zero, List.getElem_cons_succ]
  refine wpAnyH_take (i := 2) (v := ?_) rfl (by kernel_rfl) (by kernel_rfl) (by kernel_rfl) (fun _ _ _ h => h) (Or.inl ⟨by rfl, ?_⟩) hHeld ?_
  rotate_left
  · intro u hSu
    obtain _ := hSu
    go_simp
    try with_reducible rfl
  try simp only [Act.put, List.setIfInBounds_toArray, List.set_cons_zero, List.set_cons_succ, List.getElem_toArray, List.getElem_cons_zero, List.getElem_cons_succ]
  refine wpAnyH_take (i := 3) (v := ?_) rfl (by kernel_rfl) (by kernel_rfl) (by kernel_rfl) (fun _ _ _ h => h) (Or.inl ⟨by rfl, ?_⟩) hHeld ?_
  rotate_left
  · intro u hSu
    obtain _ := hSu
    go_simp
    try with_reducible rfl
  try simp only [Act.put, List.setIfInBounds_toArray, List.set_cons_zero, List.set_cons_succ, List.getElem_toArray, List.getElem_cons_zero, List.getElem_cons_succ]
  refine wpAnyH_take (i := 5) (v := ?_) rfl (by kernel_rfl) (by kernel_rfl) (by kernel_rfl) (fun _ _ _ h => h) (Or.inl ⟨by rfl, ?_⟩) hHeld ?_
  rotate_left
  · intro u hSu
    obtain _ := hSu
    go_simp
    try with_reducible rfl
  try simp only [Act.put, List.setIfInBounds_toArray, List.set_cons_zero, List.set_cons_succ, List.getElem_toArray, List.getElem_cons_zero, List.getElem_cons_succ]
  refine wpAnyH_take (i := 6) (v := ?_) rfl (by kernel_rfl) (by kernel_rfl) (by kernel_rfl) (fun _ _ _ h => h) (Or.inl ⟨by rfl, ?_⟩) hHeld ?_
  rotate_left
  · intro u hSu
    obtain _ := hSu
    go_simp
    try with_reducible rfl
  try simp only [Act.put, List.setIfInBounds_toArray, List.set_cons_zero, List.set_cons_succ, List.getElem_toArray, List.getElem_cons_zero, List.getElem_cons_succ]
  refine wpAnyH_take (i := 7) (v := ?_) rfl (by kernel_rfl) (by kernel_rfl) (by kernel_rfl) (fun _ _ _ h => h) (Or.inl ⟨by rfl, ?_⟩) hHeld ?_
  rotate_left
  · intro u hSu
    obtain _ := hSu
    go_simp
    try with_reducible rfl
  try simp only [Act.put, List.setIfInBounds_toArray, List.set_cons_zero, List.set_cons_succ, List.getElem_toArray, List.getElem_cons_zero, List.getElem_cons_succ]
  obtain ⟨w6, hw6⟩ : ∃ w6, w2.drew = w6 := ⟨_, rfl⟩
  have HB6 : Hid (Below w2.heap.size w2 w6) := Lib.hid (by rw [← hw6]; exact (Below.refl _ _).drew)
  rw [hw6]
  clear hw6
  obtain ⟨wo, hwo⟩ : ∃ u, w6.alloc (.cells #[] 38) = u := ⟨_, rfl⟩
  have hbo : Below w6.heap.size w6 wo := by rw [← hwo]; exact (Below.refl _ _).alloc (Nat.le_refl _) _
  have HBo : Hid (Below w2.heap.size w2 wo) := Lib.hid (below_all HB6.out hbo)
  have HOo : Hid (OwnK wo w2.heap.size 38 3 (.slice (some ⟨w6.heap.size, 0, none⟩) 0 0) 0 []) := Lib.hid (by rw [← hwo]; exact OwnK.new w6 _ _ 3 0 [] HB6.out.size rfl (by omega))
  refine wpAnyH_ready (rs := [0]) (by kernel_rfl) (by simp) ?_
  refine (AllReadyH.cons rfl (fun K hK => ?_) AllReadyH.nil)
  go_simp
  try rw [hwo]
  refine hK.out _ _ ?_ (fun hHeld2 => ?_)
  · exact trivial
  clear hK K hHeld
  have hHeld := hHeld2
  clear hHeld2
  try simp only [Act.put, List.setIfInBounds_toArray, List.set_cons_zero, List.set_cons_succ, List.getElem_toArray, List.getElem_cons_zero, List.getElem_cons_succ]
  refine wpAnyH_ready (rs := [4]) (by kernel_rfl) (by simp) ?_
  refine (AllReadyH.cons rfl (fun K hK => ?_) AllReadyH.nil)
  (refine stepP wo (by rfl) (.tmp 42) (.tmp 45) 22 38 (.agg #[.int .i64 0, .int .i64 0, .int .u32 0]) 3 24 (by rfl) Try.underlying22 vzInfo rfl (by decide) (by decide) w2.heap.size 0 (n - tn) c4 _ [] (zsC (l.drop tn)) A4 (by rfl) HOo.out (by rfl) (HQP.out.2.1) (HQP.out.1 _ HBo.out) HQP.out.2.2 (zsC_one _) (by omega) HBo.out.size ?_; intro v8 w8 ho hg; rw [Nat.zero_add, List.nil_append] at ho; have HO8 := Lib.hid ho; have HB8 := Lib.hid (below_grown HBo.out hg (fun e he => HOo.out.own e he)); clear ho hg)
  refine hK.out _ _ ?_ (fun hHeld2 => ?_)
  · exact trivial
  clear hK K hHeld
  have hHeld := hHeld2
  clear hHeld2
  try simp only [Act.put, List.setIfInBounds_toArray, List.set_cons_zero, List.set_cons_succ, List.getElem_toArray, List.getElem_cons_zero, List.getElem_cons_succ]
  refine wpAnyH_ready (rs := [8]) (by kernel_rfl) (by simp) ?_
  refine (AllReadyH.cons rfl (fun K hK => ?_) AllReadyH.nil)
  (refine stepP w8 (by rfl) (.tmp 46) (.tmp 49) 22 38 (.agg #[.int .i64 0, .int .i64 0, .int .u32 0]) 3 24 (by rfl) Try.underlying22 vzInfo rfl (by decide) (by decide) w2.heap.size (n - tn) tn c3 v8 (zsC (l.drop tn)) (zsC (l.take tn)) A3 (by rfl) HO8.out (by rfl) (HPP.out.2.1) (HPP.out.1 _ HB8.out) HPP.out.2.2 (zsC_one _) (by omega) HB8.out.size ?_; intro v9 w9 ho hg; have HO9 := Lib.hid ho; have HB9 := Lib.hid (below_grown HB8.out hg (fun e he => HO8.out.own e he)); clear ho hg)
  refine hK.out _ _ ?_ (fun hHeld2 => ?_)
  · exact trivial
  clear hK K hHeld
  have hHeld := hHeld2
  clear hHeld2
  try simp only [Act.put, List.setIfInBounds_toArray, List.set_cons_zero, List.set_cons_succ, List.getElem_toArray, List.getElem_cons_zero, List.getElem_cons_succ]
  refine wpAnyH_take (i := 9) (v := ?_) rfl (by kernel_rfl) (by kernel_rfl) (by kernel_rfl) (fun _ _ _ h => h) (Or.inl ⟨by rfl, ?_⟩) hHeld ?_
  rotate_left
  · intro u hSu
    obtain _ := hSu
    go_simp
    try with_reducible rfl
  try simp only [Act.put, List.setIfInBounds_toArray, List.set_cons_zero, List.set_cons_succ, List.getElem_toArray, List.getElem_cons_zero, List.getElem_cons_succ]
  refine wpAnyH_done (by kernel_rfl) ?_ _
  clear h1 h2 h3 h4 hHeld HPP HQP HOo HBo HO8 HB8 HB6
  have ho := HO9.out
  rw [show n - tn + tn = n by omega, ← zsC_app] at ho
  obtain ⟨A9, c9, rfl, hnc9, _, hz9⟩ := ho.form
  have HM := Lib.hid ho.rd
  have HNC9 := Lib.hid hnc9
  have HZ9 := Lib.hid hz9
  have HPM := Lib.hid (turn_perm l tn)
  obtain ⟨m, hm⟩ : ∃ m, l.drop tn ++ l.take tn = m := ⟨_, rfl⟩
  rw [hm] at HM HPM
  have HNM : Hid (m.length = n) := Lib.hid (by rw [HPM.out.length_eq, HN.out])
  have HFM := Lib.hid (HF.out.perm HPM.out.symm)
  have HAM := Lib.hid (HA.out.perm HPM.out.symm)
  have HAGM : Hid (AgeOk m) := Lib.hid (fun z hz => HAG.out z (HPM.out.mem_iff.1 hz))
  have HSS := Lib.hid (VZ.sort_same (pol := pol) HF.out HA.out HPM.out)
  have HCS := Lib.hid (VZ.choose_same (pol := pol) (extra := extra) HF.out HA.out HPM.out)
  have HR9 := Lib.hid (HR2.out.up HB9.out)
  have HBE := Lib.hid (below_all HB2.out HB9.out)
  clear ho hnc9 hz9 hm HO9 HB9 HR2 HB2 HPM htn'
  have HIO := Lib.hid (VZ.sort_ord (pol := pol) HF.out HA.out)
  have HPO := Lib.hid (fun z => (VZ.sort_perm (pol := pol) (p := p) (l := l)).mem_iff (a := z))
  have HLO : Hid ((VZ.sortZ pol p l).length = n) := Lib.hid (by rw [VZ.sort_perm.length_eq, HN.out])
  have HCL := Lib.hid (VZ.choose_len (pol := pol) (p := p) (extra := extra) hn24 HN.out)
  go_wp2_with fail
  refine (O.order pol p l HN.out HR9.out HNC.out HZ.out hn24 hp1 hp2 HF.out HA.out HAG.out).mono ?_
  rintro r w10 ⟨v10, rfl, ho, hb⟩
  obtain ⟨os, hos⟩ : ∃ o, VZ.sortZ pol p l = o := ⟨_, rfl⟩
  rw [hos] at HSS HIO HPO HLO ho
  have HIL : Hid ((VZ.ids os).length = n) := Lib.hid (by unfold VZ.ids; rw [List.length_map, HLO.out])
  rw [HIL.out] at ho
  obtain ⟨A10, c10, rfl, _, _, _⟩ := ho.form
  have HB10 := Lib.hid (below_all HBE.out hb)
  have HR10 := Lib.hid (HR9.out.up hb)
  have HM10 := Lib.hid (HM.out.up hb)
  have HS10 := Lib.hid ho.rd
  clear hb ho hos HBE HR9 HM
  go_wp2_with fail
  refine (O.order pol p m HNM.out HM10.out HNC9.out HZ9.out hn24 hp1 hp2 HFM.out HAM.out HAGM.out).mono ?_
  rw [HSS.out]
  rintro r w11 ⟨v11, rfl, ho, hb⟩
  rw [HIL.out] at ho
  obtain ⟨A11, c11, rfl, _, _, _⟩ := ho.form
  have HB11 := Lib.hid (below_all HB10.out hb)
  have HR11 := Lib.hid (HR10.out.up hb)
  have HM11 := Lib.hid (HM10.out.up hb)
  have HS11 := Lib.hid (HS10.out.up hb)
  have HT11 := Lib.hid ho.rd
  clear hb ho HB10 HR10 HM10 HS10 HSS
  go_wp2_with fail
  refine (rsame_is HS11.out HT11.out HIL.out HIL.out (by omega)).mono ?_
  rw [show decide (VZ.ids os = VZ.ids os) = true by simp]
  rintro r w12 ⟨rfl, hb⟩
  have HB12 := Lib.hid (below_all HB11.out hb)
  have HR12 := Lib.hid (HR11.out.up hb)
  have HM12 := Lib.hid (HM11.out.up hb)
  have HS12 := Lib.hid (HS11.out.up hb)
  clear hb HB11 HR11 HM11 HS11 HT11
  go_wp2_with fail
  refine (O.choose pol p extra l HN.out HR12.out HNC.out HZ.out hn24 hp1 hp2 he0 he1 HF.out HA.out HAG.out).mono ?_
  rintro r w13 ⟨v13, rfl, ho, hb⟩
  obtain ⟨ch, hch⟩ : ∃ o, VZ.chooseL pol p extra l = o := ⟨_, rfl⟩
  rw [hch] at HCS HCL ho
  obtain ⟨K, hK⟩ : ∃ k, ch.length = k := ⟨_, rfl⟩
  have HK := Lib.hid hK
  rw [hK] at HCL ho
  obtain ⟨A13, c13, rfl, _, _, _⟩ := ho.form
  have HB13 := Lib.hid (below_all HB12.out hb)
  have HR13 := Lib.hid (HR12.out.up hb)
  have HM13 := Lib.hid (HM12.out.up hb)
  have HS13 := Lib.hid (HS12.out.up hb)
  have HT13 := Lib.hid ho.rd
  clear hb ho hch hK HB12 HR12 HM12 HS12
  go_wp2_with fail
  refine (O.choose pol p extra m HNM.out HM13.out HNC9.out HZ9.out hn24 hp1 hp2 he0 he1 HFM.out HAM.out HAGM.out).mono ?_
  rw [HCS.out]
  rintro r w14 ⟨v14, rfl, ho, hb⟩
  rw [HK.out] at ho
  obtain ⟨A14, c14, rfl, _, _, _⟩ := ho.form
  have HB14 := Lib.hid (below_all HB13.out hb)
  have HR14 := Lib.hid (HR13.out.up hb)
  have HS14 := Lib.hid (HS13.out.up hb)
  have HT14 := Lib.hid (HT13.out.up hb)
  have HU14 := Lib.hid ho.rd
  clear hb ho HB13 HR13 HM13 HS13 HT13 HCS
  go_wp2_with fail
  refine (rsame_is HT14.out HU14.out HK.out HK.out (by have := HCL.out; omega)).mono ?_
  rw [show decide (ch = ch) = true by simp]
  rintro r w15 ⟨rfl, hb⟩
  have HBW := Lib.hid (below_all HB14.out hb)
  have HR2 := Lib.hid (HR14.out.up hb)
  have HRC := Lib.hid (HS14.out.up hb)
  clear hb HB14 HR14 HS14 HT14 HU14 HCL HK HNM HFM HAM HAGM HNC9 HZ9
  have qn : ((n : Int) != (n : Int)) = false := by simp
  go_wp2_with fail
  clear qn
  obtain ⟨wB, rfl⟩ : ∃ wl : World, wl = w15 := ⟨_, rfl⟩
  go_loopg [13, 85] n (fun q x y wr => ∃ (t : Nat) (lv : Int), t ≤ n ∧ q = n - t ∧ x = .int .i64 lv ∧ y = .int .i64 (t : Int) ∧ LastOk pol os t lv ∧ Below wB.heap.size wB wr)
  case atStart => exact ⟨0, 0, by omega, by omega, rfl, rfl, fun _ h => (HF.out _ ((HPO.out _).1 (List.getElem_mem h))).2.1, Below.refl _ _⟩
  case round =>
    obtain ⟨t, lv, ht, hq, rfl, rfl, hlast, hb⟩ := hrel
    have HQ2 := Lib.hid hq
    have HB2 := Lib.hid hb
    have HLAST := Lib.hid hlast
    clear hq hb hlast
    by_cases htk : t < n
    · have htl : t < os.length := by rw [HLO.out]; exact htk
      obtain ⟨b2, o2, rfl, _, hcell2⟩ := (HRC.out.below HB2.out) (by rw [iCells_len]; unfold VZ.ids; rw [List.length_map, HLO.out]; omega)
      have ci := rdv_i (B := 0) hcell2 t (by unfold VZ.ids; rw [List.length_map]; exact htl)
      have hidt : (VZ.ids os)[t]'(by unfold VZ.ids; rw [List.length_map]; exact htl) = (os[t]'htl).id := by simp [VZ.ids]
      rw [hidt] at ci
      have HML := Lib.hid ((HPO.out (os[t]'htl)).1 (List.getElem_mem htl))
      have HLT := Lib.hid (fun (h0 : pol = 0) => HLAST.out h0 htl)
      have HLN := Lib.hid (LastOk.next HIO.out htl)
      obtain ⟨zt, hzt⟩ : ∃ z, os[t]'htl = z := ⟨_, rfl⟩
      rw [hzt] at ci HML HLT HLN
      obtain ⟨idt, hidt'⟩ : ∃ x, zt.id = x := ⟨_, rfl⟩
      obtain ⟨vt, hvt⟩ : ∃ x, zt.v = x := ⟨_, rfl⟩
      have HIDT := Lib.hid hidt'
      have HVT := Lib.hid hvt
      rw [hidt'] at ci
      rw [hvt] at HLT HLN
      clear hcell2 hidt hzt hidt' hvt htl HLAST
      go_wp2_with fail
      obtain ⟨wD, rfl⟩ : ∃ wl : World, wl = wr := ⟨_, rfl⟩
      go_loopg [13, 16, 91] n (fun q x mn y wr => ∃ k2 : Nat, k2 ≤ n ∧ q = n - k2 ∧ x = .int .i64 (if VZ.seen l k2 zt = true then vt else lv) ∧ mn = .int .i64 (if0 (VZ.seen l k2 zt) 1) ∧ y = .int .i64 (k2 : Int) ∧ Below wD.heap.size wD wr)
      case atStart => exact ⟨0, by omega, by omega, by simp [VZ.seen], by simp [VZ.seen, if0], rfl, Below.refl _ _⟩
      case round =>
        obtain ⟨k2, hk2, hq, rfl, rfl, rfl, hb⟩ := hrel
        have HQ3 := Lib.hid hq
        have HB3 := Lib.hid hb
        have HB3X := Lib.hid (below_all HB2.out hb)
        clear hq hb
        by_cases hk2n : k2 < n
        · have hll : k2 < l.length := by rw [HN.out]; exact hk2n
          have HSX := Lib.hid (VZ.seen_next hll zt)
          have HIE := Lib.hid (VZ.id_eq HA.out hll HML.out)
          have HSH := Lib.hid (fun (e : l[k2]'hll = zt) => show VZ.seen l k2 zt = false by have := VZ.seen_here HA.out hll; rwa [e] at this)
          obtain ⟨b, o, rfl, _, hcell⟩ := (HR2.out.below HB3X.out) (by rw [zsC_len, HN.out]; omega)
          obtain ⟨c0, c1, c2⟩ := z_cells hcell k2 hll
          obtain ⟨ix, hix⟩ : ∃ x, (l[k2]'hll).id = x := ⟨_, rfl⟩
          obtain ⟨vx, hvx⟩ : ∃ x, (l[k2]'hll).v = x := ⟨_, rfl⟩
          obtain ⟨ax, hax⟩ : ∃ x, (l[k2]'hll).age = x := ⟨_, rfl⟩
          rw [hix] at c0
          rw [hvx] at c1
          rw [hax] at c2
          rw [hix, HIDT.out] at HIE
          obtain ⟨sb, hsb⟩ : ∃ x, VZ.seen l k2 zt = x := ⟨_, rfl⟩
          rw [hsb] at HSX HSH ⊢
          obtain ⟨w6, hw6⟩ : ∃ w6, wr.alloc (.cells #[.int .i64 ix, .int .i64 vx, .int .u32 (ax : Int)] 38) = w6 := ⟨_, rfl⟩
          have hb6 : Below wr.heap.size wr w6 := by rw [← hw6]; exact (Below.refl _ _).alloc (Nat.le_refl _) _
          have hx6 : Blk w6 wr.heap.size 38 [.int .i64 ix, .int .i64 vx, .int .u32 (ax : Int)] := by rw [← hw6]; exact heap_alloc_new wr _
          have y0 := hx6.cell 0 (by simp)
          have y1 := hx6.cell 1 (by simp)
          obtain ⟨xa, hxa⟩ : ∃ a, wr.heap.size = a := ⟨_, rfl⟩
          rw [hxa] at y0 y1
          have HB6 := Lib.hid (below_all HB3.out hb6)
          by_cases he : l[k2]'hll = zt
          · have HS2 : Hid (VZ.seen l (k2 + 1) zt = true) := Lib.hid (by rw [HSX.out, decide_eq_true he, Bool.or_true])
            have hsf := HSH.out he
            have q1 : (ix == idt) = true := by have := HIE.out; rw [decide_eq_true he] at this; simpa using this
            have hvv : vx = vt := by rw [← hvx, he, HVT.out]
            subst hvv
            clear he HSX HSH HIE hcell hix hvx hax hll hb6 hx6 hsb
            subst hsf
            rw [show (if false = true then vx else lv) = lv from rfl, show if0 false 1 = 0 from rfl]
            by_cases h0 : pol = 0
            · have q0 : (pol == 0) = true := by simpa using h0
              have hle := HLT.out h0
              have d1 : decide (vx < lv) = false := by simp; omega
              clear h0 hle
              go_wp2_with fail
              go_roundg (n - (k2 + 1))
              case rel => exact ⟨k2 + 1, by omega, rfl, by rw [HS2.out]; rfl, by rw [HS2.out]; rfl, by go_num, HB6.out⟩
              case measure => have := HQ3.out; omega
            · have q0 : (pol == 0) = false := by simpa using h0
              clear h0
              go_wp2_with fail
              go_roundg (n - (k2 + 1))
              case rel => exact ⟨k2 + 1, by omega, rfl, by rw [HS2.out]; rfl, by rw [HS2.out]; rfl, by go_num, HB6.out⟩
              case measure => have := HQ3.out; omega
          · have HS2 : Hid (VZ.seen l (k2 + 1) zt = sb) := Lib.hid (by rw [HSX.out, decide_eq_false he, Bool.or_false])
            have q1 : (ix == idt) = false := by have := HIE.out; rw [decide_eq_false he] at this; simpa using this
            clear he HSX HSH HIE hcell hix hvx hax hll hb6 hx6 hsb
            obtain ⟨iv, hiv⟩ : ∃ x, if0 sb 1 = x := ⟨_, rfl⟩
            obtain ⟨jv, hjv⟩ : ∃ x, (if sb = true then vt else lv) = x := ⟨_, rfl⟩
            rw [hiv, hjv]
            have HIV := Lib.hid hiv
            have HJV := Lib.hid hjv
            clear hiv hjv
            go_wp2_with fail
            go_roundg (n - (k2 + 1))
            case rel => exact ⟨k2 + 1, by omega, rfl, by rw [HS2.out, HJV.out], by rw [HS2.out, HIV.out], by go_num, HB6.out⟩
            case measure => have := HQ3.out; omega
        · obtain rfl : n = k2 := by omega
          have hsa : VZ.seen l n zt = true := by have := VZ.seen_all HML.out; rwa [HN.out] at this
          rw [hsa]
          rw [show (if true = true then vt else lv) = vt from rfl, show if0 true 1 = 1 from rfl]
          have HBN := Lib.hid (below_all HB2.out HB3.out)
          clear hsa hk2n
          go_wp2_with fail
          go_roundg (n - (t + 1))
          case rel => exact ⟨t + 1, vt, by omega, rfl, rfl, by go_num, HLN.out, HBN.out⟩
          case measure => have := HQ2.out; omega
    · go_wp2_with fail
      go_ret
      exact ⟨rfl, below_all HBW.out HB2.out⟩
end Go.Proofs.Ytndapbfaaglcgaa
