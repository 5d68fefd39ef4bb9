/-
  platelayerlaw12.VictimTells answers true.
-/
import Derived.Test.YtndapbfaaglcgaaVcE
namespace Go.Proofs.Ytndapbfaaglcgaa
open Go.RowKit

set_option maxHeartbeats 4000000 in
set_option maxRecDepth 100000 in
theorem vctells_true (O : VOps) {w : World} (pol p extra : Int) (A : Option Addr) (n c : Nat) (l : List VZ) (hl : l.length = n) (hr : RdV w w.heap.size A (zsC l)) (hnc : n ≤ c) (hz : A = none → c = 0) (hg : AgeOk l) : Calls Try.prog 3 #[.int .i64 pol, .int .i64 p, .int .i64 extra, .slice A n c] w (BoolB true w) := by
  have HN := Lib.hid hl
  have HZ := Lib.hid hz
  have HNC := Lib.hid hnc
  have HAG := Lib.hid hg
  have HR := Lib.hid hr
  clear hl hr hz hg hnc
  go_enter Try.func3, Try.ntmps3
  go_wp2_with fail
  refine (vcawake_true O w).mono ?_
  rintro r w1 ⟨rfl, hb⟩
  have HB1 := Lib.hid hb
  have HR1 := Lib.hid (HR.out.up hb)
  clear hb HR
  by_cases h1 : p < 1
  · have d1 : decide (p < 1) = true := by simpa using h1
    clear h1
    go_wp2_with fail
    go_ret
    exact ⟨rfl, HB1.out⟩
  have d1 : decide (p < 1) = false := by simpa using h1
  by_cases h2 : 16 < p
  · have d2 : decide (16 < p) = true := by simpa using h2
    clear h1 h2
    go_wp2_with fail
    go_ret
    exact ⟨rfl, HB1.out⟩
  have d2 : decide (16 < p) = false := by simpa using h2
  by_cases h3 : 60 < n
  · clear h1 h2
    go_wp2_with fail
    go_ret
    exact ⟨rfl, HB1.out⟩
  have d3 : decide ((60 : Int) < (n : Int)) = false := by simp; omega
  have HO : Hid (outB p l = !VZ.rightL p l) := Lib.hid (by unfold outB; rw [HN.out, decide_eq_true (by omega), Bool.true_and])
  have HRO := Lib.hid (fun h => outB_no (p := p) (l := l) h)
  have hp1 : 1 ≤ p := by omega
  have hp2 : p ≤ 16 := by omega
  have hn60 : n ≤ 60 := by omega
  clear h1 h2 h3
  go_wp2_with fail
  clear d1 d2 d3
  refine (O.right p l HN.out HR1.out HNC.out HZ.out hn60 hp1 hp2).mono ?_
  rintro r w2 ⟨rfl, hb⟩
  have HB2 := Lib.hid (below_all HB1.out hb)
  have HR2 := Lib.hid (HR1.out.up hb)
  clear hb HB1 HR1
  go_wp2_with fail
  refine (vczones_at l HN.out HR2.out (by omega)).mono ?_
  rintro r w3 ⟨v3, rfl, ho, hb⟩
  rw [HN.out] at ho
  obtain ⟨A3, c3, rfl, _, _, _⟩ := ho.form
  have HB3 := Lib.hid (below_all HB2.out hb)
  have HR3 := Lib.hid (HR2.out.up hb)
  have HS3 := Lib.hid ho.rd
  clear hb ho HB2 HR2
  go_wp2_with fail
  refine (ryright_at p l HN.out HS3.out (by omega)).mono ?_
  rintro r w4 ⟨rfl, hb⟩
  have HB4 := Lib.hid (below_all HB3.out hb)
  have HR4 := Lib.hid (HR3.out.up hb)
  clear hb HB3 HR3 HS3
  obtain ⟨rl, hrl⟩ : ∃ x, VZ.rightL p l = x := ⟨_, rfl⟩
  rw [hrl] at HO ⊢
  clear hrl
  have qr : (rl != rl) = false := by simp
  go_wp2_with fail
  refine (vcoutside_at p l HN.out HR4.out).mono ?_
  rw [HO.out]
  rintro r w5 ⟨rfl, hb⟩
  have HB5 := Lib.hid (below_all HB4.out hb)
  have HR5 := Lib.hid (HR4.out.up hb)
  clear hb HB4 HR4
  cases rl with
  | false =>
    go_wp2_with fail
    go_ret
    exact ⟨rfl, HB5.out⟩
  | true =>
    obtain ⟨_, _, hfit, hap, hn24⟩ := HRO.out (by rw [HO.out]; rfl)
    rw [HN.out] at hn24
    have HF := Lib.hid hfit
    have HA := Lib.hid hap
    clear hfit hap HO HRO
    by_cases h4 : extra < 0
    · have d4 : decide (extra < 0) = true := by simpa using h4
      clear h4
      go_wp2_with fail
      go_ret
      exact ⟨rfl, HB5.out⟩
    have d4 : decide (extra < 0) = false := by simpa using h4
    by_cases h5 : 16 < extra
    · have d5 : decide (16 < extra) = true := by simpa using h5
      clear h4 h5
      go_wp2_with fail
      go_ret
      exact ⟨rfl, HB5.out⟩
    have d5 : decide (16 < extra) = false := by simpa using h5
    have he0 : 0 ≤ extra := by omega
    have he1 : extra ≤ 16 := by omega
    have HM := Lib.hid (mid_of HF.out HAG.out)
    clear h4 h5 qr
    go_wp2_with fail
    clear d4 d5
    refine (O.order pol p l HN.out HR5.out HNC.out HZ.out hn24 hp1 hp2 HF.out HA.out HAG.out).mono ?_
    rintro r w6 ⟨v6, rfl, ho, hb⟩
    have HLS : Hid ((VZ.ids (VZ.sortZ pol p l)).length = n) := Lib.hid (by unfold VZ.ids; rw [List.length_map, VZ.sort_perm.length_eq, HN.out])
    rw [HLS.out] at ho
    obtain ⟨A6, c6, rfl, _, _, _⟩ := ho.form
    have HB6 := Lib.hid (below_all HB5.out hb)
    have HR6 := Lib.hid (HR5.out.up hb)
    have HS6 := Lib.hid ho.rd
    clear hb ho HB5 HR5
    go_wp2_with fail
    refine (vczones_at l HN.out HR6.out (by omega)).mono ?_
    rintro r w7 ⟨v7, rfl, ho, hb⟩
    rw [HN.out] at ho
    obtain ⟨A7, c7, rfl, _, _, _⟩ := ho.form
    have HB7 := Lib.hid (below_all HB6.out hb)
    have HR7 := Lib.hid (HR6.out.up hb)
    have HS7 := Lib.hid (HS6.out.up hb)
    have HZ7 := Lib.hid ho.rd
    clear hb ho HB6 HR6 HS6
    go_wp2_with fail
    refine (rysorted_at pol p l HN.out HZ7.out (by omega) hp1 hp2 HM.out).mono ?_
    rintro r w8 ⟨v8, rfl, ho, hb⟩
    rw [show (VZ.sortZ pol p l).length = n by rw [VZ.sort_perm.length_eq, HN.out]] at ho
    obtain ⟨A8, c8, rfl, _, _, _⟩ := ho.form
    have HB8 := Lib.hid (below_all HB7.out hb)
    have HR8 := Lib.hid (HR7.out.up hb)
    have HS8 := Lib.hid (HS7.out.up hb)
    have HZ8 := Lib.hid ho.rd
    clear hb ho HB7 HR7 HS7 HZ7
    go_wp2_with fail
    refine (ryids_at (VZ.sortZ pol p l) (by rw [VZ.sort_perm.length_eq, HN.out]) HZ8.out (by omega)).mono ?_
    rintro r w9 ⟨v9, rfl, ho, hb⟩
    rw [HLS.out] at ho
    obtain ⟨A9, c9, rfl, _, _, _⟩ := ho.form
    have HB9 := Lib.hid (below_all HB8.out hb)
    have HR9 := Lib.hid (HR8.out.up hb)
    have HS9 := Lib.hid (HS8.out.up hb)
    have HZ9 := Lib.hid ho.rd
    clear hb ho HB8 HR8 HS8 HZ8
    go_wp2_with fail
    refine (rsame_is HS9.out HZ9.out HLS.out HLS.out (by omega)).mono ?_
    rw [show decide (VZ.ids (VZ.sortZ pol p l) = VZ.ids (VZ.sortZ pol p l)) = true by simp]
    rintro r w10 ⟨rfl, hb⟩
    have HB10 := Lib.hid (below_all HB9.out hb)
    have HR10 := Lib.hid (HR9.out.up hb)
    clear hb HB9 HR9 HS9 HZ9 HLS
    go_wp2_with fail
    refine (O.choose pol p extra l HN.out HR10.out HNC.out HZ.out hn24 hp1 hp2 he0 he1 HF.out HA.out HAG.out).mono ?_
    rintro r w11 ⟨v11, rfl, ho, hb⟩
    obtain ⟨k, hk⟩ : ∃ k, (VZ.chooseL pol p extra l).length = k := ⟨_, rfl⟩
    have HK := Lib.hid hk
    have hk24 : k ≤ 24 := by rw [← hk]; exact VZ.choose_len hn24 HN.out
    rw [hk] at ho
    obtain ⟨A11, c11, rfl, _, _, _⟩ := ho.form
    have HB11 := Lib.hid (below_all HB10.out hb)
    have HR11 := Lib.hid (HR10.out.up hb)
    have HS11 := Lib.hid ho.rd
    clear hb ho HB10 HR10 hk
    go_wp2_with fail
    refine (vczones_at l HN.out HR11.out (by omega)).mono ?_
    rintro r w12 ⟨v12, rfl, ho, hb⟩
    rw [HN.out] at ho
    obtain ⟨A12, c12, rfl, _, _, _⟩ := ho.form
    have HB12 := Lib.hid (below_all HB11.out hb)
    have HS12 := Lib.hid (HS11.out.up hb)
    have HZ12 := Lib.hid ho.rd
    clear hb ho HB11 HR11 HS11
    go_wp2_with fail
    refine (rychoose_at pol p extra l HN.out HZ12.out hn24 hp1 hp2 he0 he1 HM.out).mono ?_
    rintro r w13 ⟨v13, rfl, ho, hb⟩
    rw [HK.out] at ho
    obtain ⟨A13, c13, rfl, _, _, _⟩ := ho.form
    have HB13 := Lib.hid (below_all HB12.out hb)
    have HS13 := Lib.hid (HS12.out.up hb)
    have HZ13 := Lib.hid ho.rd
    clear hb ho HB12 HS12 HZ12
    go_wp2_with fail
    refine (rsame_is HS13.out HZ13.out HK.out HK.out (by omega)).mono ?_
    rw [show decide (VZ.chooseL pol p extra l = VZ.chooseL pol p extra l) = true by simp]
    rintro r w14 ⟨rfl, hb⟩
    have HB14 := Lib.hid (below_all HB13.out hb)
    clear hb
    go_wp2_with fail
    go_ret
    exact ⟨rfl, HB14.out⟩
end Go.Proofs.Ytndapbfaaglcgaa
