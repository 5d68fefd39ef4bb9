/-
  The first zones of a row that gain.
-/
import Derived.Test.YtndapbfaaglcgaaVyE
import Derived.Test.YtndapbfaaglcgaaVcD
namespace Go.Proofs.Ytndapbfaaglcgaa
open Go.RowKit

theorem he_vy : Try.prog.underlying 22 = some (.slice (Try.prog.elem 22)) := by kernel_rfl
theorem hz_vy : ∀ W : World, (sizeOf (Try.prog.elem 22)).run Try.prog W = .ok 3 W := by
  intro W
  have h : Try.prog.elem 22 = 38 := by kernel_rfl
  rw [h]
  simp [Try.sizeOf38]
/-- The first zones that gain. -/
def fewL (p extra : Int) (os : List VZ) : List VZ := match VZ.pickK p extra os with
  | some i => os.take (i + 1)
  | none => []
def FewIs (l : List VZ) (w : World) (r : Ending) (w' : World) : Prop := ∃ A m c, r = .returned (.slice A m c) ∧ l.length = m ∧ RdV w' w'.heap.size A (zsC l) ∧ Below w.heap.size w w'
theorem gain_min {p nn : Int} {j : Nat} (hp : 0 < p) : decide (nn ≤ p * min (j : Int) 3) = decide (VZ.need p nn < ((j + 1 : Nat) : Int) ∧ VZ.need p nn ≤ 3) := by
  rw [Bool.eq_iff_iff]
  simp only [decide_eq_true_eq]
  have h := VZ.need_iff (n := nn) (m := min (j : Int) 3) hp
  rw [Int.mul_comm]
  omega
set_option maxHeartbeats 4000000 in
set_option maxRecDepth 100000 in
theorem vyfew_at {w : World} {A : Option Addr} {n c : Nat} (p extra : Int) (os : List VZ) (hl : os.length = n) (hr : RdV w w.heap.size A (zsC os)) (hnc : n ≤ c) (hz : A = none → c = 0) (hn : n ≤ 24) (hp1 : 1 ≤ p) (hp : p ≤ 16) (he0 : 0 ≤ extra) (he1 : extra ≤ 16) (hm : Mid p os) :
    Calls Try.prog 22 #[.int .i64 p, .int .i64 extra, .slice A n c] w (FewIs (fewL p extra os) w) := by
  have HLEN := Lib.hid hl
  have HMO := Lib.hid hm
  have HCH : Hid (∀ i, VZ.pickK p extra os = some i → fewL p extra os = os.take (i + 1)) := Lib.hid (fun i hi => by unfold fewL; rw [hi])
  have HCN : Hid (VZ.pickK p extra os = none → fewL p extra os = []) := Lib.hid (fun hi => by unfold fewL; rw [hi])
  have HP1 := Lib.hid hp1
  obtain ⟨ch, hch⟩ : ∃ r, fewL p extra os = r := ⟨_, rfl⟩
  rw [hch] at HCN HCH ⊢
  have HR1 := Lib.hid hr
  have HNC := Lib.hid hnc
  have HZ1 := Lib.hid hz
  clear hl hr hnc hz hm hch
  go_enter Try.func22, Try.ntmps22
  go_wp2_with fail
  go_loopg [7, 13] n (fun q x y wr => ∃ j : Nat, j ≤ n ∧ q = n - j ∧ x = .int .i64 (extra + VZ.sumV (os.take j)) ∧ y = .int .i64 (j : Int) ∧ (∀ i < j, VZ.gain p extra os (i + 1) = false) ∧ Below w.heap.size w wr)
  case atStart => exact ⟨0, by omega, by omega, by simp [VZ.sumV], rfl, fun i hi => by omega, Below.refl _ _⟩
  case round =>
    obtain ⟨j, hj, hq, rfl, rfl, hno, hb⟩ := hrel
    have HQ := Lib.hid hq
    have HNO := Lib.hid hno
    have HB := Lib.hid hb
    clear hq hno hb
    by_cases hjn : j < n
    · have hjl : j < os.length := by rw [HLEN.out]; exact hjn
      obtain ⟨b, o, rfl, hbl, hcell⟩ := (HR1.out.below HB.out) (by rw [zsC_len, HLEN.out]; omega)
      obtain ⟨y0, y1, y2⟩ := z_cells hcell j hjl
      have HSN := Lib.hid (VZ.sumV_next os hjl)
      have hv := HMO.out (os[j]'hjl) (List.getElem_mem hjl)
      have hsm := VZ.mid_sum (p := p) (l := os.take j) (fun z hz => HMO.out z (List.mem_of_mem_take hz))
      have hs400 : VZ.sumV (os.take j) ≤ 24 * 16 := Int.le_trans hsm.2 (by
        have h1 : ((os.take j).length : Int) ≤ 24 := by rw [List.length_take]; omega
        have h2 : ((os.take j).length : Int) * p ≤ 24 * p := Int.mul_le_mul_of_nonneg_right h1 (by omega)
        omega)
      have hs0 := hsm.1
      obtain ⟨xj, hxj⟩ : ∃ x, (os[j]'hjl).id = x := ⟨_, rfl⟩
      obtain ⟨vj, hvj⟩ : ∃ x, (os[j]'hjl).v = x := ⟨_, rfl⟩
      obtain ⟨dj, hdj⟩ : ∃ x, (os[j]'hjl).age = x := ⟨_, rfl⟩
      rw [hxj] at y0
      rw [hvj] at y1 HSN hv
      rw [hdj] at y2
      obtain ⟨hv0, hv1, _⟩ := hv
      obtain ⟨w6, hw6⟩ : ∃ w6, wr.alloc (.cells #[.int .i64 xj, .int .i64 vj, .int .u32 (dj : Int)] 38) = w6 := ⟨_, rfl⟩
      have hb6 : Below wr.heap.size wr w6 := by rw [← hw6]; exact (Below.refl _ _).alloc (Nat.le_refl _) _
      have hx6 : Blk w6 wr.heap.size 38 [.int .i64 xj, .int .i64 vj, .int .u32 (dj : Int)] := by rw [← hw6]; exact heap_alloc_new wr _
      have q1 := hx6.cell 1 (by simp)
      have HB6 := Lib.hid (HB.out.trans (hb6.mono HB.out.size))
      obtain ⟨a, ha⟩ : ∃ a, wr.heap.size = a := ⟨_, rfl⟩
      rw [ha] at q1
      have HG := Lib.hid (show VZ.gain p extra os (j + 1) = decide (VZ.need p (extra + VZ.sumV (os.take (j + 1))) < ((j + 1 : Nat) : Int) ∧ VZ.need p (extra + VZ.sumV (os.take (j + 1))) ≤ 3) from rfl)
      rw [HSN.out, ← gain_min (by omega)] at HG
      have HPA := Lib.hid (fun (hg : VZ.gain p extra os (j + 1) = true) => VZ.pick_at hjl HNO.out hg)
      have HSJ : Hid (extra + VZ.sumV (os.take (j + 1)) = extra + (VZ.sumV (os.take j) + vj)) := Lib.hid (by rw [HSN.out])
      obtain ⟨s, hs⟩ : ∃ s, VZ.sumV (os.take j) = s := ⟨_, rfl⟩
      rw [hs] at HG HSJ hs400 hs0 ⊢
      have w3 : IntKind.i64.wrap (extra + s + vj) = extra + (s + vj) := by rw [IntWalk.i64_in _ (by omega)]; omega
      obtain ⟨nn, hnn⟩ : ∃ x, extra + (s + vj) = x := ⟨_, rfl⟩
      rw [hnn] at w3 HG HSJ
      by_cases h3 : (3 : Int) < (j : Int)
      · rw [show min (j : Int) 3 = 3 by omega] at HG
        have hpm : 0 ≤ p * 3 ∧ p * 3 ≤ 16 * 3 := ⟨Int.mul_nonneg (by omega) (by omega), Int.le_trans (Int.mul_le_mul_of_nonneg_left (by omega : (3 : Int) ≤ 3) (by omega)) (Int.mul_le_mul_of_nonneg_right hp (by omega))⟩
        have w4 : IntKind.i64.wrap (p * 3) = p * 3 := IntWalk.i64_in _ (by omega)
        clear hcell hs hxj hvj hdj hsm hnn hb6 hx6 hpm
        by_cases hk : nn ≤ p * 3
        · have dk : decide (nn ≤ p * 3) = true := by simpa using hk
          have HPK := Lib.hid (HPA.out (by rw [HG.out]; exact dk))
          have HCE := Lib.hid (HCH.out j HPK.out)
          have HRX := Lib.hid (HR1.out.up HB6.out)
          obtain ⟨A3, c3, hcut1, hz1, hrd1⟩ := cut_head (w := w6) (Ts := 22) (k := 3) (n := n) (c := c) (j := j + 1) he_vy hz_vy HRX.out HZ1.out HNC.out (by omega)
          rw [zsC_take] at hrd1
          obtain ⟨g1, g2⟩ := hcut1
          have HRD := Lib.hid (hrd1 w6 (Below.refl _ _))
          rw [show (((j + 1 : Nat)) : Int) = (j : Int) + 1 by omega] at g1 g2
          have HE : Hid (FewIs ch w (.returned (.slice A3 (j + 1) c3)) w6) := Lib.hid ⟨A3, j + 1, c3, rfl, by rw [HCE.out, List.length_take, HLEN.out]; omega, by rw [HCE.out]; exact HRD.out, HB6.out⟩
          clear hz1 hrd1 hk
          go_wp2_with fail
          go_ret
          exact HE.out
        · have dk : decide (nn ≤ p * 3) = false := by simpa using hk
          have HGN : Hid (VZ.gain p extra os (j + 1) = false) := Lib.hid (by rw [HG.out]; exact dk)
          have HNX : Hid (∀ i < j + 1, VZ.gain p extra os (i + 1) = false) := Lib.hid (fun i hi => by
            by_cases e : i = j
            · subst e
              exact HGN.out
            · exact HNO.out i (by omega))
          clear hk
          go_wp2_with fail
          go_roundg (n - (j + 1))
          case rel => exact ⟨j + 1, by omega, rfl, by rw [HSJ.out], by go_num, HNX.out, HB6.out⟩
          case measure => have := HQ.out; omega
      · rw [show min (j : Int) 3 = (j : Int) by omega] at HG
        have hpm : 0 ≤ p * (j : Int) ∧ p * (j : Int) ≤ 16 * 3 := ⟨Int.mul_nonneg (by omega) (by omega), Int.le_trans (Int.mul_le_mul_of_nonneg_left (by omega : (j : Int) ≤ 3) (by omega)) (Int.mul_le_mul_of_nonneg_right hp (by omega))⟩
        have w4 : IntKind.i64.wrap (p * (j : Int)) = p * (j : Int) := IntWalk.i64_in _ (by omega)
        clear hcell hs hxj hvj hdj hsm hnn hb6 hx6 hpm
        by_cases hk : nn ≤ p * (j : Int)
        · have dk : decide (nn ≤ p * (j : Int)) = true := by simpa using hk
          have HPK := Lib.hid (HPA.out (by rw [HG.out]; exact dk))
          have HCE := Lib.hid (HCH.out j HPK.out)
          have HRX := Lib.hid (HR1.out.up HB6.out)
          obtain ⟨A3, c3, hcut1, hz1, hrd1⟩ := cut_head (w := w6) (Ts := 22) (k := 3) (n := n) (c := c) (j := j + 1) he_vy hz_vy HRX.out HZ1.out HNC.out (by omega)
          rw [zsC_take] at hrd1
          obtain ⟨g1, g2⟩ := hcut1
          have HRD := Lib.hid (hrd1 w6 (Below.refl _ _))
          rw [show (((j + 1 : Nat)) : Int) = (j : Int) + 1 by omega] at g1 g2
          have HE : Hid (FewIs ch w (.returned (.slice A3 (j + 1) c3)) w6) := Lib.hid ⟨A3, j + 1, c3, rfl, by rw [HCE.out, List.length_take, HLEN.out]; omega, by rw [HCE.out]; exact HRD.out, HB6.out⟩
          clear hz1 hrd1 hk
          go_wp2_with fail
          go_ret
          exact HE.out
        · have dk : decide (nn ≤ p * (j : Int)) = false := by simpa using hk
          have HGN : Hid (VZ.gain p extra os (j + 1) = false) := Lib.hid (by rw [HG.out]; exact dk)
          have HNX : Hid (∀ i < j + 1, VZ.gain p extra os (i + 1) = false) := Lib.hid (fun i hi => by
            by_cases e : i = j
            · subst e
              exact HGN.out
            · exact HNO.out i (by omega))
          clear hk
          go_wp2_with fail
          go_roundg (n - (j + 1))
          case rel => exact ⟨j + 1, by omega, rfl, by rw [HSJ.out], by go_num, HNX.out, HB6.out⟩
          case measure => have := HQ.out; omega
    · obtain rfl : j = n := by omega
      have HPN := Lib.hid (HCN.out (VZ.pick_no (by rw [HLEN.out]; exact HNO.out)))
      have HE : Hid (FewIs ch w (.returned (.slice none 0 0)) wr) := Lib.hid ⟨none, 0, 0, rfl, by rw [HPN.out]; rfl, by rw [HPN.out]; exact RdV.nil, HB.out⟩
      go_wp2_with fail
      go_ret
      exact HE.out
end Go.Proofs.Ytndapbfaaglcgaa
