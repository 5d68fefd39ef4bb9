/-
  The document's Choose.
-/
import Derived.Test.YtndapbfaaglcgaaVcC
namespace Go.Proofs.Ytndapbfaaglcgaa
open Go.RowKit

namespace VZ
theorem need_iff {p n m : Int} (hp : 0 < p) : m * p < n ↔ m < need p n := by
  unfold need
  constructor
  · intro h
    have : (m + 1) * p ≤ n + p - 1 := by rw [Int.add_mul]; omega
    have := (Int.le_ediv_iff_mul_le hp).2 this
    omega
  · intro h
    have : (m + 1) * p ≤ n + p - 1 := (Int.le_ediv_iff_mul_le hp).1 (by omega)
    rw [Int.add_mul] at this
    omega
theorem need_bd {p n : Int} (hp : 1 ≤ p) (h0 : 0 ≤ n) : 0 ≤ need p n ∧ need p n ≤ n ∧ need p n * p ≤ n + p - 1 := by
  unfold need
  refine ⟨Int.ediv_nonneg (by omega) (by omega), ?_, ?_⟩
  · have : n + p - 1 < (n + 1) * p := by
      have h1 : (n + 1) * 1 ≤ (n + 1) * p := Int.mul_le_mul_of_nonneg_left hp (by omega)
      rw [Int.add_mul] at *
      have h2 : n * 1 ≤ n * p := Int.mul_le_mul_of_nonneg_left hp h0
      omega
    have := Int.ediv_lt_of_lt_mul (by omega) this
    omega
  · exact Int.ediv_mul_le _ (by omega)
theorem sumV_next (o : List VZ) {j : Nat} (h : j < o.length) : sumV (o.take (j + 1)) = sumV (o.take j) + o[j].v := by
  rw [List.take_succ_eq_append_getElem h, sumV_app]
  simp [sumV]
theorem pick_at {p extra : Int} {o : List VZ} {j : Nat} (h : j < o.length) (hn : ∀ i < j, gain p extra o (i + 1) = false) (hg : gain p extra o (j + 1) = true) : pickK p extra o = some j := by
  unfold pickK
  rw [List.find?_range_eq_some]
  exact ⟨hg, List.mem_range.2 h, fun i hi => by simpa using hn i hi⟩
theorem pick_no {p extra : Int} {o : List VZ} (hn : ∀ i < o.length, gain p extra o (i + 1) = false) : pickK p extra o = none := by
  unfold pickK
  rw [List.find?_eq_none]
  intro i hi
  simpa using hn i (List.mem_range.1 hi)
theorem mid_sum {p : Int} {l : List VZ} (hm : Mid p l) : 0 ≤ sumV l ∧ sumV l ≤ l.length * p := by
  induction l with
  | nil => simp [sumV]
  | cons x l ih =>
    have h1 := hm x (by simp)
    have h2 := ih (fun z hz => hm z (by simp [hz]))
    simp only [sumV, List.length_cons]
    rw [Int.natCast_add, Int.add_mul]
    omega
end VZ
/-- What is found if nothing gains. -/
def ElseIs (pol p extra : Int) (l : List VZ) : List Int := if pol = 0 then [] else VZ.pickL p extra (VZ.sortZ 0 p l)
set_option maxHeartbeats 4000000 in
set_option maxRecDepth 100000 in
theorem rychoose_of {w : World} {A : Option Addr} {n c : Nat} (pol p extra : Int) (l : List VZ) (hl : l.length = n) (hr : RdV w w.heap.size A (zsC l)) (hn : n ≤ 24) (hp1 : 1 ≤ p) (hp : p ≤ 16) (he0 : 0 ≤ extra) (he1 : extra ≤ 16) (hm : Mid p l)
    (hrec : pol ≠ 0 → ∀ u, Below w.heap.size w u → Calls Try.prog 17 #[.int .i64 0, .int .i64 p, .int .i64 extra, .slice A n c] u (IdsIs (VZ.pickL p extra (VZ.sortZ 0 p l)) u)) :
    Calls Try.prog 17 #[.int .i64 pol, .int .i64 p, .int .i64 extra, .slice A n c] w (IdsIs (VZ.chooseL pol p extra l) w) := by
  have HSO := Lib.hid (rysorted_at (A := A) (n := n) (c := c) pol p l hl hr (by omega) hp1 hp hm)
  have HREC := Lib.hid hrec
  have HLEN : Hid ((VZ.sortZ pol p l).length = n) := Lib.hid (by rw [VZ.sort_perm.length_eq, hl])
  have HMO : Hid (Mid p (VZ.sortZ pol p l)) := Lib.hid (fun z hz => hm z (VZ.sort_perm.mem_iff.1 hz))
  have HCH : Hid (∀ i, VZ.pickK p extra (VZ.sortZ pol p l) = some i → VZ.chooseL pol p extra l = VZ.ids ((VZ.sortZ pol p l).take (i + 1))) := Lib.hid (fun i hi => by unfold VZ.chooseL; rw [hi])
  have HCN : Hid (VZ.pickK p extra (VZ.sortZ pol p l) = none → VZ.chooseL pol p extra l = if pol = 0 then [] else VZ.pickL p extra (VZ.sortZ 0 p l)) := Lib.hid (fun hi => by unfold VZ.chooseL; rw [hi])
  have HP1 := Lib.hid hp1
  obtain ⟨os, hos⟩ : ∃ o, VZ.sortZ pol p l = o := ⟨_, rfl⟩
  rw [hos] at HSO HLEN HMO HCH HCN
  obtain ⟨rest, hrest⟩ : ∃ r, VZ.pickL p extra (VZ.sortZ 0 p l) = r := ⟨_, rfl⟩
  rw [hrest] at HCN HREC
  obtain ⟨ch, hch⟩ : ∃ r, VZ.chooseL pol p extra l = r := ⟨_, rfl⟩
  rw [hch] at HCN HCH ⊢
  clear hl hr hm hrec hos hrest hch
  go_enter Try.func17, Try.ntmps17
  go_wp2_with fail
  refine HSO.out.mono ?_
  rintro r w1 ⟨v1, rfl, ho, hb⟩
  rw [HLEN.out] at ho
  obtain ⟨A1, c1, rfl, hnc, _, hz1⟩ := ho.form
  have HR1 := Lib.hid ho.rd
  have HB1 := Lib.hid hb
  have HNC := Lib.hid hnc
  have HZ1 := Lib.hid hz1
  clear ho hb hnc hz1 HSO
  go_wp2_with fail
  go_loopg [10, 11] n (fun q x y wr => ∃ j : Nat, j ≤ n ∧ q = n - j ∧ x = .int .i64 (extra + VZ.sumV (os.take j)) ∧ y = .int .i64 ((j : Int) + 1) ∧ (∀ i < j, VZ.gain p extra os (i + 1) = false) ∧ Below w1.heap.size w1 wr)
  case atStart => exact ⟨0, by omega, by omega, by simp [VZ.sumV], rfl, fun i hi => by omega, Below.refl _ _⟩
  case round =>
    obtain ⟨j, hj, hq, rfl, rfl, hno, hb⟩ := hrel
    have HQ := Lib.hid hq
    have HNO := Lib.hid hno
    have HB := Lib.hid hb
    clear hq hno hb
    by_cases hjn : j < n
    · have hjl : j < os.length := by rw [HLEN.out]; exact hjn
      obtain ⟨b, o, rfl, hbl, hcell⟩ := (HR1.out.below HB.out) (by rw [zsC_len, HLEN.out]; omega)
      obtain ⟨_, y1, _⟩ := z_cells hcell j hjl
      have HSN := Lib.hid (VZ.sumV_next os hjl)
      have hv := HMO.out (os[j]'hjl) (List.getElem_mem hjl)
      have hsm := VZ.mid_sum (p := p) (l := os.take j) (fun z hz => HMO.out z (List.mem_of_mem_take hz))
      have hs400 : VZ.sumV (os.take j) ≤ 24 * 16 := Int.le_trans hsm.2 (by
        have h1 : ((os.take j).length : Int) ≤ 24 := by rw [List.length_take]; omega
        have h2 : ((os.take j).length : Int) * p ≤ 24 * p := Int.mul_le_mul_of_nonneg_right h1 (by omega)
        omega)
      have hs0 := hsm.1
      obtain ⟨vj, hvj⟩ : ∃ x, (os[j]'hjl).v = x := ⟨_, rfl⟩
      rw [hvj] at y1 HSN hv
      obtain ⟨hv0, hv1, _⟩ := hv
      have HG := Lib.hid (show VZ.gain p extra os (j + 1) = decide (VZ.need p (extra + VZ.sumV (os.take (j + 1))) < ((j + 1 : Nat) : Int) ∧ VZ.need p (extra + VZ.sumV (os.take (j + 1))) ≤ 3) from rfl)
      rw [HSN.out] at HG
      have HPA := Lib.hid (fun (hg : VZ.gain p extra os (j + 1) = true) => VZ.pick_at hjl HNO.out hg)
      have HSJ : Hid (extra + VZ.sumV (os.take (j + 1)) = extra + (VZ.sumV (os.take j) + vj)) := Lib.hid (by rw [HSN.out])
      obtain ⟨s, hs⟩ : ∃ s, VZ.sumV (os.take j) = s := ⟨_, rfl⟩
      rw [hs] at HG HSJ hs400 hs0 ⊢
      obtain ⟨j1, hj1⟩ : ∃ x : Int, (j : Int) + 1 - 1 = x := ⟨_, rfl⟩
      have hjj : (j : Int) + 1 - 1 = (j : Int) := by omega
      have w3 : IntKind.i64.wrap (extra + s + vj) = extra + (s + vj) := by rw [IntWalk.i64_in _ (by omega)]; omega
      have hnn0 : 0 ≤ extra + (s + vj) := by omega
      have hnn1 : extra + (s + vj) ≤ 416 := by omega
      obtain ⟨nn, hnn⟩ : ∃ x, extra + (s + vj) = x := ⟨_, rfl⟩
      have hnn' : extra + s + vj = nn := by omega
      rw [hnn] at w3 HG HSJ hnn0 hnn1
      have HNB := Lib.hid (VZ.need_bd HP1.out hnn0)
      have HNI := Lib.hid (fun m => VZ.need_iff (p := p) (n := nn) (m := m) (by have := HP1.out; omega))
      clear hcell hs hvj hsm hj1 hnn
      go_wp2_with fail
      obtain ⟨wl, rfl⟩ : ∃ wl : World, wl = wr := ⟨_, rfl⟩
      go_loopg [12] (VZ.need p nn).toNat (fun q y wr => ∃ m : Nat, (m : Int) ≤ VZ.need p nn ∧ q = (VZ.need p nn).toNat - m ∧ y = .int .i64 (m : Int) ∧ wr = wl)
      case atStart => exact ⟨0, HNB.out.1, by omega, rfl, rfl⟩
      case round =>
        obtain ⟨m, hmn, hq, rfl, rfl⟩ := hrel
        have HQ1 := Lib.hid hq
        have hm416 : m ≤ 416 := by have := HNB.out.2.1; omega
        have hmp : 0 ≤ (m : Int) * p ∧ (m : Int) * p ≤ 432 := by
          refine ⟨Int.mul_nonneg (by omega) (by have := HP1.out; omega), ?_⟩
          have h1 : (m : Int) * p ≤ VZ.need p nn * p := Int.mul_le_mul_of_nonneg_right hmn (by have := HP1.out; omega)
          have h2 := HNB.out.2.2
          omega
        have w4 : IntKind.i64.wrap ((m : Int) * p) = (m : Int) * p := IntWalk.i64_in _ (by omega)
        have HNM := Lib.hid (HNI.out (m : Int))
        obtain ⟨mp, hmp'⟩ : ∃ x, (m : Int) * p = x := ⟨_, rfl⟩
        rw [hmp'] at w4 HNM hmp
        have w5 : IntKind.i64.wrap ((m : Int) * p) = mp := by rw [hmp']; exact w4
        clear hq w4 hmp'
        by_cases hlt : mp < nn
        · have HM2 := Lib.hid (HNM.out.1 hlt)
          have d1 : decide (mp < nn) = true := by simpa using hlt
          clear hlt hmp
          go_wp2_with fail
          go_roundg ((VZ.need p nn).toNat - (m + 1))
          case rel => exact ⟨m + 1, by have := HM2.out; omega, rfl, by go_num, rfl⟩
          case measure => have := HQ1.out; have := HM2.out; omega
        · have hmm : (m : Int) = VZ.need p nn := by
            have := HNM.out.2
            apply Classical.byContradiction
            intro hne
            exact hlt (this (by omega))
          have d1 : decide (mp < nn) = false := by simpa using hlt
          rw [← hmm] at HG
          have HMM := Lib.hid hmm
          clear hlt hmm hmp
          by_cases hk : (m : Int) < (j : Int) + 1
          · by_cases h3 : (m : Int) ≤ 3
            · have HPK := Lib.hid (HPA.out (by rw [HG.out]; simp only [decide_eq_true_eq]; omega))
              have HCE := Lib.hid (HCH.out j HPK.out)
              have HRX := Lib.hid (HR1.out.up HB.out)
              obtain ⟨A3, c3, hcut1, hz1, hrd1⟩ := cut_head (w := wr) (Ts := 26) (k := 3) (n := n) (c := c1) (j := j + 1) he_ry hz_ry HRX.out HZ1.out HNC.out (by omega)
              rw [zsC_take] at hrd1
              obtain ⟨g1, g2⟩ := hcut1
              have HRD := Lib.hid (hrd1 wr (Below.refl _ _))
              rw [show (((j + 1 : Nat)) : Int) = (j : Int) + 1 by omega] at g1 g2
              clear hz1 hrd1
              go_wp2_with fail
              refine (ryids_at (os.take (j + 1)) (by rw [List.length_take, HLEN.out]; omega) HRD.out (by omega)).mono ?_
              rintro r w5 ⟨v5, rfl, ho, hb⟩
              have HE : Hid (IdsIs ch w (.returned v5) w5) := Lib.hid ⟨v5, rfl, by rw [HCE.out]; exact ho.le (below_all HB1.out HB.out).size, below_all (below_all HB1.out HB.out) hb⟩
              clear ho hb
              go_wp2_with fail
              go_ret
              exact HE.out
            · have HGN : Hid (VZ.gain p extra os (j + 1) = false) := Lib.hid (by rw [HG.out]; simp only [decide_eq_false_iff_not]; omega)
              have HNX : Hid (∀ i < j + 1, VZ.gain p extra os (i + 1) = false) := Lib.hid (fun i hi => by
                by_cases e : i = j
                · subst e
                  exact HGN.out
                · exact HNO.out i (by omega))
              go_wp2_with fail
              go_roundg (n - (j + 1))
              case rel => exact ⟨j + 1, by omega, rfl, by rw [HSJ.out], by go_num, HNX.out, HB.out⟩
              case measure => have := HQ.out; omega
          · have HGN : Hid (VZ.gain p extra os (j + 1) = false) := Lib.hid (by rw [HG.out]; simp only [decide_eq_false_iff_not]; omega)
            have HNX : Hid (∀ i < j + 1, VZ.gain p extra os (i + 1) = false) := Lib.hid (fun i hi => by
              by_cases e : i = j
              · subst e
                exact HGN.out
              · exact HNO.out i (by omega))
            go_wp2_with fail
            go_roundg (n - (j + 1))
            case rel => exact ⟨j + 1, by omega, rfl, by rw [HSJ.out], by go_num, HNX.out, HB.out⟩
            case measure => have := HQ.out; omega
    · obtain rfl : j = n := by omega
      have HPN := Lib.hid (HCN.out (VZ.pick_no (by rw [HLEN.out]; exact HNO.out)))
      by_cases h0 : pol = 0
      · have HC0 : Hid (ch = []) := Lib.hid (by rw [HPN.out, if_pos h0])
        have q0 : (pol != 0) = false := by simp [h0]
        clear h0 HREC
        go_wp2_with fail
        go_ret
        exact ⟨_, rfl, by rw [HC0.out]; exact OwnK.nil _ _ _ _, below_all HB1.out HB.out⟩
      · have HC0 : Hid (ch = rest) := Lib.hid (by rw [HPN.out, if_neg h0])
        have q0 : (pol != 0) = true := by simpa using h0
        have HRC := Lib.hid (HREC.out h0 wr (below_all HB1.out HB.out))
        clear h0 HREC
        go_wp2_with fail
        refine HRC.out.mono ?_
        rintro r w5 ⟨v5, rfl, ho, hb⟩
        have HE : Hid (IdsIs ch w (.returned v5) w5) := Lib.hid ⟨v5, rfl, by rw [HC0.out]; exact ho.le (below_all HB1.out HB.out).size, below_all (below_all HB1.out HB.out) hb⟩
        clear ho hb
        go_wp2_with fail
        go_ret
        exact HE.out
theorem rychoose_at {w : World} {A : Option Addr} {n c : Nat} (pol p extra : Int) (l : List VZ) (hl : l.length = n) (hr : RdV w w.heap.size A (zsC l)) (hn : n ≤ 24) (hp1 : 1 ≤ p) (hp : p ≤ 16) (he0 : 0 ≤ extra) (he1 : extra ≤ 16) (hm : Mid p l) :
    Calls Try.prog 17 #[.int .i64 pol, .int .i64 p, .int .i64 extra, .slice A n c] w (IdsIs (VZ.chooseL pol p extra l) w) := by
  refine rychoose_of pol p extra l hl hr hn hp1 hp he0 he1 hm (fun _ u hu => ?_)
  have h := rychoose_of (w := u) (A := A) (c := c) 0 p extra l hl (hr.up hu) hn hp1 hp he0 he1 hm (fun h => absurd rfl h)
  have e : VZ.chooseL 0 p extra l = VZ.pickL p extra (VZ.sortZ 0 p l) := by
    unfold VZ.chooseL VZ.pickL
    rfl
  rw [e] at h
  exact h
end Go.Proofs.Ytndapbfaaglcgaa
