/-
  platelayerlaw12.VictimGains answers true.
-/
import Derived.Test.YtndapbfaaglcgaaVcE
namespace Go.Proofs.Ytndapbfaaglcgaa
open Go.RowKit

namespace VZ
/-- What is chosen, as zones. -/
theorem choose_zones {pol p extra : Int} {l : List VZ} (hp : 1 ≤ p) (hf : Fit p l) (ha : Apart l) (he : extra ≤ p) : ∃ zs : List VZ, chooseL pol p extra l = ids zs ∧ (∀ z ∈ zs, z ∈ l) ∧ zs.length ≤ l.length ∧ ((zs = [] ∧ (l.length < 4 ∨ (l.length : Int) * p < 2 * sumV l)) ∨ (0 < zs.length ∧ need p (extra + sumV zs) < (zs.length : Int) ∧ need p (extra + sumV zs) ≤ 3)) := by
  by_cases hc : chooseL pol p extra l = []
  · refine ⟨[], hc, fun z hz => (by cases hz), by simp, .inl ⟨rfl, ?_⟩⟩
    by_cases h4 : l.length < 4
    · exact .inl h4
    · refine .inr ?_
      apply Classical.byContradiction
      intro hn
      have h1 := choose_none hc 3 (by omega)
      rw [half_gain hp hf ha he (by omega) (by omega)] at h1
      cases h1
  · obtain ⟨q, i, hi, e, hg⟩ := choose_some hc
    have hlen := (sort_perm (pol := q) (p := p) (l := l)).length_eq
    have hk : ((sortZ q p l).take (i + 1)).length = i + 1 := by rw [List.length_take]; omega
    unfold gain at hg
    simp only [decide_eq_true_eq] at hg
    refine ⟨(sortZ q p l).take (i + 1), e, fun z hz => sort_perm.mem_iff.1 (List.mem_of_mem_take hz), by omega, .inr ⟨by omega, ?_, hg.2⟩⟩
    rw [hk]
    exact hg.1
/-- Is a zone among the first k? -/
def seen (l : List VZ) (k : Nat) (z : VZ) : Bool := decide (z ∈ l.take k)
theorem seen_next {l : List VZ} {k : Nat} (hk : k < l.length) (z : VZ) : seen l (k + 1) z = (seen l k z || decide (l[k] = z)) := by
  unfold seen
  rw [List.take_succ_eq_append_getElem hk, Bool.eq_iff_iff]
  simp only [List.mem_append, List.mem_singleton, Bool.or_eq_true, decide_eq_true_eq]
  exact ⟨fun h => h.imp (fun x => x) Eq.symm, fun h => h.imp (fun x => x) Eq.symm⟩
theorem seen_here {l : List VZ} (ha : Apart l) {k : Nat} (hk : k < l.length) : seen l k l[k] = false := by
  unfold seen
  simp only [decide_eq_false_iff_not]
  intro h
  obtain ⟨j, hj, e⟩ := List.getElem_of_mem h
  rw [List.getElem_take] at e
  have hjk : j < k := by simp at hj; omega
  exact List.pairwise_iff_getElem.1 ha j k (by omega) hk hjk (by rw [e])
theorem seen_all {l : List VZ} {z : VZ} (h : z ∈ l) : seen l l.length z = true := by
  unfold seen
  rw [List.take_length]
  simpa using h
theorem id_eq {l : List VZ} (ha : Apart l) {k : Nat} (hk : k < l.length) {z : VZ} (hz : z ∈ l) : decide (l[k].id = z.id) = decide (l[k] = z) := by
  rw [Bool.eq_iff_iff]
  simp only [decide_eq_true_eq]
  exact ⟨fun e => ha.eq (List.getElem_mem hk) hz e, fun e => by rw [e]⟩
end VZ
def if0 (b : Bool) (v : Int) : Int := if b = true then v else 0
set_option maxHeartbeats 8000000 in
set_option maxRecDepth 100000 in
theorem vcgains_true (O : VOps) {w : World} (pol p extra : Int) (A : Option Addr) (n c : Nat) (l : List VZ) (hl : l.length = n) (hr : RdV w w.heap.size A (zsC l)) (hnc : n ≤ c) (hz : A = none → c = 0) (hg : AgeOk l) : Calls Try.prog 4 #[.int .i64 pol, .int .i64 p, .int .i64 extra, .slice A n c] w (BoolB true w) := by
  have HN := Lib.hid hl
  have HZ := Lib.hid hz
  have HNC := Lib.hid hnc
  have HAG := Lib.hid hg
  have HR := Lib.hid hr
  clear hl hr hz hg hnc
  go_enter Try.func4, Try.ntmps4
  go_wp2_with fail
  refine (vcawake_true O w).mono ?_
  rintro r w1 ⟨rfl, hb⟩
  have HB1 := Lib.hid hb
  have HR1 := Lib.hid (HR.out.up hb)
  clear hb HR
  go_wp2_with fail
  refine (vcoutside_at p l HN.out HR1.out).mono ?_
  rintro r w2 ⟨rfl, hb⟩
  have HB2 := Lib.hid (below_all HB1.out hb)
  have HR2 := Lib.hid (HR1.out.up hb)
  clear hb HB1 HR1
  have HRO := Lib.hid (fun h => outB_no (p := p) (l := l) h)
  obtain ⟨ob, hob⟩ : ∃ x, outB p l = x := ⟨_, rfl⟩
  rw [hob] at HRO ⊢
  clear hob
  cases ob with
  | true =>
    go_wp2_with fail
    go_ret
    exact ⟨rfl, HB2.out⟩
  | false =>
  obtain ⟨hp1, hp2, hfit, hap, hn24⟩ := HRO.out rfl
  rw [HN.out] at hn24
  have HF := Lib.hid hfit
  have HA := Lib.hid hap
  clear hfit hap HRO
  by_cases h4 : extra < 0
  · have d4 : decide (extra < 0) = true := by simpa using h4
    clear h4
    go_wp2_with fail
    go_ret
    exact ⟨rfl, HB2.out⟩
  have d4 : decide (extra < 0) = false := by simpa using h4
  by_cases h5 : p < extra
  · have d5 : decide (p < extra) = true := by simpa using h5
    clear h4 h5
    go_wp2_with fail
    go_ret
    exact ⟨rfl, HB2.out⟩
  have d5 : decide (p < extra) = false := by simpa using h5
  have he0 : 0 ≤ extra := by omega
  have he1 : extra ≤ p := by omega
  clear h4 h5
  go_wp2_with fail
  clear d4 d5
  refine (O.choose pol p extra l HN.out HR2.out HNC.out HZ.out hn24 hp1 hp2 he0 (by omega) HF.out HA.out HAG.out).mono ?_
  obtain ⟨zs, hzs, hmem, hzl, hfin⟩ := VZ.choose_zones (pol := pol) hp1 HF.out HA.out he1
  rw [hzs]
  rintro r w3 ⟨v3, rfl, ho, hb⟩
  obtain ⟨K, hK⟩ : ∃ k, zs.length = k := ⟨_, rfl⟩
  rw [show (VZ.ids zs).length = K by unfold VZ.ids; rw [List.length_map, hK]] at ho
  obtain ⟨A3, c3, rfl, _, _, _⟩ := ho.form
  have HRC := Lib.hid ho.rd
  have HBW := Lib.hid (below_all HB2.out hb)
  have HR3 := Lib.hid (HR2.out.up hb)
  have HK := Lib.hid hK
  have HMEM := Lib.hid hmem
  rw [HN.out, hK] at hzl
  rw [HN.out, hK] at hfin
  have HFIN := Lib.hid hfin
  have hs384 : ∀ k, 0 ≤ VZ.sumV (l.take k) ∧ VZ.sumV (l.take k) ≤ 384 := fun k => by
    have h1 : VZ.Fit p (l.take k) := fun z hz => HF.out z (List.mem_of_mem_take hz)
    have h2 := VZ.sumV_le h1
    have h3 : (((l.take k).length : Nat) : Int) ≤ 24 := by rw [List.length_take, HN.out]; omega
    have h4 : (((l.take k).length : Nat) : Int) * p ≤ 24 * p := Int.mul_le_mul_of_nonneg_right h3 (by omega)
    exact ⟨VZ.sumV_nonneg h1, by omega⟩
  have HS384 := Lib.hid hs384
  have hz384 : ∀ k, 0 ≤ VZ.sumV (zs.take k) ∧ VZ.sumV (zs.take k) ≤ 384 := fun k => by
    have h1 : VZ.Fit p (zs.take k) := fun z hz => HF.out z (HMEM.out z (List.mem_of_mem_take hz))
    have h2 := VZ.sumV_le h1
    have h3 : (((zs.take k).length : Nat) : Int) ≤ 24 := by rw [List.length_take, hK]; omega
    have h4 : (((zs.take k).length : Nat) : Int) * p ≤ 24 * p := Int.mul_le_mul_of_nonneg_right h3 (by omega)
    exact ⟨VZ.sumV_nonneg h1, by omega⟩
  have HZ384 := Lib.hid hz384
  clear ho hb hzs hK hmem hfin hs384 hz384 HB2 HR2
  have HR2 := HR3
  clear HR3
  go_wp2_with fail
  obtain ⟨wB, rfl⟩ : ∃ wl : World, wl = w3 := ⟨_, rfl⟩
  go_loopg [10, 42] n (fun q x y wr => ∃ k : Nat, k ≤ n ∧ q = n - k ∧ x = .int .i64 (VZ.sumV (l.take k)) ∧ y = .int .i64 (k : Int) ∧ Below wB.heap.size wB wr)
  case atStart => exact ⟨0, by omega, by omega, rfl, rfl, Below.refl _ _⟩
  case round =>
    obtain ⟨k, hk, hq, rfl, rfl, hb⟩ := hrel
    have HQ := Lib.hid hq
    have HB := Lib.hid hb
    clear hq hb
    by_cases hlt : k < n
    · have hll : k < l.length := by rw [HN.out]; exact hlt
      have HSN := Lib.hid (VZ.sumV_next l hll)
      obtain ⟨b, o, rfl, _, hcell⟩ := (HR2.out.below HB.out) (by rw [zsC_len, HN.out]; omega)
      obtain ⟨c0, c1, c2⟩ := z_cells hcell k hll
      obtain ⟨ix, hix⟩ : ∃ x, (l[k]'hll).id = x := ⟨_, rfl⟩
      obtain ⟨vx, hvx⟩ : ∃ x, (l[k]'hll).v = x := ⟨_, rfl⟩
      obtain ⟨ax, hax⟩ : ∃ x, (l[k]'hll).age = x := ⟨_, rfl⟩
      rw [hix] at c0
      rw [hvx] at c1
      rw [hax] at c2
      have hv := HF.out (l[k]'hll) (List.getElem_mem hll)
      have hs := HS384.out k
      rw [hvx] at HSN hv
      obtain ⟨hvz, hv0, hv1⟩ := hv
      clear hvz
      obtain ⟨s, hss⟩ : ∃ s, VZ.sumV (l.take k) = s := ⟨_, rfl⟩
      rw [hss] at HSN hs ⊢
      obtain ⟨hs0, hs1⟩ := hs
      obtain ⟨w6, hw6⟩ : ∃ w6, wr.alloc (.cells #[.int .i64 ix, .int .i64 vx, .int .u32 (ax : Int)] 38) = w6 := ⟨_, rfl⟩
      have hb6 : Below wr.heap.size wr w6 := by rw [← hw6]; exact (Below.refl _ _).alloc (Nat.le_refl _) _
      have hx6 : Blk w6 wr.heap.size 38 [.int .i64 ix, .int .i64 vx, .int .u32 (ax : Int)] := by rw [← hw6]; exact heap_alloc_new wr _
      have y0 := hx6.cell 0 (by simp)
      have y1 := hx6.cell 1 (by simp)
      obtain ⟨xa, hxa⟩ : ∃ a, wr.heap.size = a := ⟨_, rfl⟩
      rw [hxa] at y0 y1
      have HB6 := Lib.hid (below_all HB.out hb6)
      clear hcell hix hvx hax hss hll hb6 hx6
      go_wp2_with fail
      go_roundg (n - (k + 1))
      case rel => exact ⟨k + 1, by omega, rfl, by rw [HSN.out], by go_num, HB6.out⟩
      case measure => have := HQ.out; omega
    · obtain rfl : n = k := by omega
      have hto : l.take n = l := List.take_of_length_le (by rw [HN.out]; exact Nat.le_refl _)
      have hsl := HS384.out n
      rw [hto] at hsl ⊢
      have HRCX := Lib.hid (HRC.out.up HB.out)
      obtain ⟨all, hall⟩ : ∃ a, VZ.sumV l = a := ⟨_, rfl⟩
      rw [hall] at HFIN hsl ⊢
      obtain ⟨ha0, ha1⟩ := hsl
      clear hto hall hlt
      go_wp2_with fail
      obtain ⟨wC, rfl⟩ : ∃ wl : World, wl = wr := ⟨_, rfl⟩
      go_loopg [11, 53] K (fun q x y wr => ∃ t : Nat, t ≤ K ∧ q = K - t ∧ x = .int .i64 (extra + VZ.sumV (zs.take t)) ∧ y = .int .i64 (t : Int) ∧ Below wC.heap.size wC wr)
      case atStart => exact ⟨0, by omega, by omega, by simp [VZ.sumV], rfl, Below.refl _ _⟩
      case round =>
        obtain ⟨t, ht, hq, rfl, rfl, hb⟩ := hrel
        have HQ2 := Lib.hid hq
        have HB2 := Lib.hid hb
        clear hq hb
        by_cases htk : t < K
        · have htl : t < zs.length := by rw [HK.out]; exact htk
          obtain ⟨b2, o2, rfl, _, hcell2⟩ := (HRCX.out.below HB2.out) (by rw [iCells_len]; unfold VZ.ids; rw [List.length_map, HK.out]; omega)
          have ci := rdv_i (B := 0) hcell2 t (by unfold VZ.ids; rw [List.length_map]; exact htl)
          have hidt : (VZ.ids zs)[t]'(by unfold VZ.ids; rw [List.length_map]; exact htl) = (zs[t]'htl).id := by simp [VZ.ids]
          rw [hidt] at ci
          have HSZ := Lib.hid (VZ.sumV_next zs htl)
          have HML := Lib.hid (HMEM.out (zs[t]'htl) (List.getElem_mem htl))
          have hzv := HF.out (zs[t]'htl) HML.out
          have hsz := HZ384.out t
          obtain ⟨zt, hzt⟩ : ∃ z, zs[t]'htl = z := ⟨_, rfl⟩
          rw [hzt] at ci HSZ HML hzv
          obtain ⟨s, hss⟩ : ∃ s, VZ.sumV (zs.take t) = s := ⟨_, rfl⟩
          rw [hss] at HSZ hsz ⊢
          obtain ⟨hs0, hs1⟩ := hsz
          obtain ⟨idt, hidt'⟩ : ∃ x, zt.id = x := ⟨_, rfl⟩
          obtain ⟨vt, hvt⟩ : ∃ x, zt.v = x := ⟨_, rfl⟩
          have HIDT := Lib.hid hidt'
          have HVT := Lib.hid hvt
          rw [hidt'] at ci
          rw [hvt] at HSZ hzv
          obtain ⟨hvz, hv0, hv1⟩ := hzv
          clear hvz
          clear hcell2 hidt hzt hss hidt' hvt htl
          go_wp2_with fail
          obtain ⟨wD, rfl⟩ : ∃ wl : World, wl = wr := ⟨_, rfl⟩
          go_loopg [11, 16, 59] n (fun q x sm y wr => ∃ k2 : Nat, k2 ≤ n ∧ q = n - k2 ∧ x = .int .i64 (extra + s + if0 (VZ.seen l k2 zt) vt) ∧ sm = .bool (VZ.seen l k2 zt) ∧ y = .int .i64 (k2 : Int) ∧ Below wD.heap.size wD wr)
          case atStart => exact ⟨0, by omega, by omega, by simp [VZ.seen, if0], by simp [VZ.seen], rfl, Below.refl _ _⟩
          case round =>
            obtain ⟨k2, hk2, hq, rfl, rfl, rfl, hb⟩ := hrel
            have HQ3 := Lib.hid hq
            have HB3 := Lib.hid hb
            have HB3X := Lib.hid (below_all (below_all HB.out HB2.out) hb)
            clear hq hb
            by_cases hk2n : k2 < n
            · have hll : k2 < l.length := by rw [HN.out]; exact hk2n
              have HSX := Lib.hid (VZ.seen_next hll zt)
              have HIE := Lib.hid (VZ.id_eq HA.out hll HML.out)
              have HSH := Lib.hid (fun (e : l[k2]'hll = zt) => show VZ.seen l k2 zt = false by have := VZ.seen_here HA.out hll; rwa [e] at this)
              obtain ⟨b, o, rfl, _, hcell⟩ := (HR2.out.below HB3X.out) (by rw [zsC_len, HN.out]; omega)
              obtain ⟨c0, c1, c2⟩ := z_cells hcell k2 hll
              obtain ⟨ix, hix⟩ : ∃ x, (l[k2]'hll).id = x := ⟨_, rfl⟩
              obtain ⟨vx, hvx⟩ : ∃ x, (l[k2]'hll).v = x := ⟨_, rfl⟩
              obtain ⟨ax, hax⟩ : ∃ x, (l[k2]'hll).age = x := ⟨_, rfl⟩
              rw [hix] at c0
              rw [hvx] at c1
              rw [hax] at c2
              rw [hix, HIDT.out] at HIE
              obtain ⟨sb, hsb⟩ : ∃ x, VZ.seen l k2 zt = x := ⟨_, rfl⟩
              rw [hsb] at HSX HSH ⊢
              obtain ⟨w6, hw6⟩ : ∃ w6, wr.alloc (.cells #[.int .i64 ix, .int .i64 vx, .int .u32 (ax : Int)] 38) = w6 := ⟨_, rfl⟩
              have hb6 : Below wr.heap.size wr w6 := by rw [← hw6]; exact (Below.refl _ _).alloc (Nat.le_refl _) _
              have hx6 : Blk w6 wr.heap.size 38 [.int .i64 ix, .int .i64 vx, .int .u32 (ax : Int)] := by rw [← hw6]; exact heap_alloc_new wr _
              have y0 := hx6.cell 0 (by simp)
              have y1 := hx6.cell 1 (by simp)
              obtain ⟨xa, hxa⟩ : ∃ a, wr.heap.size = a := ⟨_, rfl⟩
              rw [hxa] at y0 y1
              have HB6 := Lib.hid (below_all HB3.out hb6)
              by_cases he : l[k2]'hll = zt
              · have HS2 : Hid (VZ.seen l (k2 + 1) zt = true) := Lib.hid (by rw [HSX.out, decide_eq_true he, Bool.or_true])
                have hsf := HSH.out he
                have q1 : (ix == idt) = true := by have := HIE.out; rw [decide_eq_true he] at this; simpa using this
                have hvv : vx = vt := by rw [← hvx, he, HVT.out]
                subst hvv
                clear he HSX HSH HIE hcell hix hvx hax hll hb6 hx6 hsb
                subst hsf
                have e0 : extra + s + if0 false vx = extra + s := by simp [if0]
                have e1 : extra + s + vx = extra + s + if0 true vx := by simp [if0]
                rw [e0]
                have HE1 := Lib.hid e1
                clear e0 e1
                go_wp2_with fail
                go_roundg (n - (k2 + 1))
                case rel => exact ⟨k2 + 1, by omega, rfl, by rw [HS2.out, ← HE1.out], by rw [HS2.out], by go_num, HB6.out⟩
                case measure => have := HQ3.out; omega
              · have HS2 : Hid (VZ.seen l (k2 + 1) zt = sb) := Lib.hid (by rw [HSX.out, decide_eq_false he, Bool.or_false])
                have q1 : (ix == idt) = false := by have := HIE.out; rw [decide_eq_false he] at this; simpa using this
                clear he HSX HSH HIE hcell hix hvx hax hll hb6 hx6 hsb
                obtain ⟨iv, hiv⟩ : ∃ x, if0 sb vt = x := ⟨_, rfl⟩
                rw [hiv]
                have HIV := Lib.hid hiv
                clear hiv
                go_wp2_with fail
                go_roundg (n - (k2 + 1))
                case rel => exact ⟨k2 + 1, by omega, rfl, by rw [HS2.out, HIV.out], by rw [HS2.out], by go_num, HB6.out⟩
                case measure => have := HQ3.out; omega
            · obtain rfl : n = k2 := by omega
              have hsa : VZ.seen l n zt = true := by have := VZ.seen_all HML.out; rwa [HN.out] at this
              rw [hsa]
              have e1 : extra + s + if0 true vt = extra + (s + vt) := by simp [if0]; omega
              rw [e1, ← HSZ.out]
              have HBN := Lib.hid (below_all HB2.out HB3.out)
              clear hsa e1 hk2n
              go_wp2_with fail
              go_roundg (K - (t + 1))
              case rel => exact ⟨t + 1, by omega, rfl, rfl, by go_num, HBN.out⟩
              case measure => have := HQ2.out; omega
        · obtain rfl : K = t := by omega
          have htz : zs.take K = zs := List.take_of_length_le (by rw [HK.out]; exact Nat.le_refl _)
          have hsz := HZ384.out K
          rw [htz] at hsz ⊢
          obtain ⟨sz, hsz'⟩ : ∃ a, VZ.sumV zs = a := ⟨_, rfl⟩
          rw [hsz'] at HFIN hsz ⊢
          obtain ⟨hs0, hs1⟩ := hsz
          have HBE := Lib.hid (below_all HBW.out (below_all HB.out HB2.out))
          have hquo : (extra + sz + p - 1).tdiv p = VZ.need p (extra + sz) := by
            unfold VZ.need
            rw [Int.tdiv_eq_ediv_of_nonneg (by omega)]
          have hnb := VZ.need_bd hp1 (show 0 ≤ extra + sz by omega)
          have hwr : IntKind.i64.wrap (VZ.need p (extra + sz)) = VZ.need p (extra + sz) := IntWalk.i64_in _ (by omega)
          have hp0 : (p == 0) = false := by simp; omega
          obtain ⟨nd, hnd⟩ : ∃ x, VZ.need p (extra + sz) = x := ⟨_, rfl⟩
          rw [hnd] at hquo hnb hwr HFIN
          have hdv : (extra + sz + p - 1) / p = nd := by rw [← hnd]; rfl
          obtain ⟨nb0, nb1, _⟩ := hnb
          clear htz hsz' htk hnd
          rcases HFIN.out with ⟨hz0, hz1⟩ | ⟨hz0, hz1, hz2⟩
          · have ht0 : K = 0 := by have := HK.out; rw [hz0] at this; exact this.symm
            subst ht0
            by_cases hn4 : n < 4
            · clear hz0 hz1 HFIN
              go_wp2_with fail
              go_ret
              exact ⟨rfl, HBE.out⟩
            · have hbig : (n : Int) * p < 2 * all := hz1.resolve_left hn4
              have hnp : 0 ≤ (n : Int) * p ∧ (n : Int) * p ≤ 768 := ⟨Int.mul_nonneg (by omega) (by omega), by omega⟩
              obtain ⟨np, hnp'⟩ : ∃ x, (n : Int) * p = x := ⟨_, rfl⟩
              rw [hnp'] at hbig hnp
              have hw9 : IntKind.i64.wrap ((n : Int) * p) = np := by rw [hnp']; exact IntWalk.i64_in _ (by omega)
              clear hz0 hz1 HFIN hnp'
              go_wp2_with fail
              go_ret
              exact ⟨rfl, HBE.out⟩
          · clear HFIN
            go_wp2_with fail
            go_ret
            exact ⟨rfl, HBE.out⟩
end Go.Proofs.Ytndapbfaaglcgaa
