/-
  platelayerlaw07.ZnsFuse answers true: the walk.
-/
import Derived.Test.YtljpkngbhdplbaaDoorZnsY
namespace Go.Proofs.YtljpkngbhdplbaaDoor
open Go.RowKit

set_option maxHeartbeats 4000000 in
set_option maxRecDepth 100000 in
theorem zfuse_true (Z : ZOps) {w : World} (hg : Gl w) (n p f : Int) (hfw : f ≤ 9223372036854775807) (A : Option Addr) (m c : Nat) (l : List ActS) (hl : l.length = m) (hA : ActsF (fun k => k < w.heap.size) w A l) (hok : ∀ x ∈ l, ActOk x) :
    Calls Tryd.prog 6 #[.int .i64 n, .int .i64 p, .int .i64 f, .slice A m c] w (BoolB true w) := by
  have HG := Lib.hid hg
  have HA := Lib.hid hA
  have HL := Lib.hid hl
  have HOK := Lib.hid hok
  clear hg hA hok
  go_enter Tryd.func6, Tryd.ntmps6
  go_wp2_with fail
  refine (zawake_true Z HG.out).mono ?_
  rintro r w1 ⟨rfl, hb⟩
  have HB1 := Lib.hid hb
  clear hb
  go_wp2_with fail
  refine (Z.new n p).mono ?_
  cases hnw : newD n p with
  | none =>
    rintro r w3 ⟨rfl, hb⟩
    have HB3 := Lib.hid (below_on HB1.out hb)
    clear hb
    generalize errV 1 = e1
    go_wp2_with fail
    go_ret
    exact ⟨rfl, HB3.out⟩
  | some S0 =>
    have HS0 : Hid ((S0.zones.length : Int) = n ∧ ∀ ff : Nat, FuseI (S0.fuse (ff : Int)) ff 0) := Lib.hid (by
      unfold newD at hnw
      split at hnw
      · have := Option.some.inj hnw
        subst this
        exact ⟨by simp [DevS.new]; omega, fun ff => fuse_start (by omega)⟩
      · cases hnw)
    rintro r w3 ⟨db, rfl, hd, hb⟩
    have HB3 := Lib.hid (below_on HB1.out hb)
    have HT3 : Hid (One Z w w3 db S0 (fun k => w1.heap.size ≤ k ∧ k < w3.heap.size)) := Lib.hid ⟨hd, fun k e => by have := HB1.out.size; omega, HB3.out⟩
    clear hb hd
    go_wp2_with fail
    refine (large_is hl (HA.out.up HB3.out)).mono ?_
    rintro r w4 ⟨rfl, hb⟩
    have HT4 := Lib.hid (HT3.out.up hb)
    clear hb HT3
    cases hlg : largeA l with
    | true =>
      go_wp2_with fail
      go_ret
      exact ⟨rfl, HT4.out.old⟩
    | false =>
      have HLG := Lib.hid (large_bd hlg)
      have hm100 : m ≤ 100 := by rw [← hl]; exact HLG.out.1
      clear hlg
      by_cases hf0 : f < 0
      · have qf : decide (f < 0) = true := by simpa using hf0
        go_wp2_with fail
        go_ret
        exact ⟨rfl, HT4.out.old⟩
      obtain ⟨ff, rfl⟩ := Int.eq_ofNat_of_zero_le (show 0 ≤ f by omega)
      have qf : decide ((ff : Int) < 0) = false := by simp
      obtain ⟨N, hN⟩ : ∃ N, S0.zones.length = N := ⟨_, rfl⟩
      obtain rfl : n = (N : Int) := by rw [← hN]; exact HS0.out.1.symm
      have HN : Hid ((S0.fuse (ff : Int)).zones.length = N) := Lib.hid hN
      have hN24 : N ≤ 24 := by rw [← hN]; exact (Z.wf HT4.out.d).z1
      have HFS := Lib.hid (HS0.out.2 ff)
      clear hN hnw hf0 HS0
      go_wp2_with fail
      refine (Z.fuse (ff : Int) HT4.out.d hfw).mono ?_
      rintro r w5 ⟨rfl, hd, hk⟩
      have HT5 := Lib.hid (HT4.out.done hd hk)
      clear hd hk HT4 qf
      generalize S0.fuse (ff : Int) = S1 at HT5 HN HFS
      go_wp2_with fail
      go_loopg [11, 43] m (fun q y x wr => ∃ (i dn : Nat) (S : DevS) (F : Nat → Prop), i ≤ m ∧ q = m - i ∧ x = .int .i64 i ∧ y = .int .i64 dn ∧ dn ≤ i ∧ FuseI S ff dn ∧ S.zones.length = N ∧ One Z w wr db S F)
      case atStart => exact ⟨0, 0, S1, _, by omega, by omega, rfl, rfl, by omega, HFS.out, HN.out, HT5.out⟩
      case round =>
        clear HT5 HFS HN
        obtain ⟨i, dn, S, F, hi, hq, rfl, rfl, hdi, hfi, hsz, ht⟩ := hrel
        obtain ⟨wo, hwo⟩ : ∃ wo, wo = wr := ⟨_, rfl⟩
        subst hwo
        have HQ := Lib.hid hq
        have HT := Lib.hid ht
        have HFI := Lib.hid hfi
        have HSZ := Lib.hid hsz
        clear hq ht hfi hsz
        by_cases hlt : i < m
        · have hll : i < l.length := by rw [HL.out]; exact hlt
          obtain ⟨b, o, rfl, hbl, _, hx⟩ := HA.out (by omega)
          obtain ⟨vb, vk, vt, hf, h0, h1, h2, h3, h4, h5⟩ := hx i hll
          have hxo := HOK.out l[i] (List.getElem_mem hll)
          have hxm := HLG.out.2 l[i] (List.getElem_mem hll)
          obtain ⟨x, hx⟩ : ∃ x, l[i] = x := ⟨_, rfl⟩
          rw [hx] at hf h0 h1 h2 hxo hxm
          obtain ⟨D1, d1, D2, d2, D3, d3, rfl, rfl, rfl⟩ := hf.form
          have k0 := (HT.out.old.cell (p := ⟨b, o + i * 6, none⟩) hbl).trans h0
          have k1 := (HT.out.old.cell (p := ⟨b, o + i * 6 + 1, none⟩) hbl).trans h1
          have k2 := (HT.out.old.cell (p := ⟨b, o + i * 6 + 2, none⟩) hbl).trans h2
          have k3 := (HT.out.old.cell (p := ⟨b, o + i * 6 + 3, none⟩) hbl).trans h3
          have k4 := (HT.out.old.cell (p := ⟨b, o + i * 6 + 4, none⟩) hbl).trans h4
          have k5 := (HT.out.old.cell (p := ⟨b, o + i * 6 + 5, none⟩) hbl).trans h5
          have HXO := Lib.hid hxo
          have HXM := Lib.hid hxm
          have HFX := Lib.hid hf
          have HBX : Hid (Below wo.heap.size wo (wo.alloc (.cells #[.int .i64 x.Do, .int .i64 x.zone, .int .i64 x.page, .slice D1 x.B.length d1, .slice D2 x.keep.length d2, .slice D3 x.tear.length d3] 39))) := Lib.hid (Below.alloc (Below.refl _ _) (Nat.le_refl _) _)
          have HT2 := Lib.hid (HT.out.up HBX.out)
          have HXB : Hid (Blk (wo.alloc (.cells #[.int .i64 x.Do, .int .i64 x.zone, .int .i64 x.page, .slice D1 x.B.length d1, .slice D2 x.keep.length d2, .slice D3 x.tear.length d3] 39)) wo.heap.size 39 (actCells x (.slice D1 x.B.length d1) (.slice D2 x.keep.length d2) (.slice D3 x.tear.length d3))) := Lib.hid (heap_alloc_new wo _)
          have HFW : Hid (∀ k, F k → k < wo.heap.size) := Lib.hid (fun k e => Z.lt HT.out.d k e)
          clear hf hx h0 h1 h2 h3 h4 h5 hxo hxm HT
          by_cases hx0 : x.Do < 0
          · have q0 : decide (x.Do < 0) = true := by simpa using hx0
            go_wp2_with fail
            go_roundg (m - (i + 1))
            case rel => exact ⟨i + 1, dn, S, F, by omega, rfl, by go_num, rfl, by omega, HFI.out, HSZ.out, HT2.out⟩
            case measure => have := HQ.out; omega
          have q0 : decide (x.Do < 0) = false := by simpa using hx0
          by_cases hx4 : 4 < x.Do
          · have q4 : decide (4 < x.Do) = true := by simpa using hx4
            go_wp2_with fail
            go_roundg (m - (i + 1))
            case rel => exact ⟨i + 1, dn, S, F, by omega, rfl, by go_num, rfl, by omega, HFI.out, HSZ.out, HT2.out⟩
            case measure => have := HQ.out; omega
          have q4 : decide (4 < x.Do) = false := by simpa using hx4
          have HFA := Lib.hid (fuse_act (x := x) HFI.out (by omega) (by omega))
          have HWF := Lib.hid (Z.wf HT2.out.d)
          clear hx0 hx4
          go_wp2_with fail
          refine (Z.down HT2.out.d).mono ?_
          rintro r w6 ⟨rfl, hb⟩
          have HT3 := Lib.hid (HT2.out.up hb)
          have HXC := Lib.hid (HXB.out.up hb (lt_of_block HXB.out))
          have hsz6 : wo.heap.size < w6.heap.size := Nat.lt_of_lt_of_le (lt_of_block HXB.out) hb.size
          clear hb HT2 HXB HBX k0 k1 k2 k3 k4 k5
          obtain ⟨g0, hg0⟩ : ∃ g, S.gone = g := ⟨_, rfl⟩
          have HG0 := Lib.hid hg0
          rw [hg0]
          clear hg0
          go_wp2_with fail
          go_loopg [15, 58] N (fun q y x' wr' => ∃ k : Nat, k ≤ N ∧ q = N - k ∧ x' = .int .i64 k ∧ y = .int .i64 (sumP S k : Nat) ∧ Below w6.heap.size w6 wr')
          case atStart => exact ⟨0, by omega, by omega, rfl, rfl, Below.refl _ _⟩
          case round =>
            obtain ⟨k, hk, hq2, rfl, rfl, hb⟩ := hrel
            have HQ2 := Lib.hid hq2
            have HB7 := Lib.hid hb
            clear hq2 hb
            by_cases hkl : k < N
            · go_wp2_with fail
              refine (Z.point k (HT3.out.up HB7.out).d).mono ?_
              rintro r w8 ⟨rfl, hb⟩
              have HB8 := Lib.hid (below_on HB7.out hb)
              have hs1 := sumP_le HWF.out k
              have hs2 := point_le HWF.out k
              have HSU : Hid (sumP S (k + 1) = sumP S k + S.point (k : Int)) := Lib.hid rfl
              obtain ⟨pk, hpk⟩ : ∃ p, S.point (k : Int) = p := ⟨_, rfl⟩
              obtain ⟨sk, hsk⟩ : ∃ p, sumP S k = p := ⟨_, rfl⟩
              rw [hpk, hsk] at HSU
              rw [hpk] at hs2
              rw [hsk] at hs1
              rw [hpk, hsk]
              clear hb hpk hsk
              go_wp2_with fail
              go_roundg (N - (k + 1))
              case rel => exact ⟨k + 1, by omega, rfl, by go_num, by rw [HSU.out]; go_num, HB8.out⟩
              case measure => have := HQ2.out; omega
            · obtain rfl : k = N := by omega
              have HT4 := Lib.hid (HT3.out.up HB7.out)
              have HXD := Lib.hid (HXC.out.up HB7.out hsz6)
              have a0 : wr.cell? ⟨wo.heap.size, 0, none⟩ = some (.int .i64 x.Do) := blk_cell HXD.out 0 _ rfl
              have a1 : wr.cell? ⟨wo.heap.size, 1, none⟩ = some (.int .i64 x.zone) := blk_cell HXD.out 1 _ rfl
              have a2 : wr.cell? ⟨wo.heap.size, 2, none⟩ = some (.int .i64 x.page) := blk_cell HXD.out 2 _ rfl
              have a3 : wr.cell? ⟨wo.heap.size, 3, none⟩ = some (.slice D1 x.B.length d1) := blk_cell HXD.out 3 _ rfl
              have a4 : wr.cell? ⟨wo.heap.size, 4, none⟩ = some (.slice D2 x.keep.length d2) := blk_cell HXD.out 4 _ rfl
              have a5 : wr.cell? ⟨wo.heap.size, 5, none⟩ = some (.slice D3 x.tear.length d3) := blk_cell HXD.out 5 _ rfl
              clear HT3 HXC
              go_wp2_with fail
              refine (do_at x _ _ _ Z HT4.out.d (HG.out.below HT4.out.old) (fun e => by have := HT4.out.f _ e; have := lt_of_cell HG.out; simp only at this; omega) (by have := HFI.out.done; omega) (HT4.out.act HFX.out) HXO.out HXM.out).mono ?_
              rintro r w9 ⟨v, rfl, hd, hk, hv⟩
              obtain ⟨V, vc, rfl, _⟩ := hv
              obtain ⟨vl, hvl⟩ : ∃ vl, (actT S x).b.length = vl := ⟨_, rfl⟩
              rw [hvl]
              have HT5 := Lib.hid (HT4.out.done hd hk)
              have HXE := Lib.hid (hk.blk HXD.out (fun e => by have := HFW.out _ e; omega))
              have HSZ2 : Hid ((actS S x).zones.length = k) := Lib.hid (by rw [actS_zones]; exact HSZ.out)
              generalize grow F wr w9 = F2 at HT5
              generalize actS S x = S' at HT5 HFA HSZ2
              obtain ⟨tt, htt⟩ : ∃ t, actT S x = t := ⟨_, rfl⟩
              rw [htt] at HFA ⊢
              obtain ⟨tn, te, tb⟩ := tt
              simp only at HFA ⊢
              have HBT : Hid (Below w9.heap.size w9 (w9.alloc (.cells #[.int .i64 tn, .int .i64 te, .slice V vl vc] 41))) := Lib.hid (Below.alloc (Below.refl _ _) (Nat.le_refl _) _)
              have HTB : Hid (Blk (w9.alloc (.cells #[.int .i64 tn, .int .i64 te, .slice V vl vc] 41)) w9.heap.size 41 [.int .i64 tn, .int .i64 te, .slice V vl vc]) := Lib.hid (heap_alloc_new w9 _)
              have HT6 := Lib.hid (HT5.out.up HBT.out)
              have b0 : w9.cell? ⟨wo.heap.size, 0, none⟩ = some (.int .i64 x.Do) := blk_cell HXE.out 0 _ rfl
              have e0 : (w9.alloc (.cells #[.int .i64 tn, .int .i64 te, .slice V vl vc] 41)).cell? ⟨wo.heap.size, 0, none⟩ = some (.int .i64 x.Do) := (HBT.out.cell (p := ⟨wo.heap.size, 0, none⟩) (lt_of_block HXE.out)).trans b0
              have HSU0 : Hid (te ≠ 0 → sumP S' k = sumP S k) := Lib.hid (fun h => sumP_eq (HFA.out.pts h) k)
              have hsN := sumP_le HWF.out k
              obtain ⟨sn, hsn⟩ : ∃ p, sumP S k = p := ⟨_, rfl⟩
              rw [hsn] at HSU0 hsN
              rw [hsn]
              clear hd hk hvl htt HT4 HXD HT5 a0 a1 a2 a3 a4 a5 hsn
              by_cases hd1 : x.Do = 1
              · have qd : (x.Do != 1) = false := by simp [hd1]
                by_cases ht0 : te = 0
                · subst ht0
                  obtain rfl : g0 = false := by
                    cases g0 with
                    | false => rfl
                    | true => exact absurd (HFA.out.was HG0.out) (by simp)
                  have HFB : Hid (FuseI S' ff dn) := Lib.hid (by have := HFA.out.inv; simpa [hd1] using this)
                  have HLE := Lib.hid HFB.out.le
                  have qle : decide (ff < dn) = false := by have := HLE.out; simp; omega
                  have qlei : decide ((ff : Int) < (dn : Int)) = false := by have := HLE.out; simp; omega
                  have HOD := Lib.hid HFB.out.done
                  clear HFA
                  go_wp2_with fail
                  refine (Z.ops HT6.out.d).mono ?_
                  rw [HOD.out]
                  rintro r wa ⟨rfl, hb⟩
                  have HTa := Lib.hid (HT6.out.up hb)
                  have HTBa := Lib.hid (HTB.out.up hb (lt_of_block HTB.out))
                  clear hb
                  have c1 : wa.cell? ⟨w9.heap.size, 1, none⟩ = some (.int .i64 0) := blk_cell HTBa.out 1 _ rfl
                  have HWF2 := Lib.hid (Z.wf HTa.out.d)
                  go_wp2_with fail
                  go_loopg [18, 113] k (fun q y x' wr' => ∃ j : Nat, j ≤ k ∧ q = k - j ∧ x' = .int .i64 j ∧ y = .int .i64 (sumP S' j : Nat) ∧ Below wa.heap.size wa wr')
                  case atStart => exact ⟨0, by omega, by omega, rfl, rfl, Below.refl _ _⟩
                  case round =>
                    obtain ⟨j, hj, hq2, rfl, rfl, hb⟩ := hrel
                    have HQ3 := Lib.hid hq2
                    have HBc := Lib.hid hb
                    clear hq2 hb
                    by_cases hjl : j < k
                    · go_wp2_with fail
                      refine (Z.point j (HTa.out.up HBc.out).d).mono ?_
                      rintro r wd ⟨rfl, hb⟩
                      have HBd := Lib.hid (below_on HBc.out hb)
                      have hs1 := sumP_le HWF2.out j
                      have hs2 := point_le HWF2.out j
                      have HSU : Hid (sumP S' (j + 1) = sumP S' j + S'.point (j : Int)) := Lib.hid rfl
                      obtain ⟨pk, hpk⟩ : ∃ p, S'.point (j : Int) = p := ⟨_, rfl⟩
                      obtain ⟨sk, hsk⟩ : ∃ p, sumP S' j = p := ⟨_, rfl⟩
                      rw [hpk, hsk] at HSU
                      rw [hpk] at hs2
                      rw [hsk] at hs1
                      rw [hpk, hsk]
                      clear hb hpk hsk
                      go_wp2_with fail
                      go_roundg (k - (j + 1))
                      case rel => exact ⟨j + 1, by omega, rfl, by go_num, by rw [HSU.out]; go_num, HBd.out⟩
                      case measure => have := HQ3.out; omega
                    · obtain rfl : j = k := by omega
                      have HTe := Lib.hid (HTa.out.up HBc.out)
                      have HTBe := Lib.hid (HTBa.out.up HBc.out (lt_of_block HTBa.out))
                      have c2 : wr.cell? ⟨w9.heap.size, 1, none⟩ = some (.int .i64 0) := blk_cell HTBe.out 1 _ rfl
                      go_wp2_with fail
                      go_roundg (m - (i + 1))
                      case rel => exact ⟨i + 1, dn, S', F2, by omega, rfl, by go_num, by go_num, by omega, HFB.out, HSZ2.out, HTe.out⟩
                      case measure => have := HQ.out; omega
                · have qe0 : (te != 0) = true := by simpa using ht0
                  by_cases ht7 : te = 7
                  · subst ht7
                    cases g0
                    · have HFB : Hid (FuseI S' ff dn) := Lib.hid (by have := HFA.out.inv; simpa [hd1] using this)
                      have HLE := Lib.hid HFB.out.le
                      have qle : decide (ff < dn) = false := by have := HLE.out; simp; omega
                      have qlei : decide ((ff : Int) < (dn : Int)) = false := by have := HLE.out; simp; omega
                      have HOD := Lib.hid HFB.out.done
                      have HGN := Lib.hid (HFA.out.now rfl)
                      have HOF := Lib.hid (HFB.out.out HGN.out)
                      clear HFA
                      go_wp2_with fail
                      refine (Z.ops HT6.out.d).mono ?_
                      rw [HOD.out]
                      rintro r wa ⟨rfl, hb⟩
                      have HTa := Lib.hid (HT6.out.up hb)
                      have HTBa := Lib.hid (HTB.out.up hb (lt_of_block HTB.out))
                      clear hb
                      have c1 : wa.cell? ⟨w9.heap.size, 1, none⟩ = some (.int .i64 7) := blk_cell HTBa.out 1 _ rfl
                      go_wp2_with fail
                      refine (Z.down HTa.out.d).mono ?_
                      rw [HGN.out]
                      rintro r wb ⟨rfl, hb⟩
                      have HTb := Lib.hid (HTa.out.up hb)
                      have HTBb := Lib.hid (HTBa.out.up hb (lt_of_block HTBa.out))
                      clear hb c1
                      have qof : (((dn : Nat) : Int) != (ff : Int)) = false := by have := HOF.out; simp; omega
                      have HWF2 := Lib.hid (Z.wf HTb.out.d)
                      go_wp2_with fail
                      go_loopg [18, 113] k (fun q y x' wr' => ∃ j : Nat, j ≤ k ∧ q = k - j ∧ x' = .int .i64 j ∧ y = .int .i64 (sumP S' j : Nat) ∧ Below wb.heap.size wb wr')
                      case atStart => exact ⟨0, by omega, by omega, rfl, rfl, Below.refl _ _⟩
                      case round =>
                        obtain ⟨j, hj, hq2, rfl, rfl, hb⟩ := hrel
                        have HQ3 := Lib.hid hq2
                        have HBc := Lib.hid hb
                        clear hq2 hb
                        by_cases hjl : j < k
                        · go_wp2_with fail
                          refine (Z.point j (HTb.out.up HBc.out).d).mono ?_
                          rintro r wd ⟨rfl, hb⟩
                          have HBd := Lib.hid (below_on HBc.out hb)
                          have hs1 := sumP_le HWF2.out j
                          have hs2 := point_le HWF2.out j
                          have HSU : Hid (sumP S' (j + 1) = sumP S' j + S'.point (j : Int)) := Lib.hid rfl
                          obtain ⟨pk, hpk⟩ : ∃ p, S'.point (j : Int) = p := ⟨_, rfl⟩
                          obtain ⟨sk, hsk⟩ : ∃ p, sumP S' j = p := ⟨_, rfl⟩
                          rw [hpk, hsk] at HSU
                          rw [hpk] at hs2
                          rw [hsk] at hs1
                          rw [hpk, hsk]
                          clear hb hpk hsk
                          go_wp2_with fail
                          go_roundg (k - (j + 1))
                          case rel => exact ⟨j + 1, by omega, rfl, by go_num, by rw [HSU.out]; go_num, HBd.out⟩
                          case measure => have := HQ3.out; omega
                        · obtain rfl : j = k := by omega
                          have HTe := Lib.hid (HTb.out.up HBc.out)
                          have HTBe := Lib.hid (HTBb.out.up HBc.out (lt_of_block HTBb.out))
                          have c2 : wr.cell? ⟨w9.heap.size, 1, none⟩ = some (.int .i64 7) := blk_cell HTBe.out 1 _ rfl
                          rw [HSU0.out (by decide)]
                          go_wp2_with fail
                          go_roundg (m - (i + 1))
                          case rel => exact ⟨i + 1, dn, S', F2, by omega, rfl, by go_num, by go_num, by omega, HFB.out, HSZ2.out, HTe.out⟩
                          case measure => have := HQ.out; omega
                    · have HFB : Hid (FuseI S' ff dn) := Lib.hid (by have := HFA.out.inv; simpa [hd1] using this)
                      have HLE := Lib.hid HFB.out.le
                      have qle : decide (ff < dn) = false := by have := HLE.out; simp; omega
                      have qlei : decide ((ff : Int) < (dn : Int)) = false := by have := HLE.out; simp; omega
                      have HOD := Lib.hid HFB.out.done
                      have HGN := Lib.hid (HFA.out.now rfl)
                      have HOF := Lib.hid (HFB.out.out HGN.out)
                      clear HFA
                      go_wp2_with fail
                      refine (Z.ops HT6.out.d).mono ?_
                      rw [HOD.out]
                      rintro r wa ⟨rfl, hb⟩
                      have HTa := Lib.hid (HT6.out.up hb)
                      have HTBa := Lib.hid (HTB.out.up hb (lt_of_block HTB.out))
                      clear hb
                      have c1 : wa.cell? ⟨w9.heap.size, 1, none⟩ = some (.int .i64 7) := blk_cell HTBa.out 1 _ rfl
                      go_wp2_with fail
                      refine (Z.down HTa.out.d).mono ?_
                      rw [HGN.out]
                      rintro r wb ⟨rfl, hb⟩
                      have HTb := Lib.hid (HTa.out.up hb)
                      have HTBb := Lib.hid (HTBa.out.up hb (lt_of_block HTBa.out))
                      clear hb c1
                      have qof : (((dn : Nat) : Int) != (ff : Int)) = false := by have := HOF.out; simp; omega
                      have HWF2 := Lib.hid (Z.wf HTb.out.d)
                      go_wp2_with fail
                      go_loopg [18, 113] k (fun q y x' wr' => ∃ j : Nat, j ≤ k ∧ q = k - j ∧ x' = .int .i64 j ∧ y = .int .i64 (sumP S' j : Nat) ∧ Below wb.heap.size wb wr')
                      case atStart => exact ⟨0, by omega, by omega, rfl, rfl, Below.refl _ _⟩
                      case round =>
                        obtain ⟨j, hj, hq2, rfl, rfl, hb⟩ := hrel
                        have HQ3 := Lib.hid hq2
                        have HBc := Lib.hid hb
                        clear hq2 hb
                        by_cases hjl : j < k
                        · go_wp2_with fail
                          refine (Z.point j (HTb.out.up HBc.out).d).mono ?_
                          rintro r wd ⟨rfl, hb⟩
                          have HBd := Lib.hid (below_on HBc.out hb)
                          have hs1 := sumP_le HWF2.out j
                          have hs2 := point_le HWF2.out j
                          have HSU : Hid (sumP S' (j + 1) = sumP S' j + S'.point (j : Int)) := Lib.hid rfl
                          obtain ⟨pk, hpk⟩ : ∃ p, S'.point (j : Int) = p := ⟨_, rfl⟩
                          obtain ⟨sk, hsk⟩ : ∃ p, sumP S' j = p := ⟨_, rfl⟩
                          rw [hpk, hsk] at HSU
                          rw [hpk] at hs2
                          rw [hsk] at hs1
                          rw [hpk, hsk]
                          clear hb hpk hsk
                          go_wp2_with fail
                          go_roundg (k - (j + 1))
                          case rel => exact ⟨j + 1, by omega, rfl, by go_num, by rw [HSU.out]; go_num, HBd.out⟩
                          case measure => have := HQ3.out; omega
                        · obtain rfl : j = k := by omega
                          have HTe := Lib.hid (HTb.out.up HBc.out)
                          have HTBe := Lib.hid (HTBb.out.up HBc.out (lt_of_block HTBb.out))
                          have c2 : wr.cell? ⟨w9.heap.size, 1, none⟩ = some (.int .i64 7) := blk_cell HTBe.out 1 _ rfl
                          rw [HSU0.out (by decide)]
                          go_wp2_with fail
                          go_roundg (m - (i + 1))
                          case rel => exact ⟨i + 1, dn, S', F2, by omega, rfl, by go_num, by go_num, by omega, HFB.out, HSZ2.out, HTe.out⟩
                          case measure => have := HQ.out; omega
                  · have qe7 : (te == 7) = false := by simpa using ht7
                    obtain rfl : g0 = false := by
                      cases g0 with
                      | false => rfl
                      | true => exact absurd (HFA.out.was HG0.out) (by simpa using ht7)
                    have HFB : Hid (FuseI S' ff dn) := Lib.hid (by have := HFA.out.inv; simpa [hd1] using this)
                    have HLE := Lib.hid HFB.out.le
                    have qle : decide (ff < dn) = false := by have := HLE.out; simp; omega
                    have qlei : decide ((ff : Int) < (dn : Int)) = false := by have := HLE.out; simp; omega
                    have HOD := Lib.hid HFB.out.done
                    clear HFA
                    go_wp2_with fail
                    refine (Z.ops HT6.out.d).mono ?_
                    rw [HOD.out]
                    rintro r wa ⟨rfl, hb⟩
                    have HTa := Lib.hid (HT6.out.up hb)
                    have HTBa := Lib.hid (HTB.out.up hb (lt_of_block HTB.out))
                    clear hb
                    have c1 : wa.cell? ⟨w9.heap.size, 1, none⟩ = some (.int .i64 te) := blk_cell HTBa.out 1 _ rfl
                    have HWF2 := Lib.hid (Z.wf HTa.out.d)
                    go_wp2_with fail
                    go_loopg [18, 113] k (fun q y x' wr' => ∃ j : Nat, j ≤ k ∧ q = k - j ∧ x' = .int .i64 j ∧ y = .int .i64 (sumP S' j : Nat) ∧ Below wa.heap.size wa wr')
                    case atStart => exact ⟨0, by omega, by omega, rfl, rfl, Below.refl _ _⟩
                    case round =>
                      obtain ⟨j, hj, hq2, rfl, rfl, hb⟩ := hrel
                      have HQ3 := Lib.hid hq2
                      have HBc := Lib.hid hb
                      clear hq2 hb
                      by_cases hjl : j < k
                      · go_wp2_with fail
                        refine (Z.point j (HTa.out.up HBc.out).d).mono ?_
                        rintro r wd ⟨rfl, hb⟩
                        have HBd := Lib.hid (below_on HBc.out hb)
                        have hs1 := sumP_le HWF2.out j
                        have hs2 := point_le HWF2.out j
                        have HSU : Hid (sumP S' (j + 1) = sumP S' j + S'.point (j : Int)) := Lib.hid rfl
                        obtain ⟨pk, hpk⟩ : ∃ p, S'.point (j : Int) = p := ⟨_, rfl⟩
                        obtain ⟨sk, hsk⟩ : ∃ p, sumP S' j = p := ⟨_, rfl⟩
                        rw [hpk, hsk] at HSU
                        rw [hpk] at hs2
                        rw [hsk] at hs1
                        rw [hpk, hsk]
                        clear hb hpk hsk
                        go_wp2_with fail
                        go_roundg (k - (j + 1))
                        case rel => exact ⟨j + 1, by omega, rfl, by go_num, by rw [HSU.out]; go_num, HBd.out⟩
                        case measure => have := HQ3.out; omega
                      · obtain rfl : j = k := by omega
                        have HTe := Lib.hid (HTa.out.up HBc.out)
                        have HTBe := Lib.hid (HTBa.out.up HBc.out (lt_of_block HTBa.out))
                        have c2 : wr.cell? ⟨w9.heap.size, 1, none⟩ = some (.int .i64 te) := blk_cell HTBe.out 1 _ rfl
                        rw [HSU0.out ht0]
                        go_wp2_with fail
                        go_roundg (m - (i + 1))
                        case rel => exact ⟨i + 1, dn, S', F2, by omega, rfl, by go_num, by go_num, by omega, HFB.out, HSZ2.out, HTe.out⟩
                        case measure => have := HQ.out; omega
              · have qd : (x.Do != 1) = true := by simpa using hd1
                by_cases ht0 : te = 0
                · subst ht0
                  obtain rfl : g0 = false := by
                    cases g0 with
                    | false => rfl
                    | true => exact absurd (HFA.out.was HG0.out) (by simp)
                  have HFB : Hid (FuseI S' ff (dn + 1)) := Lib.hid (by have := HFA.out.inv; simpa [hd1] using this)
                  have HLE := Lib.hid HFB.out.le
                  have qle : decide (ff < (dn + 1)) = false := by have := HLE.out; simp; omega
                  have qlei : decide ((ff : Int) < (dn : Int) + 1) = false := by have := HLE.out; simp; omega
                  have HOD := Lib.hid HFB.out.done
                  clear HFA
                  go_wp2_with fail
                  refine (Z.ops HT6.out.d).mono ?_
                  rw [HOD.out]
                  rintro r wa ⟨rfl, hb⟩
                  have HTa := Lib.hid (HT6.out.up hb)
                  have HTBa := Lib.hid (HTB.out.up hb (lt_of_block HTB.out))
                  clear hb
                  have c1 : wa.cell? ⟨w9.heap.size, 1, none⟩ = some (.int .i64 0) := blk_cell HTBa.out 1 _ rfl
                  have HWF2 := Lib.hid (Z.wf HTa.out.d)
                  go_wp2_with fail
                  go_loopg [18, 113] k (fun q y x' wr' => ∃ j : Nat, j ≤ k ∧ q = k - j ∧ x' = .int .i64 j ∧ y = .int .i64 (sumP S' j : Nat) ∧ Below wa.heap.size wa wr')
                  case atStart => exact ⟨0, by omega, by omega, rfl, rfl, Below.refl _ _⟩
                  case round =>
                    obtain ⟨j, hj, hq2, rfl, rfl, hb⟩ := hrel
                    have HQ3 := Lib.hid hq2
                    have HBc := Lib.hid hb
                    clear hq2 hb
                    by_cases hjl : j < k
                    · go_wp2_with fail
                      refine (Z.point j (HTa.out.up HBc.out).d).mono ?_
                      rintro r wd ⟨rfl, hb⟩
                      have HBd := Lib.hid (below_on HBc.out hb)
                      have hs1 := sumP_le HWF2.out j
                      have hs2 := point_le HWF2.out j
                      have HSU : Hid (sumP S' (j + 1) = sumP S' j + S'.point (j : Int)) := Lib.hid rfl
                      obtain ⟨pk, hpk⟩ : ∃ p, S'.point (j : Int) = p := ⟨_, rfl⟩
                      obtain ⟨sk, hsk⟩ : ∃ p, sumP S' j = p := ⟨_, rfl⟩
                      rw [hpk, hsk] at HSU
                      rw [hpk] at hs2
                      rw [hsk] at hs1
                      rw [hpk, hsk]
                      clear hb hpk hsk
                      go_wp2_with fail
                      go_roundg (k - (j + 1))
                      case rel => exact ⟨j + 1, by omega, rfl, by go_num, by rw [HSU.out]; go_num, HBd.out⟩
                      case measure => have := HQ3.out; omega
                    · obtain rfl : j = k := by omega
                      have HTe := Lib.hid (HTa.out.up HBc.out)
                      have HTBe := Lib.hid (HTBa.out.up HBc.out (lt_of_block HTBa.out))
                      have c2 : wr.cell? ⟨w9.heap.size, 1, none⟩ = some (.int .i64 0) := blk_cell HTBe.out 1 _ rfl
                      go_wp2_with fail
                      go_roundg (m - (i + 1))
                      case rel => exact ⟨i + 1, dn + 1, S', F2, by omega, rfl, by go_num, by go_num, by omega, HFB.out, HSZ2.out, HTe.out⟩
                      case measure => have := HQ.out; omega
                · have qe0 : (te != 0) = true := by simpa using ht0
                  have qz0 : (te == 0) = false := by simpa using ht0
                  by_cases ht7 : te = 7
                  · subst ht7
                    cases g0
                    · have HFB : Hid (FuseI S' ff dn) := Lib.hid (by have := HFA.out.inv; simpa [hd1] using this)
                      have HLE := Lib.hid HFB.out.le
                      have qle : decide (ff < dn) = false := by have := HLE.out; simp; omega
                      have qlei : decide ((ff : Int) < (dn : Int)) = false := by have := HLE.out; simp; omega
                      have HOD := Lib.hid HFB.out.done
                      have HGN := Lib.hid (HFA.out.now rfl)
                      have HOF := Lib.hid (HFB.out.out HGN.out)
                      clear HFA
                      go_wp2_with fail
                      refine (Z.ops HT6.out.d).mono ?_
                      rw [HOD.out]
                      rintro r wa ⟨rfl, hb⟩
                      have HTa := Lib.hid (HT6.out.up hb)
                      have HTBa := Lib.hid (HTB.out.up hb (lt_of_block HTB.out))
                      clear hb
                      have c1 : wa.cell? ⟨w9.heap.size, 1, none⟩ = some (.int .i64 7) := blk_cell HTBa.out 1 _ rfl
                      go_wp2_with fail
                      refine (Z.down HTa.out.d).mono ?_
                      rw [HGN.out]
                      rintro r wb ⟨rfl, hb⟩
                      have HTb := Lib.hid (HTa.out.up hb)
                      have HTBb := Lib.hid (HTBa.out.up hb (lt_of_block HTBa.out))
                      clear hb c1
                      have qof : (((dn : Nat) : Int) != (ff : Int)) = false := by have := HOF.out; simp; omega
                      have HWF2 := Lib.hid (Z.wf HTb.out.d)
                      go_wp2_with fail
                      go_loopg [18, 113] k (fun q y x' wr' => ∃ j : Nat, j ≤ k ∧ q = k - j ∧ x' = .int .i64 j ∧ y = .int .i64 (sumP S' j : Nat) ∧ Below wb.heap.size wb wr')
                      case atStart => exact ⟨0, by omega, by omega, rfl, rfl, Below.refl _ _⟩
                      case round =>
                        obtain ⟨j, hj, hq2, rfl, rfl, hb⟩ := hrel
                        have HQ3 := Lib.hid hq2
                        have HBc := Lib.hid hb
                        clear hq2 hb
                        by_cases hjl : j < k
                        · go_wp2_with fail
                          refine (Z.point j (HTb.out.up HBc.out).d).mono ?_
                          rintro r wd ⟨rfl, hb⟩
                          have HBd := Lib.hid (below_on HBc.out hb)
                          have hs1 := sumP_le HWF2.out j
                          have hs2 := point_le HWF2.out j
                          have HSU : Hid (sumP S' (j + 1) = sumP S' j + S'.point (j : Int)) := Lib.hid rfl
                          obtain ⟨pk, hpk⟩ : ∃ p, S'.point (j : Int) = p := ⟨_, rfl⟩
                          obtain ⟨sk, hsk⟩ : ∃ p, sumP S' j = p := ⟨_, rfl⟩
                          rw [hpk, hsk] at HSU
                          rw [hpk] at hs2
                          rw [hsk] at hs1
                          rw [hpk, hsk]
                          clear hb hpk hsk
                          go_wp2_with fail
                          go_roundg (k - (j + 1))
                          case rel => exact ⟨j + 1, by omega, rfl, by go_num, by rw [HSU.out]; go_num, HBd.out⟩
                          case measure => have := HQ3.out; omega
                        · obtain rfl : j = k := by omega
                          have HTe := Lib.hid (HTb.out.up HBc.out)
                          have HTBe := Lib.hid (HTBb.out.up HBc.out (lt_of_block HTBb.out))
                          have c2 : wr.cell? ⟨w9.heap.size, 1, none⟩ = some (.int .i64 7) := blk_cell HTBe.out 1 _ rfl
                          rw [HSU0.out (by decide)]
                          go_wp2_with fail
                          go_roundg (m - (i + 1))
                          case rel => exact ⟨i + 1, dn, S', F2, by omega, rfl, by go_num, by go_num, by omega, HFB.out, HSZ2.out, HTe.out⟩
                          case measure => have := HQ.out; omega
                    · have HFB : Hid (FuseI S' ff dn) := Lib.hid (by have := HFA.out.inv; simpa [hd1] using this)
                      have HLE := Lib.hid HFB.out.le
                      have qle : decide (ff < dn) = false := by have := HLE.out; simp; omega
                      have qlei : decide ((ff : Int) < (dn : Int)) = false := by have := HLE.out; simp; omega
                      have HOD := Lib.hid HFB.out.done
                      have HGN := Lib.hid (HFA.out.now rfl)
                      have HOF := Lib.hid (HFB.out.out HGN.out)
                      clear HFA
                      go_wp2_with fail
                      refine (Z.ops HT6.out.d).mono ?_
                      rw [HOD.out]
                      rintro r wa ⟨rfl, hb⟩
                      have HTa := Lib.hid (HT6.out.up hb)
                      have HTBa := Lib.hid (HTB.out.up hb (lt_of_block HTB.out))
                      clear hb
                      have c1 : wa.cell? ⟨w9.heap.size, 1, none⟩ = some (.int .i64 7) := blk_cell HTBa.out 1 _ rfl
                      go_wp2_with fail
                      refine (Z.down HTa.out.d).mono ?_
                      rw [HGN.out]
                      rintro r wb ⟨rfl, hb⟩
                      have HTb := Lib.hid (HTa.out.up hb)
                      have HTBb := Lib.hid (HTBa.out.up hb (lt_of_block HTBa.out))
                      clear hb c1
                      have qof : (((dn : Nat) : Int) != (ff : Int)) = false := by have := HOF.out; simp; omega
                      have HWF2 := Lib.hid (Z.wf HTb.out.d)
                      go_wp2_with fail
                      go_loopg [18, 113] k (fun q y x' wr' => ∃ j : Nat, j ≤ k ∧ q = k - j ∧ x' = .int .i64 j ∧ y = .int .i64 (sumP S' j : Nat) ∧ Below wb.heap.size wb wr')
                      case atStart => exact ⟨0, by omega, by omega, rfl, rfl, Below.refl _ _⟩
                      case round =>
                        obtain ⟨j, hj, hq2, rfl, rfl, hb⟩ := hrel
                        have HQ3 := Lib.hid hq2
                        have HBc := Lib.hid hb
                        clear hq2 hb
                        by_cases hjl : j < k
                        · go_wp2_with fail
                          refine (Z.point j (HTb.out.up HBc.out).d).mono ?_
                          rintro r wd ⟨rfl, hb⟩
                          have HBd := Lib.hid (below_on HBc.out hb)
                          have hs1 := sumP_le HWF2.out j
                          have hs2 := point_le HWF2.out j
                          have HSU : Hid (sumP S' (j + 1) = sumP S' j + S'.point (j : Int)) := Lib.hid rfl
                          obtain ⟨pk, hpk⟩ : ∃ p, S'.point (j : Int) = p := ⟨_, rfl⟩
                          obtain ⟨sk, hsk⟩ : ∃ p, sumP S' j = p := ⟨_, rfl⟩
                          rw [hpk, hsk] at HSU
                          rw [hpk] at hs2
                          rw [hsk] at hs1
                          rw [hpk, hsk]
                          clear hb hpk hsk
                          go_wp2_with fail
                          go_roundg (k - (j + 1))
                          case rel => exact ⟨j + 1, by omega, rfl, by go_num, by rw [HSU.out]; go_num, HBd.out⟩
                          case measure => have := HQ3.out; omega
                        · obtain rfl : j = k := by omega
                          have HTe := Lib.hid (HTb.out.up HBc.out)
                          have HTBe := Lib.hid (HTBb.out.up HBc.out (lt_of_block HTBb.out))
                          have c2 : wr.cell? ⟨w9.heap.size, 1, none⟩ = some (.int .i64 7) := blk_cell HTBe.out 1 _ rfl
                          rw [HSU0.out (by decide)]
                          go_wp2_with fail
                          go_roundg (m - (i + 1))
                          case rel => exact ⟨i + 1, dn, S', F2, by omega, rfl, by go_num, by go_num, by omega, HFB.out, HSZ2.out, HTe.out⟩
                          case measure => have := HQ.out; omega
                  · have qe7 : (te == 7) = false := by simpa using ht7
                    obtain rfl : g0 = false := by
                      cases g0 with
                      | false => rfl
                      | true => exact absurd (HFA.out.was HG0.out) (by simpa using ht7)
                    have HFB : Hid (FuseI S' ff dn) := Lib.hid (by have := HFA.out.inv; simpa [hd1, ht0] using this)
                    have HLE := Lib.hid HFB.out.le
                    have qle : decide (ff < dn) = false := by have := HLE.out; simp; omega
                    have qlei : decide ((ff : Int) < (dn : Int)) = false := by have := HLE.out; simp; omega
                    have HOD := Lib.hid HFB.out.done
                    clear HFA
                    go_wp2_with fail
                    refine (Z.ops HT6.out.d).mono ?_
                    rw [HOD.out]
                    rintro r wa ⟨rfl, hb⟩
                    have HTa := Lib.hid (HT6.out.up hb)
                    have HTBa := Lib.hid (HTB.out.up hb (lt_of_block HTB.out))
                    clear hb
                    have c1 : wa.cell? ⟨w9.heap.size, 1, none⟩ = some (.int .i64 te) := blk_cell HTBa.out 1 _ rfl
                    have HWF2 := Lib.hid (Z.wf HTa.out.d)
                    go_wp2_with fail
                    go_loopg [18, 113] k (fun q y x' wr' => ∃ j : Nat, j ≤ k ∧ q = k - j ∧ x' = .int .i64 j ∧ y = .int .i64 (sumP S' j : Nat) ∧ Below wa.heap.size wa wr')
                    case atStart => exact ⟨0, by omega, by omega, rfl, rfl, Below.refl _ _⟩
                    case round =>
                      obtain ⟨j, hj, hq2, rfl, rfl, hb⟩ := hrel
                      have HQ3 := Lib.hid hq2
                      have HBc := Lib.hid hb
                      clear hq2 hb
                      by_cases hjl : j < k
                      · go_wp2_with fail
                        refine (Z.point j (HTa.out.up HBc.out).d).mono ?_
                        rintro r wd ⟨rfl, hb⟩
                        have HBd := Lib.hid (below_on HBc.out hb)
                        have hs1 := sumP_le HWF2.out j
                        have hs2 := point_le HWF2.out j
                        have HSU : Hid (sumP S' (j + 1) = sumP S' j + S'.point (j : Int)) := Lib.hid rfl
                        obtain ⟨pk, hpk⟩ : ∃ p, S'.point (j : Int) = p := ⟨_, rfl⟩
                        obtain ⟨sk, hsk⟩ : ∃ p, sumP S' j = p := ⟨_, rfl⟩
                        rw [hpk, hsk] at HSU
                        rw [hpk] at hs2
                        rw [hsk] at hs1
                        rw [hpk, hsk]
                        clear hb hpk hsk
                        go_wp2_with fail
                        go_roundg (k - (j + 1))
                        case rel => exact ⟨j + 1, by omega, rfl, by go_num, by rw [HSU.out]; go_num, HBd.out⟩
                        case measure => have := HQ3.out; omega
                      · obtain rfl : j = k := by omega
                        have HTe := Lib.hid (HTa.out.up HBc.out)
                        have HTBe := Lib.hid (HTBa.out.up HBc.out (lt_of_block HTBa.out))
                        have c2 : wr.cell? ⟨w9.heap.size, 1, none⟩ = some (.int .i64 te) := blk_cell HTBe.out 1 _ rfl
                        rw [HSU0.out ht0]
                        go_wp2_with fail
                        go_roundg (m - (i + 1))
                        case rel => exact ⟨i + 1, dn, S', F2, by omega, rfl, by go_num, by go_num, by omega, HFB.out, HSZ2.out, HTe.out⟩
                        case measure => have := HQ.out; omega
        · obtain rfl : i = m := by omega
          go_wp2_with fail
          refine (Z.crash _ _ [] [] HT.out.d (RowF.nil _ _) (RowF.nil _ _) (by decide) (by decide) (fun n hn => by cases hn)).mono ?_
          rintro r w7 ⟨rfl, hd, hk⟩
          have HT7 := Lib.hid (HT.out.done hd hk)
          clear hd hk HT
          go_wp2_with fail
          refine (Z.down HT7.out.d).mono ?_
          rw [show (S.crash [] []).gone = false from rfl]
          rintro r w8 ⟨rfl, hb⟩
          have HT8 := Lib.hid (HT7.out.up hb)
          clear hb HT7
          go_wp2_with fail
          refine (Z.flush HT8.out.d (by have := HFI.out.done; show S.done ≤ 1000000; omega)).mono ?_
          rw [show (S.crash [] []).mayE 0 = 0 from rfl, err_nil]
          rintro r w9 ⟨rfl, hd, hk⟩
          have HT9 := Lib.hid (HT8.out.done hd hk)
          clear hd hk HT8
          go_wp2_with fail
          go_ret
          exact ⟨rfl, HT9.out.old⟩
end Go.Proofs.YtljpkngbhdplbaaDoor
