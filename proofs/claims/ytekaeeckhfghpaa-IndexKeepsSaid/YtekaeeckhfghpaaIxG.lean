/-
  platelayerlaw09.IndexKeeps answers true.
-/
import Derived.Test.YtekaeeckhfghpaaIxF
namespace Go.Proofs.Ytekaeeckhfghpaa
open Go.RowKit

set_option maxHeartbeats 2000000 in
set_option maxRecDepth 100000 in
theorem ikeeps_true {w : World} (n : Int) (A : Option Addr) (m c : Nat) (l : List XAct) (key : Nat) (hl : l.length = m) (hr : RdX w A l) : Calls Try.prog 3 #[.int .i64 n, .slice A m c, .int .u32 (key : Int)] w (BoolB true w) := by
  have HL := Lib.hid hl
  have HR := Lib.hid hr
  clear hl hr
  go_enter Try.func3, Try.ntmps3
  go_wp2_with fail
  refine (xawake_true w).mono ?_
  rintro r w1 ⟨rfl, hb⟩
  have HB1 := Lib.hid hb
  clear hb
  go_wp2_with fail
  refine (xnew_at n w1).mono ?_
  rintro r w2 h
  obtain ⟨hb, h⟩ := h
  by_cases hnn : 1 ≤ n ∧ n ≤ 64
  · rw [if_pos hnn] at h
    obtain ⟨rfl, hm⟩ := h
    obtain ⟨N, rfl⟩ := Int.eq_ofNat_of_zero_le (show 0 ≤ n by omega)
    rw [Int.toNat_natCast] at hm
    obtain ⟨kb, hkb⟩ : ∃ kb, w1.heap.size = kb := ⟨_, rfl⟩
    have HM2 : Hid (IX w w2 kb ⟨[], N⟩) := Lib.hid ⟨by rw [← hkb]; exact hm, by have := HB1.out.size; omega, below_all HB1.out hb⟩
    clear hm hb HB1
    rw [hkb]
    have hN1 : 1 ≤ N ∧ N ≤ 64 := by omega
    clear hnn
    by_cases hmm : 300 < m
    · go_wp2_with fail
      go_ret
      exact ⟨rfl, HM2.out.old⟩
    · go_wp2_with fail
      go_loopg [9, 10, 33] m (fun q x z y wr => ∃ (i : Nat) (S : IxS), i ≤ m ∧ q = m - i ∧ x = .int .i64 (S.getN key) ∧ z = .bool (S.has key) ∧ y = .int .i64 i ∧ IX w wr kb S ∧ S.room = N)
      case atStart => exact ⟨0, _, by omega, by omega, rfl, rfl, rfl, HM2.out, rfl⟩
      case round =>
        clear HM2
        obtain ⟨i, S, hi, hq, rfl, rfl, rfl, hix, hrm⟩ := hrel
        have HQ := Lib.hid hq
        have HIX := Lib.hid hix
        have HRM0 := Lib.hid hrm
        clear hq hix hrm
        obtain ⟨G, hG⟩ : ∃ G, S.getN key = G := ⟨_, rfl⟩
        obtain ⟨H, hH⟩ : ∃ H, S.has key = H := ⟨_, rfl⟩
        have HGH := Lib.hid (And.intro hG hH)
        rw [hG, hH]
        clear hG hH
        by_cases hlt : i < m
        · have hll : i < l.length := by rw [HL.out]; exact hlt
          obtain ⟨b, o, rfl, hbl, hcell⟩ := (HR.out.below HIX.out.old) (by omega)
          obtain ⟨c0, c1, c2⟩ := hcell i hll
          obtain ⟨d, hd⟩ : ∃ d, l[i].d = d := ⟨_, rfl⟩
          obtain ⟨k, hk⟩ : ∃ k, l[i].k = k := ⟨_, rfl⟩
          obtain ⟨s, hs⟩ : ∃ s, l[i].s = s := ⟨_, rfl⟩
          rw [hd] at c0
          rw [hk] at c1
          rw [hs] at c2
          clear hcell hd hk hs
          obtain ⟨a, ha⟩ : ∃ a, wr.heap.size = a := ⟨_, rfl⟩
          obtain ⟨wa, hwa⟩ : ∃ wa, wr.alloc (.cells #[.int .i64 d, .int .u32 (k : Int), .int .i64 s] 31) = wa := ⟨_, rfl⟩
          have HA := Lib.hid (HIX.out.up (show Below wr.heap.size wr wa by rw [← hwa]; exact (Below.refl _ _).alloc (Nat.le_refl _) _))
          have HX : Hid (Blk wa a 31 [.int .i64 d, .int .u32 (k : Int), .int .i64 s] ∧ a ≠ kb) := Lib.hid ⟨by rw [← hwa, ← ha]; exact heap_alloc_new wr _, by have := HIX.out.m.lt; omega⟩
          have y0 := HX.out.1.cell 0 (by simp)
          have y1 := HX.out.1.cell 1 (by simp)
          have y2 := HX.out.1.cell 2 (by simp)
          have HLn0 := Lib.hid (xlen_at HA.out.m)
          obtain ⟨M0, hM0⟩ : ∃ M0, S.L.length = M0 := ⟨_, rfl⟩
          rw [hM0] at HLn0
          have HM0 := Lib.hid hM0
          clear hM0
          clear HIX
          go_wp2_with fail
          refine HLn0.out.mono ?_
          rintro r w3 ⟨rfl, rfl⟩
          by_cases hd0 : d = 0
          · subst hd0
            have q0 : ((0 : Int) == 0) = true := rfl
            cases hpb : S.putB k with
            | true =>
              by_cases hkk : k = key
              · have hkk := hkk.symm
                subst hkk
                have HGG : Hid ((S.putS key s).getN key = s ∧ (S.putS key s).has key = true) := Lib.hid (IxS.put_same HA.out.m.2 hpb)
                have qk : ((key : Int) == (key : Int)) = true := by simp
                go_wp2_with fail
                refine (xput_at key s HA.out.m).mono ?_
                rintro r w4 h
                obtain ⟨rfl, hm, hk⟩ := h
                have HA4 := Lib.hid (HA.out.to hm hk)
                have HX4 : Hid (Blk w4 a 31 [.int .i64 0, .int .u32 (key : Int), .int .i64 s]) := Lib.hid (hk.blk HX.out.1 HX.out.2)
                have x0 := HX4.out.cell 0 (by simp)
                have x1 := HX4.out.cell 1 (by simp)
                have x2 := HX4.out.cell 2 (by simp)
                have HRR : Hid ((S.putS key s).room = N) := Lib.hid ((IxS.put_room S key s).trans HRM0.out)
                have HWF := Lib.hid (IxS.putS_wf HA.out.m.2 key s)
                clear hm hk y0 y1 y2
                rw [hpb]
                clear hpb HA HX
                obtain ⟨S', hS'⟩ : ∃ S', S.putS key s = S' := ⟨_, rfl⟩
                have HG : Hid (S'.getN key = s ∧ S'.has key = true) := Lib.hid (by rw [← hS']; exact HGG.out)
                have HRM : Hid (S'.room = N) := Lib.hid (by rw [← hS']; exact HRR.out)
                have HLE : Hid (S'.L.length ≤ N) := Lib.hid (by have := HRM.out; have h2 : S'.WF := (by rw [← hS']; exact HWF.out); have := h2.le; omega)
                rw [hS'] at HA4
                clear hS' HGG HRR HWF
                go_wp2_with fail
                refine (xget_at key HA4.out.m).mono ?_
                rintro r w5 ⟨rfl, hb⟩
                have HA5 := Lib.hid (HA4.out.up hb)
                clear hb HA4
                rw [HG.out.1, HG.out.2]
                have hle := HLE.out
                obtain ⟨M, hM⟩ : ∃ M, S'.L.length = M := ⟨_, rfl⟩
                rw [hM] at hle
                have HLn := Lib.hid (xlen_at HA5.out.m)
                rw [hM] at HLn
                clear hM
                go_wp2_with fail
                refine HLn.out.mono ?_
                rintro r w6 ⟨rfl, rfl⟩
                go_wp2_with fail
                go_roundg (m - (i + 1))
                case rel => exact ⟨i + 1, S', by omega, rfl, by rw [HG.out.1], by rw [HG.out.2], by go_num, HA5.out, HRM.out⟩
                case measure => have := HQ.out; omega
              · have HGG : Hid ((S.putS k s).getN key = G ∧ (S.putS k s).has key = H) := Lib.hid (by have := IxS.put_ne (s := s) HA.out.m.2 hkk; rw [HGH.out.1, HGH.out.2] at this; exact this)
                have qk : ((k : Int) == (key : Int)) = false := by simp; omega
                have HPB := Lib.hid hpb
                clear hkk hpb
                go_wp2_with fail
                refine (xput_at k s HA.out.m).mono ?_
                rintro r w4 h
                obtain ⟨rfl, hm, hk⟩ := h
                have HA4 := Lib.hid (HA.out.to hm hk)
                have HX4 : Hid (Blk w4 a 31 [.int .i64 0, .int .u32 (k : Int), .int .i64 s]) := Lib.hid (hk.blk HX.out.1 HX.out.2)
                have x0 := HX4.out.cell 0 (by simp)
                have x1 := HX4.out.cell 1 (by simp)
                have x2 := HX4.out.cell 2 (by simp)
                have HRR : Hid ((S.putS k s).room = N) := Lib.hid ((IxS.put_room S k s).trans HRM0.out)
                have HWF := Lib.hid (IxS.putS_wf HA.out.m.2 k s)
                clear hm hk y0 y1 y2
                rw [HPB.out]
                clear HPB HA HX
                obtain ⟨S', hS'⟩ : ∃ S', S.putS k s = S' := ⟨_, rfl⟩
                have HG : Hid (S'.getN key = G ∧ S'.has key = H) := Lib.hid (by rw [← hS']; exact HGG.out)
                have HRM : Hid (S'.room = N) := Lib.hid (by rw [← hS']; exact HRR.out)
                have HLE : Hid (S'.L.length ≤ N) := Lib.hid (by have := HRM.out; have h2 : S'.WF := (by rw [← hS']; exact HWF.out); have := h2.le; omega)
                rw [hS'] at HA4
                clear hS' HGG HRR HWF
                go_wp2_with fail
                refine (xget_at key HA4.out.m).mono ?_
                rintro r w5 ⟨rfl, hb⟩
                have HA5 := Lib.hid (HA4.out.up hb)
                clear hb HA4
                rw [HG.out.1, HG.out.2]
                have hle := HLE.out
                obtain ⟨M, hM⟩ : ∃ M, S'.L.length = M := ⟨_, rfl⟩
                rw [hM] at hle
                have HLn := Lib.hid (xlen_at HA5.out.m)
                rw [hM] at HLn
                clear hM
                go_wp2_with fail
                refine HLn.out.mono ?_
                rintro r w6 ⟨rfl, rfl⟩
                go_wp2_with fail
                go_roundg (m - (i + 1))
                case rel => exact ⟨i + 1, S', by omega, rfl, by rw [HG.out.1], by rw [HG.out.2], by go_num, HA5.out, HRM.out⟩
                case measure => have := HQ.out; omega
            | false =>
              have hful := IxS.put_full hpb
              rw [HRM0.out, HM0.out] at hful
              have qf : ¬ ((M0 : Int) < (N : Int)) := by omega
              have HGG : Hid ((S.putS k s).getN key = G ∧ (S.putS k s).has key = H) := Lib.hid (by rw [IxS.put_no hpb]; exact HGH.out)
              go_wp2_with fail
              refine (xput_at k s HA.out.m).mono ?_
              rintro r w4 h
              obtain ⟨rfl, hm, hk⟩ := h
              have HA4 := Lib.hid (HA.out.to hm hk)
              have HX4 : Hid (Blk w4 a 31 [.int .i64 0, .int .u32 (k : Int), .int .i64 s]) := Lib.hid (hk.blk HX.out.1 HX.out.2)
              have x0 := HX4.out.cell 0 (by simp)
              have x1 := HX4.out.cell 1 (by simp)
              have x2 := HX4.out.cell 2 (by simp)
              have HRR : Hid ((S.putS k s).room = N) := Lib.hid ((IxS.put_room S k s).trans HRM0.out)
              have HWF := Lib.hid (IxS.putS_wf HA.out.m.2 k s)
              clear hm hk y0 y1 y2
              rw [hpb]
              clear hpb HA HX
              obtain ⟨S', hS'⟩ : ∃ S', S.putS k s = S' := ⟨_, rfl⟩
              have HG : Hid (S'.getN key = G ∧ S'.has key = H) := Lib.hid (by rw [← hS']; exact HGG.out)
              have HRM : Hid (S'.room = N) := Lib.hid (by rw [← hS']; exact HRR.out)
              have HLE : Hid (S'.L.length ≤ N) := Lib.hid (by have := HRM.out; have h2 : S'.WF := (by rw [← hS']; exact HWF.out); have := h2.le; omega)
              rw [hS'] at HA4
              clear hS' HGG HRR HWF
              go_wp2_with fail
              refine (xget_at key HA4.out.m).mono ?_
              rintro r w5 ⟨rfl, hb⟩
              have HA5 := Lib.hid (HA4.out.up hb)
              clear hb HA4
              rw [HG.out.1, HG.out.2]
              have hle := HLE.out
              obtain ⟨M, hM⟩ : ∃ M, S'.L.length = M := ⟨_, rfl⟩
              rw [hM] at hle
              have HLn := Lib.hid (xlen_at HA5.out.m)
              rw [hM] at HLn
              clear hM
              go_wp2_with fail
              refine HLn.out.mono ?_
              rintro r w6 ⟨rfl, rfl⟩
              go_wp2_with fail
              go_roundg (m - (i + 1))
              case rel => exact ⟨i + 1, S', by omega, rfl, by rw [HG.out.1], by rw [HG.out.2], by go_num, HA5.out, HRM.out⟩
              case measure => have := HQ.out; omega
          · have q0 : (d == 0) = false := by simpa using hd0
            by_cases hd1 : d = 1
            · subst hd1
              by_cases hkk : k = key
              · have hkk := hkk.symm
                subst hkk
                have HGG : Hid ((S.dropS key).getN key = 0 ∧ (S.dropS key).has key = false) := Lib.hid IxS.drop_same
                have qk : ((key : Int) == (key : Int)) = true := by simp
                have HH : Hid (S.has key = H) := Lib.hid HGH.out.2
                go_wp2_with fail
                refine (xdrop_at key HA.out.m).mono ?_
                rintro r w4 h
                obtain ⟨rfl, hm, hk⟩ := h
                have HA4 := Lib.hid (HA.out.to hm hk)
                have HX4 : Hid (Blk w4 a 31 [.int .i64 1, .int .u32 (key : Int), .int .i64 s]) := Lib.hid (hk.blk HX.out.1 HX.out.2)
                have x0 := HX4.out.cell 0 (by simp)
                have x1 := HX4.out.cell 1 (by simp)
                have x2 := HX4.out.cell 2 (by simp)
                have HRR : Hid ((S.dropS key).room = N) := Lib.hid HRM0.out
                have HWF := Lib.hid (IxS.dropS_wf HA.out.m.2 key)
                clear hm hk y0 y1 y2
                rw [HH.out]
                clear HA HX HH
                obtain ⟨S', hS'⟩ : ∃ S', S.dropS key = S' := ⟨_, rfl⟩
                have HG : Hid (S'.getN key = 0 ∧ S'.has key = false) := Lib.hid (by rw [← hS']; exact HGG.out)
                have HRM : Hid (S'.room = N) := Lib.hid (by rw [← hS']; exact HRR.out)
                have HLE : Hid (S'.L.length ≤ N) := Lib.hid (by have := HRM.out; have h2 : S'.WF := (by rw [← hS']; exact HWF.out); have := h2.le; omega)
                rw [hS'] at HA4
                clear hS' HGG HRR HWF
                go_wp2_with fail
                refine (xget_at key HA4.out.m).mono ?_
                rintro r w5 ⟨rfl, hb⟩
                have HA5 := Lib.hid (HA4.out.up hb)
                clear hb HA4
                rw [HG.out.1, HG.out.2]
                have hle := HLE.out
                obtain ⟨M, hM⟩ : ∃ M, S'.L.length = M := ⟨_, rfl⟩
                rw [hM] at hle
                have HLn := Lib.hid (xlen_at HA5.out.m)
                rw [hM] at HLn
                clear hM
                go_wp2_with fail
                refine HLn.out.mono ?_
                rintro r w6 ⟨rfl, rfl⟩
                go_wp2_with fail
                go_roundg (m - (i + 1))
                case rel => exact ⟨i + 1, S', by omega, rfl, by rw [HG.out.1], by rw [HG.out.2], by go_num, HA5.out, HRM.out⟩
                case measure => have := HQ.out; omega
              · have HGG : Hid ((S.dropS k).getN key = G ∧ (S.dropS k).has key = H) := Lib.hid (by have := IxS.drop_ne HA.out.m.2 hkk; rw [HGH.out.1, HGH.out.2] at this; exact this)
                have qk : ((k : Int) == (key : Int)) = false := by simp; omega
                clear hkk
                go_wp2_with fail
                refine (xdrop_at k HA.out.m).mono ?_
                rintro r w4 h
                obtain ⟨rfl, hm, hk⟩ := h
                have HA4 := Lib.hid (HA.out.to hm hk)
                have HX4 : Hid (Blk w4 a 31 [.int .i64 1, .int .u32 (k : Int), .int .i64 s]) := Lib.hid (hk.blk HX.out.1 HX.out.2)
                have x0 := HX4.out.cell 0 (by simp)
                have x1 := HX4.out.cell 1 (by simp)
                have x2 := HX4.out.cell 2 (by simp)
                have HRR : Hid ((S.dropS k).room = N) := Lib.hid HRM0.out
                have HWF := Lib.hid (IxS.dropS_wf HA.out.m.2 k)
                clear hm hk y0 y1 y2
                generalize S.has k = dn at *
                clear HA HX
                obtain ⟨S', hS'⟩ : ∃ S', S.dropS k = S' := ⟨_, rfl⟩
                have HG : Hid (S'.getN key = G ∧ S'.has key = H) := Lib.hid (by rw [← hS']; exact HGG.out)
                have HRM : Hid (S'.room = N) := Lib.hid (by rw [← hS']; exact HRR.out)
                have HLE : Hid (S'.L.length ≤ N) := Lib.hid (by have := HRM.out; have h2 : S'.WF := (by rw [← hS']; exact HWF.out); have := h2.le; omega)
                rw [hS'] at HA4
                clear hS' HGG HRR HWF
                go_wp2_with fail
                refine (xget_at key HA4.out.m).mono ?_
                rintro r w5 ⟨rfl, hb⟩
                have HA5 := Lib.hid (HA4.out.up hb)
                clear hb HA4
                rw [HG.out.1, HG.out.2]
                have hle := HLE.out
                obtain ⟨M, hM⟩ : ∃ M, S'.L.length = M := ⟨_, rfl⟩
                rw [hM] at hle
                have HLn := Lib.hid (xlen_at HA5.out.m)
                rw [hM] at HLn
                clear hM
                go_wp2_with fail
                refine HLn.out.mono ?_
                rintro r w6 ⟨rfl, rfl⟩
                go_wp2_with fail
                go_roundg (m - (i + 1))
                case rel => exact ⟨i + 1, S', by omega, rfl, by rw [HG.out.1], by rw [HG.out.2], by go_num, HA5.out, HRM.out⟩
                case measure => have := HQ.out; omega
            · have q1 : (d == 1) = false := by simpa using hd1
              have HA4 := Lib.hid HA.out
              have HGG := Lib.hid HGH.out
              have HRR := Lib.hid HRM0.out
              have HWF := Lib.hid HA.out.m.2
              clear HA HX
              obtain ⟨S', hS'⟩ : ∃ S', S = S' := ⟨_, rfl⟩
              have HG : Hid (S'.getN key = G ∧ S'.has key = H) := Lib.hid (by rw [← hS']; exact HGG.out)
              have HRM : Hid (S'.room = N) := Lib.hid (by rw [← hS']; exact HRR.out)
              have HLE : Hid (S'.L.length ≤ N) := Lib.hid (by have := HRM.out; have h2 : S'.WF := (by rw [← hS']; exact HWF.out); have := h2.le; omega)
              rw [hS'] at HA4
              clear hS' HGG HRR HWF
              go_wp2_with fail
              refine (xget_at key HA4.out.m).mono ?_
              rintro r w5 ⟨rfl, hb⟩
              have HA5 := Lib.hid (HA4.out.up hb)
              clear hb HA4
              rw [HG.out.1, HG.out.2]
              have hle := HLE.out
              obtain ⟨M, hM⟩ : ∃ M, S'.L.length = M := ⟨_, rfl⟩
              rw [hM] at hle
              have HLn := Lib.hid (xlen_at HA5.out.m)
              rw [hM] at HLn
              clear hM
              go_wp2_with fail
              refine HLn.out.mono ?_
              rintro r w6 ⟨rfl, rfl⟩
              go_wp2_with fail
              go_roundg (m - (i + 1))
              case rel => exact ⟨i + 1, S', by omega, rfl, by rw [HG.out.1], by rw [HG.out.2], by go_num, HA5.out, HRM.out⟩
              case measure => have := HQ.out; omega
        · go_wp2_with fail
          go_ret
          exact ⟨rfl, HIX.out.old⟩
  · rw [if_neg hnn] at h
    obtain rfl := h
    have HB2 := Lib.hid (below_all HB1.out hb)
    clear hb
    go_wp2_with fail
    go_ret
    exact ⟨rfl, HB2.out⟩
end Go.Proofs.Ytekaeeckhfghpaa
