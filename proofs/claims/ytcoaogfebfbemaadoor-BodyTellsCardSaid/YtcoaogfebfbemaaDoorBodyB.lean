/-
  body.OfPlaces and OfTrim.
-/
import Derived.Test.YtcoaogfebfbemaaDoorBodyA
namespace Go.Proofs.YtcoaogfebfbemaaDoor
open Go.RowKit

theorem blk_zeros (w : World) (k : Nat) : Blk8 (w.alloc (zerosObj k)) w.heap.size (List.replicate k 0) := by
  unfold Blk8 Blk
  rw [heap_alloc_new w _]
  unfold zerosObj
  congr 2
  apply Array.ext
  · rw [size_madeCells]; simp [cellsOf8]
  · intro i h1 h2
    simp [madeCells, Value.cells, cellsOf8, Nat.mod_one]
theorem make16 (w : World) : (Instr.makeSlice 25 (.int .i64 16) (.int .i64 16)).run Tryd.prog w = .ok (.slice (some ⟨w.heap.size, 0, none⟩) 16 16) (w.alloc (zerosObj 16)) := make_zeros 16 (by omega) w

set_option maxHeartbeats 2000000 in
theorem of_is (a b c d : Int) (w : World) (h : Words [a, b, c, d]) : Calls Tryd.prog 11 #[pV a b c d] w (RowIs (flat [a, b, c, d]) 16 w) := by
  have HW := Lib.hid h
  clear h
  have HB0 := Lib.hid ((Below.refl w.heap.size w).alloc (Nat.le_refl _) (.cells #[.int .u32 a, .int .u32 b, .int .u32 c, .int .u32 d] 24))
  have HH0 : Hid (Blk (w.alloc (.cells #[.int .u32 a, .int .u32 b, .int .u32 c, .int .u32 d] 24)) w.heap.size 24 (u32s [a, b, c, d])) := Lib.hid (heap_alloc_new w _)
  have hmk := make16
  go_enter Tryd.func11, Tryd.ntmps11
  go_wp2_with fail
  obtain ⟨w1, hw1⟩ : ∃ w1 : World, w1 = w.alloc (.cells #[.int .u32 a, .int .u32 b, .int .u32 c, .int .u32 d] 24) := ⟨_, rfl⟩
  have hz1 : w1.heap.size = w.heap.size + 1 := by rw [hw1]; simp
  rw [← hw1] at HB0 HH0 ⊢
  clear hw1 hmk
  have hs1 := lt_of_block HH0.out
  have HZ := Lib.hid (blk_zeros w1 16)
  have HB1 := Lib.hid (HB0.out.alloc HB0.out.size (zerosObj 16))
  have HH1 := Lib.hid (HH0.out.up (Below.alloc (Below.refl w1.heap.size w1) (Nat.le_refl _) (zerosObj 16)) hs1)
  rw [hz1] at HZ
  clear hz1
  obtain ⟨w2, hw2⟩ : ∃ w2 : World, w2 = w1.alloc (zerosObj 16) := ⟨_, rfl⟩
  rw [← hw2] at HZ HB1 HH1 ⊢
  clear hw2
  obtain ⟨ns, hns⟩ : ∃ ns, [a, b, c, d] = ns := ⟨_, rfl⟩
  have HNS := Lib.hid hns
  have hl : ns.length = 4 := by rw [← hns]; rfl
  have hfl : (flat ns).length = 16 := by rw [flat_len, hl]
  obtain ⟨xs, hxs⟩ : ∃ xs, List.replicate 16 (0 : Int) = xs := ⟨_, rfl⟩
  have hxl : xs.length = 16 := by rw [← hxs]; simp
  rw [hxs] at HZ
  rw [hns] at HH1 HW ⊢
  clear hns hxs HB0 HH0
  go_loopg [7] 4 (fun k x wr => ∃ i : Nat, i ≤ 4 ∧ k = 4 - i ∧ x = .int .i64 i ∧ w2.grownBy wr (some (w.heap.size + 1)) ∧ Blk8 wr (w.heap.size + 1) (putB xs 0 ((flat ns).take (4 * i))))
  case atStart => exact ⟨0, by omega, by omega, rfl, World.grownBy.refl _ _, by rw [Nat.mul_zero, List.take_zero, putB_nil]; exact HZ.out⟩
  case round =>
    obtain ⟨i, hi, hk, rfl, hgr, hbl⟩ := hrel
    have HK := Lib.hid hk
    have HGR := Lib.hid hgr
    have HBL := Lib.hid hbl
    clear hk hgr hbl
    by_cases hlt : i < 4
    · have hln : i < ns.length := by omega
      have HC : Hid (∀ wr, w2.grownBy wr (some (w.heap.size + 1)) → wr.cell? ⟨w.heap.size, i, none⟩ = some (.int .u32 ns[i])) := Lib.hid (fun wr hg => by
        have c0 := HH1.out.cell i (by rw [u32s_len]; omega)
        rw [show (u32s ns)[i]'(by rw [u32s_len]; omega) = .int .u32 ns[i] by simp [u32s]] at c0
        exact hg.cell c0 (fun e => by have := Option.some.inj e; dsimp only at this; omega))
      obtain ⟨n0, n1⟩ := HW.out _ (List.getElem_mem hln)
      have HF := Lib.hid (flat_get ns i hln)
      generalize ns[i] = x at *
      go_wp2_with fail
      obtain ⟨wo, rfl⟩ : ∃ wo : World, wo = wr := ⟨_, rfl⟩
      go_loopg [10] 4 (fun k y wr => ∃ j : Nat, j ≤ 4 ∧ k = 4 - j ∧ y = .int .i64 j ∧ w2.grownBy wr (some (w.heap.size + 1)) ∧ Blk8 wr (w.heap.size + 1) (putB xs 0 ((flat ns).take (4 * i + j))))
      case atStart => exact ⟨0, by omega, by omega, rfl, HGR.out, HBL.out⟩
      case round =>
        clear HGR HBL
        obtain ⟨j, hj, hk, rfl, hgr, hbl⟩ := hrel
        have HK2 := Lib.hid hk
        have HGR := Lib.hid hgr
        have HBL := Lib.hid hbl
        clear hk hgr hbl
        by_cases hlt2 : j < 4
        · have hj4 : j = 0 ∨ j = 1 ∨ j = 2 ∨ j = 3 := by omega
          have c0 := HC.out wr HGR.out
          clear hj hlt2
          rcases hj4 with rfl | rfl | rfl | rfl
          · obtain ⟨t, ht⟩ : ∃ t : Nat, (i : Int) * 4 = (t : Int) := ⟨4 * i + 0, by omega⟩
            have ht2 : t = 4 * i + 0 := by omega
            have f1 := Blk.free HBL.out t
            obtain ⟨old, f2⟩ : ∃ old, wr.cell? ⟨w.heap.size + 1, t, none⟩ = some old := ⟨_, Blk.cell HBL.out t (by rw [cells8_len, putB_len (by simp; omega)]; omega)⟩
            have HP : Hid (Blk8 (wr.setCell ⟨w.heap.size + 1, t, none⟩ (.int .u8 (x % 256))) (w.heap.size + 1) (putB xs 0 ((flat ns).take (4 * i + 0 + 1)))) := Lib.hid (by
              rw [← lay_step HF.out.1 (by omega), show 0 + 4 * i = t by omega]
              exact Blk8.put HBL.out t _)
            have htn : t < 16 := by omega
            clear ht2
            go_wp2_with fail
            go_roundg (4 - (0 + 1))
            case rel => exact ⟨0 + 1, by omega, rfl, by go_num, grown_put HGR.out _ _, HP.out⟩
            case measure => have := HK2.out; omega
          · obtain ⟨t, ht⟩ : ∃ t : Nat, (i : Int) * 4 + 1 = (t : Int) := ⟨4 * i + 1, by omega⟩
            have ht2 : t = 4 * i + 1 := by omega
            have f1 := Blk.free HBL.out t
            obtain ⟨old, f2⟩ : ∃ old, wr.cell? ⟨w.heap.size + 1, t, none⟩ = some old := ⟨_, Blk.cell HBL.out t (by rw [cells8_len, putB_len (by simp; omega)]; omega)⟩
            have HP : Hid (Blk8 (wr.setCell ⟨w.heap.size + 1, t, none⟩ (.int .u8 (x / 256 % 256))) (w.heap.size + 1) (putB xs 0 ((flat ns).take (4 * i + 1 + 1)))) := Lib.hid (by
              rw [← lay_step HF.out.2.1 (by omega), show 0 + (4 * i + 1) = t by omega]
              exact Blk8.put HBL.out t _)
            have htn : t < 16 := by omega
            clear ht2
            go_wp2_with fail
            go_roundg (4 - (1 + 1))
            case rel => exact ⟨1 + 1, by omega, rfl, by go_num, grown_put HGR.out _ _, HP.out⟩
            case measure => have := HK2.out; omega
          · obtain ⟨t, ht⟩ : ∃ t : Nat, (i : Int) * 4 + 2 = (t : Int) := ⟨4 * i + 2, by omega⟩
            have ht2 : t = 4 * i + 2 := by omega
            have f1 := Blk.free HBL.out t
            obtain ⟨old, f2⟩ : ∃ old, wr.cell? ⟨w.heap.size + 1, t, none⟩ = some old := ⟨_, Blk.cell HBL.out t (by rw [cells8_len, putB_len (by simp; omega)]; omega)⟩
            have HP : Hid (Blk8 (wr.setCell ⟨w.heap.size + 1, t, none⟩ (.int .u8 (x / 65536 % 256))) (w.heap.size + 1) (putB xs 0 ((flat ns).take (4 * i + 2 + 1)))) := Lib.hid (by
              rw [← lay_step HF.out.2.2.1 (by omega), show 0 + (4 * i + 2) = t by omega]
              exact Blk8.put HBL.out t _)
            have htn : t < 16 := by omega
            clear ht2
            go_wp2_with fail
            go_roundg (4 - (2 + 1))
            case rel => exact ⟨2 + 1, by omega, rfl, by go_num, grown_put HGR.out _ _, HP.out⟩
            case measure => have := HK2.out; omega
          · obtain ⟨t, ht⟩ : ∃ t : Nat, (i : Int) * 4 + 3 = (t : Int) := ⟨4 * i + 3, by omega⟩
            have ht2 : t = 4 * i + 3 := by omega
            have f1 := Blk.free HBL.out t
            obtain ⟨old, f2⟩ : ∃ old, wr.cell? ⟨w.heap.size + 1, t, none⟩ = some old := ⟨_, Blk.cell HBL.out t (by rw [cells8_len, putB_len (by simp; omega)]; omega)⟩
            have HP : Hid (Blk8 (wr.setCell ⟨w.heap.size + 1, t, none⟩ (.int .u8 (x / 16777216))) (w.heap.size + 1) (putB xs 0 ((flat ns).take (4 * i + 3 + 1)))) := Lib.hid (by
              rw [← lay_step HF.out.2.2.2 (by omega), show x / 16777216 % 256 = x / 16777216 by omega, show 0 + (4 * i + 3) = t by omega]
              exact Blk8.put HBL.out t _)
            have htn : t < 16 := by omega
            clear ht2
            go_wp2_with fail
            go_roundg (4 - (3 + 1))
            case rel => exact ⟨3 + 1, by omega, rfl, by go_num, grown_put HGR.out _ _, HP.out⟩
            case measure => have := HK2.out; omega
        · obtain rfl : j = 4 := by omega
          go_wp2_with fail
          go_roundg (4 - (i + 1))
          case rel => exact ⟨i + 1, by omega, rfl, by go_num, HGR.out, HBL.out⟩
          case measure => have := HK.out; omega
    · obtain rfl : i = 4 := by omega
      go_wp2_with fail
      go_ret
      have hr := HBL.out
      rw [List.take_of_length_le (by omega), putB_all (by omega)] at hr
      rw [HNS.out]
      exact ⟨_, _, rfl, hr.rd 0, Nat.le_refl _, HB1.out.grown HGR.out HB1.out.size (fun j hj => by injection hj; omega)⟩

theorem oft_is (n : Int) (w : World) (h : Word n) : Calls Tryd.prog 13 #[.int .u32 n] w (RowIs (flat [n, 0, 0, 0]) 16 w) := by
  have HW := Lib.hid (Words.four h word0 word0 word0)
  clear h
  go_enter Tryd.func13, Tryd.ntmps13
  go_wp2_with fail
  refine (of_is n 0 0 0 w HW.out).mono ?_
  rintro r w2 ⟨g, c, rfl, hr, hc, hb⟩
  have HR := Lib.hid hr
  have HB := Lib.hid hb
  clear hr hb
  go_wp2_with fail
  go_ret
  exact ⟨g, c, rfl, HR.out, hc, HB.out⟩
end Go.Proofs.YtcoaogfebfbemaaDoor
