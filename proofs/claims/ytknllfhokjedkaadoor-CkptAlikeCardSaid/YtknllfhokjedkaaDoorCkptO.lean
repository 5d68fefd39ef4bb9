/-
  platelayerlaw06.CkptAlike answers true.
-/
import Derived.Test.YtknllfhokjedkaaDoorCkptM
namespace Go.Proofs.YtknllfhokjedkaaDoor
open Go.RowKit

def KeptA (w : World) (cc cd : List Value) (A A2 : Option Addr) (dir dir2 : List Int) (v1 v2 : Value) (L1 L2 : List (List Int)) (u : World) : Prop :=
  Below w.heap.size w u ∧ Blk u w.heap.size 27 cc ∧ Blk u (w.heap.size + 1) 27 cd ∧ RdV u u.heap.size A (u32s dir) ∧ RdV u u.heap.size A2 (u32s dir2) ∧ RowsAt u v1 L1 ∧ RowsAt u v2 L2
theorem KeptA.up {w : World} {cc cd : List Value} {A A2 : Option Addr} {dir dir2 : List Int} {v1 v2 : Value} {L1 L2 : List (List Int)} {a u : World} (h : KeptA w cc cd A A2 dir dir2 v1 v2 L1 L2 a) (hb : Below a.heap.size a u) : KeptA w cc cd A A2 dir dir2 v1 v2 L1 L2 u := by
  obtain ⟨h1, h2, h3, h4, h5, h6, h7⟩ := h
  exact ⟨below_all h1 hb, h2.up hb (lt_of_block h2), h3.up hb (lt_of_block h3), h4.up hb, h5.up hb, h6.up hb, h7.up hb⟩
theorem sameC_comm (nu se sq z p b : Int) (dir : List Int) (nu2 se2 sq2 z2 p2 b2 : Int) (dir2 : List Int) : sameC nu2 se2 sq2 z2 p2 b2 dir2 nu se sq z p b dir = sameC nu se sq z p b dir nu2 se2 sq2 z2 p2 b2 dir2 := by
  simp only [sameC, eq_comm]
theorem sameC_blocks {nu se sq z p b nu2 se2 sq2 z2 p2 b2 : Int} {dir dir2 : List Int} (h : rightC z p b dir.length = true) (hw : Words (nu :: se :: sq :: dir)) (h2 : rightC z2 p2 b2 dir2.length = true) (hw2 : Words (nu2 :: se2 :: sq2 :: dir2)) :
    decide (blocksC nu se sq z p b dir = blocksC nu2 se2 sq2 z2 p2 b2 dir2) = sameC nu se sq z p b dir nu2 se2 sq2 z2 p2 b2 dir2 := by
  rw [Bool.eq_iff_iff, decide_eq_true_iff, blocks_same h (words4 hw) h2 (words4 hw2)]
  unfold sameC
  simp only [Bool.and_eq_true, decide_eq_true_eq, and_assoc]

theorem kalike_no1 {w : World} (hg : Gl w) {A A2 : Option Addr} {n cc n2 cc2 : Nat} (nu se sq z p b nu2 se2 sq2 z2 p2 b2 : Int) (h1 : rightC z p b n = false) : Calls Tryd.prog 6 #[kV nu se sq z p b (.slice A n cc), kV nu2 se2 sq2 z2 p2 b2 (.slice A2 n2 cc2)] w (TrueB w) := by
  have hal := ((Below.refl w.heap.size w).alloc (Nat.le_refl _) (.cells (kCells nu se sq z p b (.slice A n cc)) 27)).alloc (by simp) (.cells (kCells nu2 se2 sq2 z2 p2 b2 (.slice A2 n2 cc2)) 27)
  have HC1 : Hid (Blk ((w.alloc (.cells (kCells nu se sq z p b (.slice A n cc)) 27)).alloc (.cells (kCells nu2 se2 sq2 z2 p2 b2 (.slice A2 n2 cc2)) 27)) w.heap.size 27 (kList nu se sq z p b (.slice A n cc))) := Lib.hid ((blk_new w (kList nu se sq z p b (.slice A n cc)) 27).up (Below.alloc (Below.refl _ _) (Nat.le_refl _) _) (by simp))
  have HD1 : Hid (Blk ((w.alloc (.cells (kCells nu se sq z p b (.slice A n cc)) 27)).alloc (.cells (kCells nu2 se2 sq2 z2 p2 b2 (.slice A2 n2 cc2)) 27)) (w.heap.size + 1) 27 (kList nu2 se2 sq2 z2 p2 b2 (.slice A2 n2 cc2))) := Lib.hid (by
    have := blk_new (w.alloc (.cells (kCells nu se sq z p b (.slice A n cc)) 27)) (kList nu2 se2 sq2 z2 p2 b2 (.slice A2 n2 cc2)) 27
    rwa [World.size_alloc] at this)
  have HB1 := Lib.hid hal
  have HG := Lib.hid hg
  clear hg hal
  go_enter Tryd.func6, Tryd.ntmps6
  go_wp2_with fail
  refine (kawake_true (HG.out.below HB1.out)).mono ?_
  rintro r w1 ⟨rfl, hb⟩
  have HB2 := Lib.hid (HB1.out.trans (hb.mono HB1.out.size))
  have HC2 := Lib.hid (HC1.out.up hb (lt_of_block HC1.out))
  have HD2 := Lib.hid (HD1.out.up hb (lt_of_block HD1.out))
  clear hb HB1 HC1 HD1
  have a0 : w1.cell? ⟨w.heap.size, 0, none⟩ = some (.int .u32 nu) := HC2.out.cell 0 (by simp)
  have a1 : w1.cell? ⟨w.heap.size, 1, none⟩ = some (.int .u32 se) := HC2.out.cell 1 (by simp)
  have a2 : w1.cell? ⟨w.heap.size, 2, none⟩ = some (.int .u32 sq) := HC2.out.cell 2 (by simp)
  have a3 : w1.cell? ⟨w.heap.size, 3, none⟩ = some (.int .i64 z) := HC2.out.cell 3 (by simp)
  have a4 : w1.cell? ⟨w.heap.size, 4, none⟩ = some (.int .i64 p) := HC2.out.cell 4 (by simp)
  have a5 : w1.cell? ⟨w.heap.size, 5, none⟩ = some (.int .i64 b) := HC2.out.cell 5 (by simp)
  have a6 : w1.cell? ⟨w.heap.size, 6, none⟩ = some (.slice A n cc) := HC2.out.cell 6 (by simp)
  go_wp2_with fail
  refine (own_is nu se sq z p b A n cc w1).mono ?_
  rintro r w2 ⟨rfl, hb⟩
  have HB3 := Lib.hid (HB2.out.trans (hb.mono HB2.out.size))
  have HC3 := Lib.hid (HC2.out.up hb (lt_of_block HC2.out))
  have HD3 := Lib.hid (HD2.out.up hb (lt_of_block HD2.out))
  clear hb HB2 HC2 HD2 a0 a1 a2 a3 a4 a5 a6
  go_wp2_with fail
  refine (rkright_is nu se sq z p b A n cc w2).mono ?_
  rintro r w3 ⟨rfl, hb⟩
  have HB4 := Lib.hid (HB3.out.trans (hb.mono HB3.out.size))
  have HC4 := Lib.hid (HC3.out.up hb (lt_of_block HC3.out))
  have HD4 := Lib.hid (HD3.out.up hb (lt_of_block HD3.out))
  clear hb HB3 HC3 HD3
  rw [h1]
  go_wp2_with fail
  go_ret
  exact ⟨rfl, HB4.out⟩
theorem kalike_no2 {w : World} (hg : Gl w) {A A2 : Option Addr} {n cc n2 cc2 : Nat} (nu se sq z p b nu2 se2 sq2 z2 p2 b2 : Int) (h1 : rightC z p b n = true) (h2 : rightC z2 p2 b2 n2 = false) : Calls Tryd.prog 6 #[kV nu se sq z p b (.slice A n cc), kV nu2 se2 sq2 z2 p2 b2 (.slice A2 n2 cc2)] w (TrueB w) := by
  have hal := ((Below.refl w.heap.size w).alloc (Nat.le_refl _) (.cells (kCells nu se sq z p b (.slice A n cc)) 27)).alloc (by simp) (.cells (kCells nu2 se2 sq2 z2 p2 b2 (.slice A2 n2 cc2)) 27)
  have HC1 : Hid (Blk ((w.alloc (.cells (kCells nu se sq z p b (.slice A n cc)) 27)).alloc (.cells (kCells nu2 se2 sq2 z2 p2 b2 (.slice A2 n2 cc2)) 27)) w.heap.size 27 (kList nu se sq z p b (.slice A n cc))) := Lib.hid ((blk_new w (kList nu se sq z p b (.slice A n cc)) 27).up (Below.alloc (Below.refl _ _) (Nat.le_refl _) _) (by simp))
  have HD1 : Hid (Blk ((w.alloc (.cells (kCells nu se sq z p b (.slice A n cc)) 27)).alloc (.cells (kCells nu2 se2 sq2 z2 p2 b2 (.slice A2 n2 cc2)) 27)) (w.heap.size + 1) 27 (kList nu2 se2 sq2 z2 p2 b2 (.slice A2 n2 cc2))) := Lib.hid (by
    have := blk_new (w.alloc (.cells (kCells nu se sq z p b (.slice A n cc)) 27)) (kList nu2 se2 sq2 z2 p2 b2 (.slice A2 n2 cc2)) 27
    rwa [World.size_alloc] at this)
  have HB1 := Lib.hid hal
  have HG := Lib.hid hg
  clear hg hal
  go_enter Tryd.func6, Tryd.ntmps6
  go_wp2_with fail
  refine (kawake_true (HG.out.below HB1.out)).mono ?_
  rintro r w1 ⟨rfl, hb⟩
  have HB2 := Lib.hid (HB1.out.trans (hb.mono HB1.out.size))
  have HC2 := Lib.hid (HC1.out.up hb (lt_of_block HC1.out))
  have HD2 := Lib.hid (HD1.out.up hb (lt_of_block HD1.out))
  clear hb HB1 HC1 HD1
  have a0 : w1.cell? ⟨w.heap.size, 0, none⟩ = some (.int .u32 nu) := HC2.out.cell 0 (by simp)
  have a1 : w1.cell? ⟨w.heap.size, 1, none⟩ = some (.int .u32 se) := HC2.out.cell 1 (by simp)
  have a2 : w1.cell? ⟨w.heap.size, 2, none⟩ = some (.int .u32 sq) := HC2.out.cell 2 (by simp)
  have a3 : w1.cell? ⟨w.heap.size, 3, none⟩ = some (.int .i64 z) := HC2.out.cell 3 (by simp)
  have a4 : w1.cell? ⟨w.heap.size, 4, none⟩ = some (.int .i64 p) := HC2.out.cell 4 (by simp)
  have a5 : w1.cell? ⟨w.heap.size, 5, none⟩ = some (.int .i64 b) := HC2.out.cell 5 (by simp)
  have a6 : w1.cell? ⟨w.heap.size, 6, none⟩ = some (.slice A n cc) := HC2.out.cell 6 (by simp)
  go_wp2_with fail
  refine (own_is nu se sq z p b A n cc w1).mono ?_
  rintro r w2 ⟨rfl, hb⟩
  have HB3 := Lib.hid (HB2.out.trans (hb.mono HB2.out.size))
  have HC3 := Lib.hid (HC2.out.up hb (lt_of_block HC2.out))
  have HD3 := Lib.hid (HD2.out.up hb (lt_of_block HD2.out))
  clear hb HB2 HC2 HD2 a0 a1 a2 a3 a4 a5 a6
  go_wp2_with fail
  refine (rkright_is nu se sq z p b A n cc w2).mono ?_
  rintro r w3 ⟨rfl, hb⟩
  have HB4 := Lib.hid (HB3.out.trans (hb.mono HB3.out.size))
  have HC4 := Lib.hid (HC3.out.up hb (lt_of_block HC3.out))
  have HD4 := Lib.hid (HD3.out.up hb (lt_of_block HD3.out))
  clear hb HB3 HC3 HD3
  rw [h1]
  have d0 : w3.cell? ⟨w.heap.size + 1, 0, none⟩ = some (.int .u32 nu2) := HD4.out.cell 0 (by simp)
  have d1 : w3.cell? ⟨w.heap.size + 1, 1, none⟩ = some (.int .u32 se2) := HD4.out.cell 1 (by simp)
  have d2 : w3.cell? ⟨w.heap.size + 1, 2, none⟩ = some (.int .u32 sq2) := HD4.out.cell 2 (by simp)
  have d3 : w3.cell? ⟨w.heap.size + 1, 3, none⟩ = some (.int .i64 z2) := HD4.out.cell 3 (by simp)
  have d4 : w3.cell? ⟨w.heap.size + 1, 4, none⟩ = some (.int .i64 p2) := HD4.out.cell 4 (by simp)
  have d5 : w3.cell? ⟨w.heap.size + 1, 5, none⟩ = some (.int .i64 b2) := HD4.out.cell 5 (by simp)
  have d6 : w3.cell? ⟨w.heap.size + 1, 6, none⟩ = some (.slice A2 n2 cc2) := HD4.out.cell 6 (by simp)
  go_wp2_with fail
  refine (own_is nu2 se2 sq2 z2 p2 b2 A2 n2 cc2 w3).mono ?_
  rintro r w4 ⟨rfl, hb⟩
  have HB5 := Lib.hid (HB4.out.trans (hb.mono HB4.out.size))
  have HC5 := Lib.hid (HC4.out.up hb (lt_of_block HC4.out))
  have HD5 := Lib.hid (HD4.out.up hb (lt_of_block HD4.out))
  clear hb HB4 HC4 HD4 d0 d1 d2 d3 d4 d5 d6
  go_wp2_with fail
  refine (rkright_is nu2 se2 sq2 z2 p2 b2 A2 n2 cc2 w4).mono ?_
  rintro r w5 ⟨rfl, hb⟩
  have HB6 := Lib.hid (HB5.out.trans (hb.mono HB5.out.size))
  have HC6 := Lib.hid (HC5.out.up hb (lt_of_block HC5.out))
  have HD6 := Lib.hid (HD5.out.up hb (lt_of_block HD5.out))
  clear hb HB5 HC5 HD5
  rw [h2]
  go_wp2_with fail
  go_ret
  exact ⟨rfl, HB6.out⟩

set_option maxHeartbeats 4000000 in
set_option maxRecDepth 100000 in
theorem kalike_true {w : World} (hg : Gl w) {A A2 : Option Addr} {n cc n2 cc2 : Nat} (nu se sq z p b nu2 se2 sq2 z2 p2 b2 : Int) {dir dir2 : List Int} (h1 : rightC z p b n = true) (h2 : rightC z2 p2 b2 n2 = true) (hl : dir.length = n) (hl2 : dir2.length = n2) (hw : Words (nu :: se :: sq :: dir)) (hw2 : Words (nu2 :: se2 :: sq2 :: dir2)) (hr : RdV w w.heap.size A (u32s dir)) (hr2 : RdV w w.heap.size A2 (u32s dir2)) (hz : Wide z ∧ Wide p ∧ Wide b) (hz2 : Wide z2 ∧ Wide p2 ∧ Wide b2) : Calls Tryd.prog 6 #[kV nu se sq z p b (.slice A n cc), kV nu2 se2 sq2 z2 p2 b2 (.slice A2 n2 cc2)] w (TrueB w) := by
  have hn := right_bd h1
  have hn2 := right_bd h2
  have hm : n ≤ 16 := by omega
  have hm2 : n2 ≤ 16 := by omega
  have HBK := Lib.hid (sameC_blocks (by rw [hl]; exact h1) hw (by rw [hl2]; exact h2) hw2)
  have hbb := blocks_bd nu se sq z p b dir
  rw [hl, if_pos h1] at hbb
  have HBB := Lib.hid hbb
  have HL := Lib.hid hl
  have HL2 := Lib.hid hl2
  have HW := Lib.hid (And.intro hw hw2)
  have HRR := Lib.hid (And.intro hr hr2)
  have HZ := Lib.hid (And.intro hz hz2)
  clear hn hn2 hl hl2 hw hw2 hr hr2 hz hz2 hbb
  have hal := ((Below.refl w.heap.size w).alloc (Nat.le_refl _) (.cells (kCells nu se sq z p b (.slice A n cc)) 27)).alloc (by simp) (.cells (kCells nu2 se2 sq2 z2 p2 b2 (.slice A2 n2 cc2)) 27)
  have HC1 : Hid (Blk ((w.alloc (.cells (kCells nu se sq z p b (.slice A n cc)) 27)).alloc (.cells (kCells nu2 se2 sq2 z2 p2 b2 (.slice A2 n2 cc2)) 27)) w.heap.size 27 (kList nu se sq z p b (.slice A n cc))) := Lib.hid ((blk_new w (kList nu se sq z p b (.slice A n cc)) 27).up (Below.alloc (Below.refl _ _) (Nat.le_refl _) _) (by simp))
  have HD1 : Hid (Blk ((w.alloc (.cells (kCells nu se sq z p b (.slice A n cc)) 27)).alloc (.cells (kCells nu2 se2 sq2 z2 p2 b2 (.slice A2 n2 cc2)) 27)) (w.heap.size + 1) 27 (kList nu2 se2 sq2 z2 p2 b2 (.slice A2 n2 cc2))) := Lib.hid (by
    have := blk_new (w.alloc (.cells (kCells nu se sq z p b (.slice A n cc)) 27)) (kList nu2 se2 sq2 z2 p2 b2 (.slice A2 n2 cc2)) 27
    rwa [World.size_alloc] at this)
  have HB1 := Lib.hid hal
  have HG := Lib.hid hg
  clear hg hal
  go_enter Tryd.func6, Tryd.ntmps6
  go_wp2_with fail
  refine (kawake_true (HG.out.below HB1.out)).mono ?_
  rintro r w1 ⟨rfl, hb⟩
  have HB2 := Lib.hid (HB1.out.trans (hb.mono HB1.out.size))
  have HC2 := Lib.hid (HC1.out.up hb (lt_of_block HC1.out))
  have HD2 := Lib.hid (HD1.out.up hb (lt_of_block HD1.out))
  clear hb HB1 HC1 HD1
  have a0 : w1.cell? ⟨w.heap.size, 0, none⟩ = some (.int .u32 nu) := HC2.out.cell 0 (by simp)
  have a1 : w1.cell? ⟨w.heap.size, 1, none⟩ = some (.int .u32 se) := HC2.out.cell 1 (by simp)
  have a2 : w1.cell? ⟨w.heap.size, 2, none⟩ = some (.int .u32 sq) := HC2.out.cell 2 (by simp)
  have a3 : w1.cell? ⟨w.heap.size, 3, none⟩ = some (.int .i64 z) := HC2.out.cell 3 (by simp)
  have a4 : w1.cell? ⟨w.heap.size, 4, none⟩ = some (.int .i64 p) := HC2.out.cell 4 (by simp)
  have a5 : w1.cell? ⟨w.heap.size, 5, none⟩ = some (.int .i64 b) := HC2.out.cell 5 (by simp)
  have a6 : w1.cell? ⟨w.heap.size, 6, none⟩ = some (.slice A n cc) := HC2.out.cell 6 (by simp)
  go_wp2_with fail
  refine (own_is nu se sq z p b A n cc w1).mono ?_
  rintro r w2 ⟨rfl, hb⟩
  have HB3 := Lib.hid (HB2.out.trans (hb.mono HB2.out.size))
  have HC3 := Lib.hid (HC2.out.up hb (lt_of_block HC2.out))
  have HD3 := Lib.hid (HD2.out.up hb (lt_of_block HD2.out))
  clear hb HB2 HC2 HD2 a0 a1 a2 a3 a4 a5 a6
  go_wp2_with fail
  refine (rkright_is nu se sq z p b A n cc w2).mono ?_
  rintro r w3 ⟨rfl, hb⟩
  have HB4 := Lib.hid (HB3.out.trans (hb.mono HB3.out.size))
  have HC4 := Lib.hid (HC3.out.up hb (lt_of_block HC3.out))
  have HD4 := Lib.hid (HD3.out.up hb (lt_of_block HD3.out))
  clear hb HB3 HC3 HD3
  rw [h1]
  have d0 : w3.cell? ⟨w.heap.size + 1, 0, none⟩ = some (.int .u32 nu2) := HD4.out.cell 0 (by simp)
  have d1 : w3.cell? ⟨w.heap.size + 1, 1, none⟩ = some (.int .u32 se2) := HD4.out.cell 1 (by simp)
  have d2 : w3.cell? ⟨w.heap.size + 1, 2, none⟩ = some (.int .u32 sq2) := HD4.out.cell 2 (by simp)
  have d3 : w3.cell? ⟨w.heap.size + 1, 3, none⟩ = some (.int .i64 z2) := HD4.out.cell 3 (by simp)
  have d4 : w3.cell? ⟨w.heap.size + 1, 4, none⟩ = some (.int .i64 p2) := HD4.out.cell 4 (by simp)
  have d5 : w3.cell? ⟨w.heap.size + 1, 5, none⟩ = some (.int .i64 b2) := HD4.out.cell 5 (by simp)
  have d6 : w3.cell? ⟨w.heap.size + 1, 6, none⟩ = some (.slice A2 n2 cc2) := HD4.out.cell 6 (by simp)
  go_wp2_with fail
  refine (own_is nu2 se2 sq2 z2 p2 b2 A2 n2 cc2 w3).mono ?_
  rintro r w4 ⟨rfl, hb⟩
  have HB5 := Lib.hid (HB4.out.trans (hb.mono HB4.out.size))
  have HC5 := Lib.hid (HC4.out.up hb (lt_of_block HC4.out))
  have HD5 := Lib.hid (HD4.out.up hb (lt_of_block HD4.out))
  clear hb HB4 HC4 HD4 d0 d1 d2 d3 d4 d5 d6
  go_wp2_with fail
  refine (rkright_is nu2 se2 sq2 z2 p2 b2 A2 n2 cc2 w4).mono ?_
  rintro r w5 ⟨rfl, hb⟩
  have HB6 := Lib.hid (HB5.out.trans (hb.mono HB5.out.size))
  have HC6 := Lib.hid (HC5.out.up hb (lt_of_block HC5.out))
  have HD6 := Lib.hid (HD5.out.up hb (lt_of_block HD5.out))
  clear hb HB5 HC5 HD5
  rw [h2]
  have a0 : w5.cell? ⟨w.heap.size, 0, none⟩ = some (.int .u32 nu) := HC6.out.cell 0 (by simp)
  have a1 : w5.cell? ⟨w.heap.size, 1, none⟩ = some (.int .u32 se) := HC6.out.cell 1 (by simp)
  have a2 : w5.cell? ⟨w.heap.size, 2, none⟩ = some (.int .u32 sq) := HC6.out.cell 2 (by simp)
  have a3 : w5.cell? ⟨w.heap.size, 3, none⟩ = some (.int .i64 z) := HC6.out.cell 3 (by simp)
  have a4 : w5.cell? ⟨w.heap.size, 4, none⟩ = some (.int .i64 p) := HC6.out.cell 4 (by simp)
  have a5 : w5.cell? ⟨w.heap.size, 5, none⟩ = some (.int .i64 b) := HC6.out.cell 5 (by simp)
  have a6 : w5.cell? ⟨w.heap.size, 6, none⟩ = some (.slice A n cc) := HC6.out.cell 6 (by simp)
  go_wp2_with fail
  have hkb := kblocks_all (c := cc) nu se sq z p b (HRR.out.1.up HB6.out) HL.out HW.out.1 HZ.out.1.1 HZ.out.1.2.1 HZ.out.1.2.2
  rw [if_pos h1, if_pos h1, show errV 0 = Value.nilIface from if_pos rfl] at hkb
  obtain ⟨L1, eL1⟩ : ∃ L, blocksC nu se sq z p b dir = L := ⟨_, rfl⟩
  obtain ⟨L2, eL2⟩ : ∃ L, blocksC nu2 se2 sq2 z2 p2 b2 dir2 = L := ⟨_, rfl⟩
  rw [eL1] at hkb HBK HBB
  rw [eL2] at HBK
  refine hkb.mono ?_
  rintro r w6 ⟨v1, rfl, hv1, hb⟩
  have HB7 := Lib.hid (HB6.out.trans (hb.mono HB6.out.size))
  have HC7 := Lib.hid (HC6.out.up hb (lt_of_block HC6.out))
  have HD7 := Lib.hid (HD6.out.up hb (lt_of_block HD6.out))
  have HV7 := Lib.hid hv1
  clear hb hv1 hkb HB6 HC6 HD6 a0 a1 a2 a3 a4 a5 a6
  have d0 : w6.cell? ⟨w.heap.size + 1, 0, none⟩ = some (.int .u32 nu2) := HD7.out.cell 0 (by simp)
  have d1 : w6.cell? ⟨w.heap.size + 1, 1, none⟩ = some (.int .u32 se2) := HD7.out.cell 1 (by simp)
  have d2 : w6.cell? ⟨w.heap.size + 1, 2, none⟩ = some (.int .u32 sq2) := HD7.out.cell 2 (by simp)
  have d3 : w6.cell? ⟨w.heap.size + 1, 3, none⟩ = some (.int .i64 z2) := HD7.out.cell 3 (by simp)
  have d4 : w6.cell? ⟨w.heap.size + 1, 4, none⟩ = some (.int .i64 p2) := HD7.out.cell 4 (by simp)
  have d5 : w6.cell? ⟨w.heap.size + 1, 5, none⟩ = some (.int .i64 b2) := HD7.out.cell 5 (by simp)
  have d6 : w6.cell? ⟨w.heap.size + 1, 6, none⟩ = some (.slice A2 n2 cc2) := HD7.out.cell 6 (by simp)
  go_wp2_with fail
  have hkb := kblocks_all (c := cc2) nu2 se2 sq2 z2 p2 b2 (HRR.out.2.up HB7.out) HL2.out HW.out.2 HZ.out.2.1 HZ.out.2.2.1 HZ.out.2.2.2
  rw [if_pos h2, if_pos h2, show errV 0 = Value.nilIface from if_pos rfl, eL2] at hkb
  refine hkb.mono ?_
  rintro r w7 ⟨v2, rfl, hv2, hb⟩
  have HKT : Hid (KeptA w (kList nu se sq z p b (.slice A n cc)) (kList nu2 se2 sq2 z2 p2 b2 (.slice A2 n2 cc2)) A A2 dir dir2 v1 v2 L1 L2 w7) := Lib.hid ⟨HB7.out.trans (hb.mono HB7.out.size), HC7.out.up hb (lt_of_block HC7.out), HD7.out.up hb (lt_of_block HD7.out), HRR.out.1.up (HB7.out.trans (hb.mono HB7.out.size)), HRR.out.2.up (HB7.out.trans (hb.mono HB7.out.size)), HV7.out.up hb, hv2⟩
  clear hb hv2 hkb HB7 HC7 HD7 HV7 d0 d1 d2 d3 d4 d5 d6
  go_wp2_with fail
  refine wp_region_in (KeptA w (kList nu se sq z p b (.slice A n cc)) (kList nu2 se2 sq2 z2 p2 b2 (.slice A2 n2 cc2)) A A2 dir dir2 v1 v2 L1 L2) (KeptA.up HKT.out (Below.refl _ _).drew) (by kernel_rfl) (by kernel_rfl) (fun ne => ?_)
  have a0 : ∀ q : In (KeptA w (kList nu se sq z p b (.slice A n cc)) (kList nu2 se2 sq2 z2 p2 b2 (.slice A2 n2 cc2)) A A2 dir dir2 v1 v2 L1 L2), q.w.cell? ⟨w.heap.size, 0, none⟩ = some (.int .u32 nu) := fun q => q.ok.2.1.cell 0 (by simp)
  have a1 : ∀ q : In (KeptA w (kList nu se sq z p b (.slice A n cc)) (kList nu2 se2 sq2 z2 p2 b2 (.slice A2 n2 cc2)) A A2 dir dir2 v1 v2 L1 L2), q.w.cell? ⟨w.heap.size, 1, none⟩ = some (.int .u32 se) := fun q => q.ok.2.1.cell 1 (by simp)
  have a2 : ∀ q : In (KeptA w (kList nu se sq z p b (.slice A n cc)) (kList nu2 se2 sq2 z2 p2 b2 (.slice A2 n2 cc2)) A A2 dir dir2 v1 v2 L1 L2), q.w.cell? ⟨w.heap.size, 2, none⟩ = some (.int .u32 sq) := fun q => q.ok.2.1.cell 2 (by simp)
  have a3 : ∀ q : In (KeptA w (kList nu se sq z p b (.slice A n cc)) (kList nu2 se2 sq2 z2 p2 b2 (.slice A2 n2 cc2)) A A2 dir dir2 v1 v2 L1 L2), q.w.cell? ⟨w.heap.size, 3, none⟩ = some (.int .i64 z) := fun q => q.ok.2.1.cell 3 (by simp)
  have a4 : ∀ q : In (KeptA w (kList nu se sq z p b (.slice A n cc)) (kList nu2 se2 sq2 z2 p2 b2 (.slice A2 n2 cc2)) A A2 dir dir2 v1 v2 L1 L2), q.w.cell? ⟨w.heap.size, 4, none⟩ = some (.int .i64 p) := fun q => q.ok.2.1.cell 4 (by simp)
  have a5 : ∀ q : In (KeptA w (kList nu se sq z p b (.slice A n cc)) (kList nu2 se2 sq2 z2 p2 b2 (.slice A2 n2 cc2)) A A2 dir dir2 v1 v2 L1 L2), q.w.cell? ⟨w.heap.size, 5, none⟩ = some (.int .i64 b) := fun q => q.ok.2.1.cell 5 (by simp)
  have a6 : ∀ q : In (KeptA w (kList nu se sq z p b (.slice A n cc)) (kList nu2 se2 sq2 z2 p2 b2 (.slice A2 n2 cc2)) A A2 dir dir2 v1 v2 L1 L2), q.w.cell? ⟨w.heap.size, 6, none⟩ = some (.slice A n cc) := fun q => q.ok.2.1.cell 6 (by simp)
  have d0 : ∀ q : In (KeptA w (kList nu se sq z p b (.slice A n cc)) (kList nu2 se2 sq2 z2 p2 b2 (.slice A2 n2 cc2)) A A2 dir dir2 v1 v2 L1 L2), q.w.cell? ⟨w.heap.size + 1, 0, none⟩ = some (.int .u32 nu2) := fun q => q.ok.2.2.1.cell 0 (by simp)
  have d1 : ∀ q : In (KeptA w (kList nu se sq z p b (.slice A n cc)) (kList nu2 se2 sq2 z2 p2 b2 (.slice A2 n2 cc2)) A A2 dir dir2 v1 v2 L1 L2), q.w.cell? ⟨w.heap.size + 1, 1, none⟩ = some (.int .u32 se2) := fun q => q.ok.2.2.1.cell 1 (by simp)
  have d2 : ∀ q : In (KeptA w (kList nu se sq z p b (.slice A n cc)) (kList nu2 se2 sq2 z2 p2 b2 (.slice A2 n2 cc2)) A A2 dir dir2 v1 v2 L1 L2), q.w.cell? ⟨w.heap.size + 1, 2, none⟩ = some (.int .u32 sq2) := fun q => q.ok.2.2.1.cell 2 (by simp)
  have d3 : ∀ q : In (KeptA w (kList nu se sq z p b (.slice A n cc)) (kList nu2 se2 sq2 z2 p2 b2 (.slice A2 n2 cc2)) A A2 dir dir2 v1 v2 L1 L2), q.w.cell? ⟨w.heap.size + 1, 3, none⟩ = some (.int .i64 z2) := fun q => q.ok.2.2.1.cell 3 (by simp)
  have d4 : ∀ q : In (KeptA w (kList nu se sq z p b (.slice A n cc)) (kList nu2 se2 sq2 z2 p2 b2 (.slice A2 n2 cc2)) A A2 dir dir2 v1 v2 L1 L2), q.w.cell? ⟨w.heap.size + 1, 4, none⟩ = some (.int .i64 p2) := fun q => q.ok.2.2.1.cell 4 (by simp)
  have d5 : ∀ q : In (KeptA w (kList nu se sq z p b (.slice A n cc)) (kList nu2 se2 sq2 z2 p2 b2 (.slice A2 n2 cc2)) A A2 dir dir2 v1 v2 L1 L2), q.w.cell? ⟨w.heap.size + 1, 5, none⟩ = some (.int .i64 b2) := fun q => q.ok.2.2.1.cell 5 (by simp)
  have d6 : ∀ q : In (KeptA w (kList nu se sq z p b (.slice A n cc)) (kList nu2 se2 sq2 z2 p2 b2 (.slice A2 n2 cc2)) A A2 dir dir2 v1 v2 L1 L2), q.w.cell? ⟨w.heap.size + 1, 6, none⟩ = some (.slice A2 n2 cc2) := fun q => q.ok.2.2.1.cell 6 (by simp)
  have sX := fun q : In (KeptA w (kList nu se sq z p b (.slice A n cc)) (kList nu2 se2 sq2 z2 p2 b2 (.slice A2 n2 cc2)) A A2 dir dir2 v1 v2 L1 L2) => rows_same q.ok.2.2.2.2.2.1 q.ok.2.2.2.2.2.2 (by have := HBB.out.1; omega) HBB.out.2
  rw [HBK.out] at sX
  have sK := fun q : In (KeptA w (kList nu se sq z p b (.slice A n cc)) (kList nu2 se2 sq2 z2 p2 b2 (.slice A2 n2 cc2)) A A2 dir dir2 v1 v2 L1 L2) => ksame_is (c := cc) (c2 := cc2) nu se sq z p b nu2 se2 sq2 z2 p2 b2 q.ok.2.2.2.1 q.ok.2.2.2.2.1 HL.out HL2.out (by omega) (by omega)
  have sR := fun q : In (KeptA w (kList nu se sq z p b (.slice A n cc)) (kList nu2 se2 sq2 z2 p2 b2 (.slice A2 n2 cc2)) A A2 dir dir2 v1 v2 L1 L2) => ksame_is (c := cc2) (c2 := cc) nu2 se2 sq2 z2 p2 b2 nu se sq z p b q.ok.2.2.2.2.1 q.ok.2.2.2.1 HL2.out HL.out (by omega) (by omega)
  have sS := fun q : In (KeptA w (kList nu se sq z p b (.slice A n cc)) (kList nu2 se2 sq2 z2 p2 b2 (.slice A2 n2 cc2)) A A2 dir dir2 v1 v2 L1 L2) => ksame_is (c := cc) (c2 := cc) nu se sq z p b nu se sq z p b q.ok.2.2.2.1 q.ok.2.2.2.1 HL.out HL.out (by omega) (by omega)
  rw [sameC_comm] at sR
  rw [sameC_self] at sS
  obtain ⟨t, ht⟩ : ∃ t, sameC nu se sq z p b dir nu2 se2 sq2 z2 p2 b2 dir2 = t := ⟨_, rfl⟩
  rw [ht] at sX sK sR
  clear ht
  have q1 : (t == t) = true := by simp
  repeat (go_big_quiet_step (first
    | (go_at_call 16; with_reducible exact In.more KeptA.up (sX _))
    | (go_at_call 21; with_reducible exact In.more KeptA.up (sK _))
    | (go_at_call 21; with_reducible exact In.more KeptA.up (sR _))
    | (go_at_call 21; with_reducible exact In.more KeptA.up (sS _))))
  refine wpQuiet_nil ?_
  intro nq
  have HBN := Lib.hid nq.ok.1
  clear a0 a1 a2 a3 a4 a5 a6 d0 d1 d2 d3 d4 d5 d6 sX sK sR sS
  go_wp2_with fail
  go_ret
  exact ⟨rfl, HBN.out⟩
end Go.Proofs.YtknllfhokjedkaaDoor
