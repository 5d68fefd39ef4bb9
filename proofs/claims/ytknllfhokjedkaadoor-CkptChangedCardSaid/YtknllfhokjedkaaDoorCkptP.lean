/-
  platelayerlaw06.CkptChanged answers true.
-/
import Derived.Test.YtknllfhokjedkaaDoorCkptN
import Derived.Deep.Cut
namespace Go.Proofs.YtknllfhokjedkaaDoor
open Go.RowKit

theorem kchanged_no0 {w : World} (hg : Gl w) {A : Option Addr} {n cc : Nat} (nu se sq z p b kb ka x : Int) (h1 : rightC z p b n = false) : Calls Tryd.prog 5 #[kV nu se sq z p b (.slice A n cc), .int .i64 kb, .int .i64 ka, .int .u8 x] w (TrueB w) := by
  have HC1 : Hid (Blk (w.alloc (.cells (kCells nu se sq z p b (.slice A n cc)) 27)) w.heap.size 27 (kList nu se sq z p b (.slice A n cc))) := Lib.hid (blk_new w (kList nu se sq z p b (.slice A n cc)) 27)
  have HB1 := Lib.hid ((Below.refl w.heap.size w).alloc (Nat.le_refl _) (.cells (kCells nu se sq z p b (.slice A n cc)) 27))
  have HG := Lib.hid hg
  clear hg
  go_enter Tryd.func5, Tryd.ntmps5
  go_wp2_with fail
  refine (kawake_true (HG.out.below HB1.out)).mono ?_
  rintro r w1 ⟨rfl, hb⟩
  have HB2 := Lib.hid (HB1.out.trans (hb.mono HB1.out.size))
  have HC2 := Lib.hid (HC1.out.up hb (lt_of_block HC1.out))
  clear hb HB1 HC1
  have a0 : w1.cell? ⟨w.heap.size, 0, none⟩ = some (.int .u32 nu) := HC2.out.cell 0 (by simp)
  have a1 : w1.cell? ⟨w.heap.size, 1, none⟩ = some (.int .u32 se) := HC2.out.cell 1 (by simp)
  have a2 : w1.cell? ⟨w.heap.size, 2, none⟩ = some (.int .u32 sq) := HC2.out.cell 2 (by simp)
  have a3 : w1.cell? ⟨w.heap.size, 3, none⟩ = some (.int .i64 z) := HC2.out.cell 3 (by simp)
  have a4 : w1.cell? ⟨w.heap.size, 4, none⟩ = some (.int .i64 p) := HC2.out.cell 4 (by simp)
  have a5 : w1.cell? ⟨w.heap.size, 5, none⟩ = some (.int .i64 b) := HC2.out.cell 5 (by simp)
  have a6 : w1.cell? ⟨w.heap.size, 6, none⟩ = some (.slice A n cc) := HC2.out.cell 6 (by simp)
  go_wp2_with fail
  refine (own_is nu se sq z p b A n cc w1).mono ?_
  rintro r w2 ⟨rfl, hb⟩
  have HB3 := Lib.hid (HB2.out.trans (hb.mono HB2.out.size))
  have HC3 := Lib.hid (HC2.out.up hb (lt_of_block HC2.out))
  clear hb HB2 HC2 a0 a1 a2 a3 a4 a5 a6
  go_wp2_with fail
  refine (rkright_is nu se sq z p b A n cc w2).mono ?_
  rintro r w3 ⟨rfl, hb⟩
  have HB4 := Lib.hid (HB3.out.trans (hb.mono HB3.out.size))
  have HC4 := Lib.hid (HC3.out.up hb (lt_of_block HC3.out))
  clear hb HB3 HC3
  rw [h1]
  go_wp2_with fail
  go_ret
  exact ⟨rfl, HB4.out⟩
theorem kchanged_no1 {w : World} (hg : Gl w) {A : Option Addr} {n cc : Nat} (nu se sq z p b kb ka x : Int) (h1 : rightC z p b n = true) (h2 : kb < 0) : Calls Tryd.prog 5 #[kV nu se sq z p b (.slice A n cc), .int .i64 kb, .int .i64 ka, .int .u8 x] w (TrueB w) := by
  have HC1 : Hid (Blk (w.alloc (.cells (kCells nu se sq z p b (.slice A n cc)) 27)) w.heap.size 27 (kList nu se sq z p b (.slice A n cc))) := Lib.hid (blk_new w (kList nu se sq z p b (.slice A n cc)) 27)
  have HB1 := Lib.hid ((Below.refl w.heap.size w).alloc (Nat.le_refl _) (.cells (kCells nu se sq z p b (.slice A n cc)) 27))
  have HG := Lib.hid hg
  clear hg
  go_enter Tryd.func5, Tryd.ntmps5
  go_wp2_with fail
  refine (kawake_true (HG.out.below HB1.out)).mono ?_
  rintro r w1 ⟨rfl, hb⟩
  have HB2 := Lib.hid (HB1.out.trans (hb.mono HB1.out.size))
  have HC2 := Lib.hid (HC1.out.up hb (lt_of_block HC1.out))
  clear hb HB1 HC1
  have a0 : w1.cell? ⟨w.heap.size, 0, none⟩ = some (.int .u32 nu) := HC2.out.cell 0 (by simp)
  have a1 : w1.cell? ⟨w.heap.size, 1, none⟩ = some (.int .u32 se) := HC2.out.cell 1 (by simp)
  have a2 : w1.cell? ⟨w.heap.size, 2, none⟩ = some (.int .u32 sq) := HC2.out.cell 2 (by simp)
  have a3 : w1.cell? ⟨w.heap.size, 3, none⟩ = some (.int .i64 z) := HC2.out.cell 3 (by simp)
  have a4 : w1.cell? ⟨w.heap.size, 4, none⟩ = some (.int .i64 p) := HC2.out.cell 4 (by simp)
  have a5 : w1.cell? ⟨w.heap.size, 5, none⟩ = some (.int .i64 b) := HC2.out.cell 5 (by simp)
  have a6 : w1.cell? ⟨w.heap.size, 6, none⟩ = some (.slice A n cc) := HC2.out.cell 6 (by simp)
  go_wp2_with fail
  refine (own_is nu se sq z p b A n cc w1).mono ?_
  rintro r w2 ⟨rfl, hb⟩
  have HB3 := Lib.hid (HB2.out.trans (hb.mono HB2.out.size))
  have HC3 := Lib.hid (HC2.out.up hb (lt_of_block HC2.out))
  clear hb HB2 HC2 a0 a1 a2 a3 a4 a5 a6
  go_wp2_with fail
  refine (rkright_is nu se sq z p b A n cc w2).mono ?_
  rintro r w3 ⟨rfl, hb⟩
  have HB4 := Lib.hid (HB3.out.trans (hb.mono HB3.out.size))
  have HC4 := Lib.hid (HC3.out.up hb (lt_of_block HC3.out))
  clear hb HB3 HC3
  rw [h1]
  go_wp2_with fail
  go_ret
  exact ⟨rfl, HB4.out⟩
theorem kchanged_no2 {w : World} (hg : Gl w) {A : Option Addr} {n cc : Nat} (nu se sq z p b kb ka x : Int) (h1 : rightC z p b n = true) (h2 : 0 ≤ kb) (h3 : ka < 0) : Calls Tryd.prog 5 #[kV nu se sq z p b (.slice A n cc), .int .i64 kb, .int .i64 ka, .int .u8 x] w (TrueB w) := by
  have HC1 : Hid (Blk (w.alloc (.cells (kCells nu se sq z p b (.slice A n cc)) 27)) w.heap.size 27 (kList nu se sq z p b (.slice A n cc))) := Lib.hid (blk_new w (kList nu se sq z p b (.slice A n cc)) 27)
  have HB1 := Lib.hid ((Below.refl w.heap.size w).alloc (Nat.le_refl _) (.cells (kCells nu se sq z p b (.slice A n cc)) 27))
  have HG := Lib.hid hg
  clear hg
  go_enter Tryd.func5, Tryd.ntmps5
  go_wp2_with fail
  refine (kawake_true (HG.out.below HB1.out)).mono ?_
  rintro r w1 ⟨rfl, hb⟩
  have HB2 := Lib.hid (HB1.out.trans (hb.mono HB1.out.size))
  have HC2 := Lib.hid (HC1.out.up hb (lt_of_block HC1.out))
  clear hb HB1 HC1
  have a0 : w1.cell? ⟨w.heap.size, 0, none⟩ = some (.int .u32 nu) := HC2.out.cell 0 (by simp)
  have a1 : w1.cell? ⟨w.heap.size, 1, none⟩ = some (.int .u32 se) := HC2.out.cell 1 (by simp)
  have a2 : w1.cell? ⟨w.heap.size, 2, none⟩ = some (.int .u32 sq) := HC2.out.cell 2 (by simp)
  have a3 : w1.cell? ⟨w.heap.size, 3, none⟩ = some (.int .i64 z) := HC2.out.cell 3 (by simp)
  have a4 : w1.cell? ⟨w.heap.size, 4, none⟩ = some (.int .i64 p) := HC2.out.cell 4 (by simp)
  have a5 : w1.cell? ⟨w.heap.size, 5, none⟩ = some (.int .i64 b) := HC2.out.cell 5 (by simp)
  have a6 : w1.cell? ⟨w.heap.size, 6, none⟩ = some (.slice A n cc) := HC2.out.cell 6 (by simp)
  go_wp2_with fail
  refine (own_is nu se sq z p b A n cc w1).mono ?_
  rintro r w2 ⟨rfl, hb⟩
  have HB3 := Lib.hid (HB2.out.trans (hb.mono HB2.out.size))
  have HC3 := Lib.hid (HC2.out.up hb (lt_of_block HC2.out))
  clear hb HB2 HC2 a0 a1 a2 a3 a4 a5 a6
  go_wp2_with fail
  refine (rkright_is nu se sq z p b A n cc w2).mono ?_
  rintro r w3 ⟨rfl, hb⟩
  have HB4 := Lib.hid (HB3.out.trans (hb.mono HB3.out.size))
  have HC4 := Lib.hid (HC3.out.up hb (lt_of_block HC3.out))
  clear hb HB3 HC3
  rw [h1]
  go_wp2_with fail
  go_ret
  exact ⟨rfl, HB4.out⟩
theorem kchanged_no3 {w : World} (hg : Gl w) {A : Option Addr} {n cc : Nat} (nu se sq z p b kb ka x : Int) (h1 : rightC z p b n = true) (h2 : 0 ≤ kb) (h3 : 0 ≤ ka) (h4 : 16 ≤ ka) : Calls Tryd.prog 5 #[kV nu se sq z p b (.slice A n cc), .int .i64 kb, .int .i64 ka, .int .u8 x] w (TrueB w) := by
  have HC1 : Hid (Blk (w.alloc (.cells (kCells nu se sq z p b (.slice A n cc)) 27)) w.heap.size 27 (kList nu se sq z p b (.slice A n cc))) := Lib.hid (blk_new w (kList nu se sq z p b (.slice A n cc)) 27)
  have HB1 := Lib.hid ((Below.refl w.heap.size w).alloc (Nat.le_refl _) (.cells (kCells nu se sq z p b (.slice A n cc)) 27))
  have HG := Lib.hid hg
  clear hg
  go_enter Tryd.func5, Tryd.ntmps5
  go_wp2_with fail
  refine (kawake_true (HG.out.below HB1.out)).mono ?_
  rintro r w1 ⟨rfl, hb⟩
  have HB2 := Lib.hid (HB1.out.trans (hb.mono HB1.out.size))
  have HC2 := Lib.hid (HC1.out.up hb (lt_of_block HC1.out))
  clear hb HB1 HC1
  have a0 : w1.cell? ⟨w.heap.size, 0, none⟩ = some (.int .u32 nu) := HC2.out.cell 0 (by simp)
  have a1 : w1.cell? ⟨w.heap.size, 1, none⟩ = some (.int .u32 se) := HC2.out.cell 1 (by simp)
  have a2 : w1.cell? ⟨w.heap.size, 2, none⟩ = some (.int .u32 sq) := HC2.out.cell 2 (by simp)
  have a3 : w1.cell? ⟨w.heap.size, 3, none⟩ = some (.int .i64 z) := HC2.out.cell 3 (by simp)
  have a4 : w1.cell? ⟨w.heap.size, 4, none⟩ = some (.int .i64 p) := HC2.out.cell 4 (by simp)
  have a5 : w1.cell? ⟨w.heap.size, 5, none⟩ = some (.int .i64 b) := HC2.out.cell 5 (by simp)
  have a6 : w1.cell? ⟨w.heap.size, 6, none⟩ = some (.slice A n cc) := HC2.out.cell 6 (by simp)
  go_wp2_with fail
  refine (own_is nu se sq z p b A n cc w1).mono ?_
  rintro r w2 ⟨rfl, hb⟩
  have HB3 := Lib.hid (HB2.out.trans (hb.mono HB2.out.size))
  have HC3 := Lib.hid (HC2.out.up hb (lt_of_block HC2.out))
  clear hb HB2 HC2 a0 a1 a2 a3 a4 a5 a6
  go_wp2_with fail
  refine (rkright_is nu se sq z p b A n cc w2).mono ?_
  rintro r w3 ⟨rfl, hb⟩
  have HB4 := Lib.hid (HB3.out.trans (hb.mono HB3.out.size))
  have HC4 := Lib.hid (HC3.out.up hb (lt_of_block HC3.out))
  clear hb HB3 HC3
  rw [h1]
  go_wp2_with fail
  go_ret
  exact ⟨rfl, HB4.out⟩

/-- Rows that may be written to. -/
def Writ (w : World) (base : Nat) (v : Value) (l : List (List Int)) : Prop :=
  ∀ w', Below w.heap.size w w' → ∀ k (hk : k < l.length), ∃ (bA oA : Nat) (c b o d : Nat), v = .slice (some ⟨bA, oA, none⟩) l.length c ∧ w'.cell? ⟨bA, oA + k, none⟩ = some (.slice (some ⟨b, o, none⟩) l[k].length d) ∧ base ≤ b ∧ b < w.heap.size ∧
    ∀ t (ht : t < l[k].length), w'.cell? ⟨b, o + t, none⟩ = some (.int .u8 l[k][t]) ∧ w'.frozen? ⟨b, o + t, none⟩ = false ∧ ∀ x : Int, RowsAt (w'.setCell ⟨b, o + t, none⟩ (.int .u8 x)) v (l.set k (l[k].set t x))
theorem RowsAt.take {w : World} {A : Option Addr} {m c : Nat} {l : List (List Int)} (h : RowsAt w (.slice A l.length c) l) (hm : m ≤ l.length) : RowsAt w (.slice A m c) (l.take m) := by
  obtain ⟨A', c', vs, e, hc, hv, hr⟩ := h
  injection e with e1 _ e3
  subst e1 e3
  refine ⟨A, c, vs.take m, by rw [List.length_take, Nat.min_eq_left hm], by rw [List.length_take]; omega, ?_, ?_⟩
  · intro hn
    rw [List.length_take] at hn
    obtain ⟨b, o, hA, hlt, hcell⟩ := hv (by omega)
    refine ⟨b, o, hA, hlt, fun i hi => ?_⟩
    rw [List.length_take] at hi
    rw [List.getElem_take]
    exact hcell i (by omega)
  · refine ⟨by rw [List.length_take, List.length_take, hr.1], fun i h1 h2 => ?_⟩
    rw [List.length_take] at h1 h2
    rw [List.getElem_take, List.getElem_take]
    exact hr.2 i (by omega) (by omega)
theorem Rows16.writ {w : World} {base g cap : Nat} {ys : List Nat} {l : List (List Int)} (h : Rows16 w base g cap ys l) : Writ w base (.slice (some ⟨g, 0, none⟩) l.length cap) l := by
  intro w' hb k hk
  have h' := h.up hb
  have hk1 : k < ys.length := by rw [h.len]; exact hk
  have h16 := h.six _ (List.getElem_mem hk)
  have hbl := (h'.row k hk1 hk).1
  refine ⟨g, 0, cap, ys[k], 0, 16, rfl, ?_, (h.row k hk1 hk).2, lt_of_block (h.row k hk1 hk).1, fun t ht => ⟨?_, ?_, fun x => ?_⟩⟩
  · have := h'.own.cell k (by rw [List.length_map]; exact hk1)
    rw [Nat.zero_add, this, List.getElem_map, h16]
    rfl
  · rw [Nat.zero_add, Blk.cell hbl t (by rw [cells8_len]; exact ht)]
    simp [cellsOf8]
  · rw [Nat.zero_add]
    exact Blk.free hbl t
  · rw [Nat.zero_add]
    exact (h'.set hk1 hk x).at (by rw [List.length_set])
theorem kblocks_own {A : Option Addr} {dir : List Int} {n c : Nat} {w : World} (nu se sq z p b : Int) (hr : RdV w w.heap.size A (u32s dir)) (hl : dir.length = n) (hw : Words (nu :: se :: sq :: dir)) (_hz : Wide z) (_hp : Wide p) (_hb : Wide b) (h : rightC z p b n = true) :
    Calls Tryd.prog 9 #[kV nu se sq z p b (.slice A n c)] w (fun r w' => ∃ v, r = .returned (.tuple #[v, .nilIface]) ∧ RowsAt w' v (blocksC nu se sq z p b dir) ∧ Writ w' w.heap.size v (blocksC nu se sq z p b dir) ∧ Below w.heap.size w w') := by
  refine (kblocks_ok nu se sq z p b hr hl hw h).mono ?_
  rintro r w' ⟨g, cap, ys, rfl, hrw, hb⟩
  exact ⟨_, rfl, hrw.at rfl, hrw.writ, hb⟩

theorem kchanged_far {w : World} (hg : Gl w) {A : Option Addr} {n cc : Nat} (nu se sq z p b kb ka x : Int) {dir : List Int} (hr : RdV w w.heap.size A (u32s dir)) (hl : dir.length = n) (hw : Words (nu :: se :: sq :: dir)) (hz : Wide z ∧ Wide p ∧ Wide b) (h1 : rightC z p b n = true) (h2 : 0 ≤ kb) (h3 : 0 ≤ ka) (h4 : ka < 16) (h5 : manyC b ≤ kb) : Calls Tryd.prog 5 #[kV nu se sq z p b (.slice A n cc), .int .i64 kb, .int .i64 ka, .int .u8 x] w (TrueB w) := by
  have HRR := Lib.hid hr
  have HL := Lib.hid hl
  have HW := Lib.hid hw
  have HZ := Lib.hid hz
  clear hr hl hw hz
  have HC1 : Hid (Blk (w.alloc (.cells (kCells nu se sq z p b (.slice A n cc)) 27)) w.heap.size 27 (kList nu se sq z p b (.slice A n cc))) := Lib.hid (blk_new w (kList nu se sq z p b (.slice A n cc)) 27)
  have HB1 := Lib.hid ((Below.refl w.heap.size w).alloc (Nat.le_refl _) (.cells (kCells nu se sq z p b (.slice A n cc)) 27))
  have HG := Lib.hid hg
  clear hg
  go_enter Tryd.func5, Tryd.ntmps5
  go_wp2_with fail
  refine (kawake_true (HG.out.below HB1.out)).mono ?_
  rintro r w1 ⟨rfl, hb⟩
  have HB2 := Lib.hid (HB1.out.trans (hb.mono HB1.out.size))
  have HC2 := Lib.hid (HC1.out.up hb (lt_of_block HC1.out))
  clear hb HB1 HC1
  have a0 : w1.cell? ⟨w.heap.size, 0, none⟩ = some (.int .u32 nu) := HC2.out.cell 0 (by simp)
  have a1 : w1.cell? ⟨w.heap.size, 1, none⟩ = some (.int .u32 se) := HC2.out.cell 1 (by simp)
  have a2 : w1.cell? ⟨w.heap.size, 2, none⟩ = some (.int .u32 sq) := HC2.out.cell 2 (by simp)
  have a3 : w1.cell? ⟨w.heap.size, 3, none⟩ = some (.int .i64 z) := HC2.out.cell 3 (by simp)
  have a4 : w1.cell? ⟨w.heap.size, 4, none⟩ = some (.int .i64 p) := HC2.out.cell 4 (by simp)
  have a5 : w1.cell? ⟨w.heap.size, 5, none⟩ = some (.int .i64 b) := HC2.out.cell 5 (by simp)
  have a6 : w1.cell? ⟨w.heap.size, 6, none⟩ = some (.slice A n cc) := HC2.out.cell 6 (by simp)
  go_wp2_with fail
  refine (own_is nu se sq z p b A n cc w1).mono ?_
  rintro r w2 ⟨rfl, hb⟩
  have HB3 := Lib.hid (HB2.out.trans (hb.mono HB2.out.size))
  have HC3 := Lib.hid (HC2.out.up hb (lt_of_block HC2.out))
  clear hb HB2 HC2 a0 a1 a2 a3 a4 a5 a6
  go_wp2_with fail
  refine (rkright_is nu se sq z p b A n cc w2).mono ?_
  rintro r w3 ⟨rfl, hb⟩
  have HB4 := Lib.hid (HB3.out.trans (hb.mono HB3.out.size))
  have HC4 := Lib.hid (HC3.out.up hb (lt_of_block HC3.out))
  clear hb HB3 HC3
  rw [h1]
  have a0 : w3.cell? ⟨w.heap.size, 0, none⟩ = some (.int .u32 nu) := HC4.out.cell 0 (by simp)
  have a1 : w3.cell? ⟨w.heap.size, 1, none⟩ = some (.int .u32 se) := HC4.out.cell 1 (by simp)
  have a2 : w3.cell? ⟨w.heap.size, 2, none⟩ = some (.int .u32 sq) := HC4.out.cell 2 (by simp)
  have a3 : w3.cell? ⟨w.heap.size, 3, none⟩ = some (.int .i64 z) := HC4.out.cell 3 (by simp)
  have a4 : w3.cell? ⟨w.heap.size, 4, none⟩ = some (.int .i64 p) := HC4.out.cell 4 (by simp)
  have a5 : w3.cell? ⟨w.heap.size, 5, none⟩ = some (.int .i64 b) := HC4.out.cell 5 (by simp)
  have a6 : w3.cell? ⟨w.heap.size, 6, none⟩ = some (.slice A n cc) := HC4.out.cell 6 (by simp)
  go_wp2_with fail
  have hkb := kblocks_own (c := cc) nu se sq z p b (HRR.out.up HB4.out) HL.out HW.out HZ.out.1 HZ.out.2.1 HZ.out.2.2 h1
  obtain ⟨L1, eL1⟩ : ∃ L, blocksC nu se sq z p b dir = L := ⟨_, rfl⟩
  rw [eL1] at hkb
  have HEL := Lib.hid eL1
  obtain ⟨K, hK⟩ : ∃ K, L1.length = K := ⟨_, rfl⟩
  refine hkb.mono ?_
  rintro r w4 ⟨v1, rfl, hv1, hwr, hb⟩
  obtain ⟨A5, c5, rfl, hc5, hv1⟩ := rows_len' hv1 hK
  have HK := Lib.hid hK
  have HWR := Lib.hid hwr
  have HV5 := Lib.hid hv1
  have HB5 := Lib.hid (HB4.out.trans (hb.mono HB4.out.size))
  have HC5 := Lib.hid (HC4.out.up hb (lt_of_block HC4.out))
  have hws3 := lt_of_block HC4.out
  clear hb hv1 hwr hkb eL1 hK HB4 HC4 a0 a1 a2 a3 a4 a5 a6
  have hlen := blocksC_len (nu := nu) (se := se) (sq := sq) (z := z) (p := p) (b := b) (dir := dir) (by rw [HL.out]; exact h1)
  have hKk : (K : Int) ≤ kb := by
    have h1 := HK.out
    rw [HEL.out] at hlen
    omega
  have q1 : decide ((K : Int) ≤ kb) = true := by simpa using hKk
  clear hlen h5
  go_wp2_with fail
  go_ret
  exact ⟨rfl, HB5.out⟩

set_option maxHeartbeats 4000000 in
set_option maxRecDepth 100000 in
theorem kchanged_true {w : World} (hg : Gl w) {A : Option Addr} {n cc : Nat} (nu se sq z p b kb ka x : Int) {dir : List Int} (hr : RdV w w.heap.size A (u32s dir)) (hl : dir.length = n) (hw : Words (nu :: se :: sq :: dir)) (hz : Wide z ∧ Wide p ∧ Wide b) (h1 : rightC z p b n = true) (h2 : 0 ≤ kb) (h3 : 0 ≤ ka) (h4 : ka < 16) (h5 : kb < manyC b) (hx : 0 ≤ x ∧ x ≤ 255) : Calls Tryd.prog 5 #[kV nu se sq z p b (.slice A n cc), .int .i64 kb, .int .i64 ka, .int .u8 x] w (TrueB w) := by
  have hn16 := (right_bd h1).2.2.2.2
  obtain ⟨t, rfl⟩ := Int.eq_ofNat_of_zero_le h3
  obtain ⟨k, rfl⟩ := Int.eq_ofNat_of_zero_le h2
  have ht16 : t < 16 := by omega
  have HRR := Lib.hid hr
  have HL := Lib.hid hl
  have HW := Lib.hid hw
  have HZ := Lib.hid hz
  clear hr hl hw hz
  have HC1 : Hid (Blk (w.alloc (.cells (kCells nu se sq z p b (.slice A n cc)) 27)) w.heap.size 27 (kList nu se sq z p b (.slice A n cc))) := Lib.hid (blk_new w (kList nu se sq z p b (.slice A n cc)) 27)
  have HB1 := Lib.hid ((Below.refl w.heap.size w).alloc (Nat.le_refl _) (.cells (kCells nu se sq z p b (.slice A n cc)) 27))
  have HG := Lib.hid hg
  clear hg
  go_enter Tryd.func5, Tryd.ntmps5
  go_wp2_with fail
  refine (kawake_true (HG.out.below HB1.out)).mono ?_
  rintro r w1 ⟨rfl, hb⟩
  have HB2 := Lib.hid (HB1.out.trans (hb.mono HB1.out.size))
  have HC2 := Lib.hid (HC1.out.up hb (lt_of_block HC1.out))
  clear hb HB1 HC1
  have a0 : w1.cell? ⟨w.heap.size, 0, none⟩ = some (.int .u32 nu) := HC2.out.cell 0 (by simp)
  have a1 : w1.cell? ⟨w.heap.size, 1, none⟩ = some (.int .u32 se) := HC2.out.cell 1 (by simp)
  have a2 : w1.cell? ⟨w.heap.size, 2, none⟩ = some (.int .u32 sq) := HC2.out.cell 2 (by simp)
  have a3 : w1.cell? ⟨w.heap.size, 3, none⟩ = some (.int .i64 z) := HC2.out.cell 3 (by simp)
  have a4 : w1.cell? ⟨w.heap.size, 4, none⟩ = some (.int .i64 p) := HC2.out.cell 4 (by simp)
  have a5 : w1.cell? ⟨w.heap.size, 5, none⟩ = some (.int .i64 b) := HC2.out.cell 5 (by simp)
  have a6 : w1.cell? ⟨w.heap.size, 6, none⟩ = some (.slice A n cc) := HC2.out.cell 6 (by simp)
  go_wp2_with fail
  refine (own_is nu se sq z p b A n cc w1).mono ?_
  rintro r w2 ⟨rfl, hb⟩
  have HB3 := Lib.hid (HB2.out.trans (hb.mono HB2.out.size))
  have HC3 := Lib.hid (HC2.out.up hb (lt_of_block HC2.out))
  clear hb HB2 HC2 a0 a1 a2 a3 a4 a5 a6
  go_wp2_with fail
  refine (rkright_is nu se sq z p b A n cc w2).mono ?_
  rintro r w3 ⟨rfl, hb⟩
  have HB4 := Lib.hid (HB3.out.trans (hb.mono HB3.out.size))
  have HC4 := Lib.hid (HC3.out.up hb (lt_of_block HC3.out))
  clear hb HB3 HC3
  rw [h1]
  have a0 : w3.cell? ⟨w.heap.size, 0, none⟩ = some (.int .u32 nu) := HC4.out.cell 0 (by simp)
  have a1 : w3.cell? ⟨w.heap.size, 1, none⟩ = some (.int .u32 se) := HC4.out.cell 1 (by simp)
  have a2 : w3.cell? ⟨w.heap.size, 2, none⟩ = some (.int .u32 sq) := HC4.out.cell 2 (by simp)
  have a3 : w3.cell? ⟨w.heap.size, 3, none⟩ = some (.int .i64 z) := HC4.out.cell 3 (by simp)
  have a4 : w3.cell? ⟨w.heap.size, 4, none⟩ = some (.int .i64 p) := HC4.out.cell 4 (by simp)
  have a5 : w3.cell? ⟨w.heap.size, 5, none⟩ = some (.int .i64 b) := HC4.out.cell 5 (by simp)
  have a6 : w3.cell? ⟨w.heap.size, 6, none⟩ = some (.slice A n cc) := HC4.out.cell 6 (by simp)
  go_wp2_with fail
  have hkb := kblocks_own (c := cc) nu se sq z p b (HRR.out.up HB4.out) HL.out HW.out HZ.out.1 HZ.out.2.1 HZ.out.2.2 h1
  obtain ⟨L1, eL1⟩ : ∃ L, blocksC nu se sq z p b dir = L := ⟨_, rfl⟩
  rw [eL1] at hkb
  have HEL := Lib.hid eL1
  obtain ⟨K, hK⟩ : ∃ K, L1.length = K := ⟨_, rfl⟩
  refine hkb.mono ?_
  rintro r w4 ⟨v1, rfl, hv1, hwr, hb⟩
  obtain ⟨A5, c5, rfl, hc5, hv1⟩ := rows_len' hv1 hK
  have HK := Lib.hid hK
  have HWR := Lib.hid hwr
  have HV5 := Lib.hid hv1
  have HB5 := Lib.hid (HB4.out.trans (hb.mono HB4.out.size))
  have HC5 := Lib.hid (HC4.out.up hb (lt_of_block HC4.out))
  have hws3 := lt_of_block HC4.out
  clear hb hv1 hwr hkb eL1 hK HB4 HC4 a0 a1 a2 a3 a4 a5 a6
  have hlen := blocksC_len (nu := nu) (se := se) (sq := sq) (z := z) (p := p) (b := b) (dir := dir) (by rw [HL.out]; exact h1)
  have hrd := rd_blocks (nu := nu) (se := se) (sq := sq) (z := z) (p := p) (b := b) (dir := dir) (by rw [HL.out]; exact h1) HW.out
  have h16 := blocksC_16 (nu := nu) (se := se) (sq := sq) (z := z) (p := p) (b := b) (dir := dir)
  have hby := blocksC_byt (nu := nu) (se := se) (sq := sq) (z := z) (p := p) (b := b) (dir := dir)
  have hbb := blocks_bd nu se sq z p b dir
  have hless := read_less (nu := nu) (se := se) (sq := sq) (z := z) (p := p) (b := b) (dir := dir) (by rw [HL.out]; exact h1) (words4 HW.out)
  have hch := fun (k' t' : Nat) (c' : Int) => read_changed (nu := nu) (se := se) (sq := sq) (z := z) (p := p) (b := b) (dir := dir) (k := k') (t := t') (c := c') (by rw [HL.out]; exact h1) (words4 HW.out)
  rw [HL.out, if_pos h1] at hbb
  rw [HEL.out] at hlen hrd h16 hby hbb hless hch
  have hmc := rightB_bd (right_parts h1).1
  have hK2 : 2 ≤ K ∧ k < K ∧ K ≤ 10 := by
    have h1 := HK.out
    unfold manyC at hlen h5
    omega
  have hkl : k < L1.length := by rw [HK.out]; exact hK2.2.1
  have hrow := h16 _ (List.getElem_mem hkl)
  have HALL := Lib.hid (And.intro hrd (And.intro h16 (And.intro hby (And.intro hbb (And.intro hless hch)))))
  clear hrd h16 hby hbb hless hch hlen h5 hmc h2 h3 h4
  have q1 : decide ((K : Int) ≤ (k : Int)) = false := by simp; omega
  obtain ⟨K1, hK1⟩ : ∃ K1 : Nat, (K : Int) - 1 = (K1 : Int) := ⟨K - 1, by omega⟩
  have hK1n : K1 ≤ K := by omega
  have HK1 : Hid (K1 = K - 1) := Lib.hid (by omega)
  obtain ⟨bA, oA, c0, _, _, _, e0, -⟩ := HWR.out w4 (Below.refl _ _) k hkl
  injection e0 with e1 e2x e3
  clear e2x
  subst e1 e3
  have hcK : K1 ≤ c5 := by omega
  go_wp2_with fail
  have hkr := kread_all (RowsAt.take (by rw [HK.out]; exact HV5.out) (show K1 ≤ L1.length by rw [HK.out]; omega)) (fun y hy => HALL.out.2.2.1 y (List.mem_of_mem_take hy)) (by rw [List.length_take]; omega) (fun y hy => HALL.out.2.2.2.1.2 y (List.mem_of_mem_take hy))
  have hE0 : readGE (L1.take K1) ≠ 0 := by have := HALL.out.2.2.2.2.1; rwa [HK.out, ← HK1.out] at this
  unfold ReadIs rdN rdD at hkr
  simp only [if_neg hE0] at hkr
  rw [show errV (readGE (L1.take K1)) = Value.iface 35 (.int .i64 (readGE (L1.take K1))) from if_neg hE0] at hkr
  obtain ⟨e9, he9⟩ : ∃ e, readGE (L1.take K1) = e := ⟨_, rfl⟩
  rw [he9] at hkr
  clear he9 hE0
  refine hkr.mono ?_
  rintro r w5 ⟨S0, rfl, hS, hb⟩
  obtain ⟨A0, c0, rfl, _, _⟩ := nums_len hS (show ([] : List Int).length = 0 from rfl)
  have hb6 : Below w4.heap.size w4 (w5.alloc (.cells (kCells 0 0 0 0 0 0 (.slice A0 0 c0)) 27)) := hb.alloc hb.size _
  have HBX := Lib.hid hb6
  have HB6 := Lib.hid (HB5.out.trans (hb6.mono HB5.out.size))
  have HC6 := Lib.hid (HC5.out.up hb6 (lt_of_block HC5.out))
  clear hb hb6 hS hkr HB5 HC5 HV5
  obtain ⟨w6, hw6⟩ : ∃ w6 : World, w6 = w5.alloc (.cells (kCells 0 0 0 0 0 0 (.slice A0 0 c0)) 27) := ⟨_, rfl⟩
  go_upto_region 9 with fail
  rw [← hw6] at HBX HB6 HC6 ⊢
  obtain ⟨bA', oA', c0', rb, ro, rd, e0, hrowc, hbase, hrb, hcellt⟩ := HWR.out w6 HBX.out k hkl
  injection e0 with e1 e2x e3
  clear e2x
  have e1 := Option.some.inj e1
  injection e1 with e1 e2
  subst e1 e2 e3
  rw [hrow] at hrowc
  obtain ⟨hct, hft, hset⟩ := hcellt t (by rw [hrow]; exact ht16)
  obtain ⟨was, hwas⟩ : ∃ y, L1[k][t]'(by rw [hrow]; exact ht16) = y := ⟨_, rfl⟩
  rw [hwas] at hct
  have HSET := Lib.hid (hset x)
  have HWAS := Lib.hid hwas
  clear hset hwas hcellt hw6
  go_wp2_with fail
  obtain ⟨w7, hw7⟩ : ∃ w7 : World, w7 = w6.setCell ⟨rb, ro + t, none⟩ (.int .u8 x) := ⟨_, rfl⟩
  have HB7 : Hid (Below w.heap.size w w7) := Lib.hid (by rw [hw7]; exact HB6.out.setCell (p := ⟨rb, ro + t, none⟩) (by show w.heap.size ≤ rb; omega) _)
  have HC7 : Hid (Blk w7 w.heap.size 27 (kList nu se sq z p b (.slice A n cc))) := Lib.hid (by rw [hw7]; exact HC6.out.kept (grown_put (World.grownBy.refl w6 (some rb)) (ro + t) _) (fun e => by have := Option.some.inj e; omega))
  rw [← hw7] at HSET ⊢
  clear hw7 HB6 HC6 HBX hct hft hrowc
  obtain ⟨hrd, h16, hby, hbb, _, hch⟩ := HALL.out
  by_cases hxw : was = x
  · have hsame : L1.set k (L1[k].set t x) = L1 := by
      have e1 : L1[k].set t x = L1[k] := by
        rw [← hxw, ← HWAS.out]
        exact List.set_getElem_self _
      rw [e1]
      exact List.set_getElem_self _
    rw [hsame] at HSET
    have qx : (was == x) = true := by simpa using hxw
    clear hsame hxw
    have hkr := kread_all HSET.out hby (by omega) hbb.2
    unfold ReadIs at hkr
    rw [hrd.1, hrd.2.1, hrd.2.2.1, hrd.2.2.2.1, hrd.2.2.2.2.1, hrd.2.2.2.2.2.1, hrd.2.2.2.2.2.2.1, hrd.2.2.2.2.2.2.2, show errV 0 = Value.nilIface from if_pos rfl] at hkr
    clear hrd h16 hby hbb hch
    refine hkr.mono ?_
    rintro r w8 ⟨S3, rfl, hS, hb⟩
    obtain ⟨A3, c3, rfl, _, hS⟩ := nums_len hS HL.out
    have hb9 : Below w7.heap.size w7 (w8.alloc (.cells (kCells nu se sq z p b (.slice A3 n c3)) 27)) := hb.alloc hb.size _
    have HB9 := Lib.hid (HB7.out.trans (hb9.mono HB7.out.size))
    have HC9 := Lib.hid (HC7.out.up hb9 (lt_of_block HC7.out))
    have HS9 := Lib.hid (hS.up (Below.alloc (Below.refl w8.heap.size w8) (Nat.le_refl _) (.cells (kCells nu se sq z p b (.slice A3 n c3)) 27)))
    clear hb hb9 hS hkr HB7 HC7
    have a0 : (w8.alloc (.cells (kCells nu se sq z p b (.slice A3 n c3)) 27)).cell? ⟨w.heap.size, 0, none⟩ = some (.int .u32 nu) := HC9.out.cell 0 (by simp)
    have a1 : (w8.alloc (.cells (kCells nu se sq z p b (.slice A3 n c3)) 27)).cell? ⟨w.heap.size, 1, none⟩ = some (.int .u32 se) := HC9.out.cell 1 (by simp)
    have a2 : (w8.alloc (.cells (kCells nu se sq z p b (.slice A3 n c3)) 27)).cell? ⟨w.heap.size, 2, none⟩ = some (.int .u32 sq) := HC9.out.cell 2 (by simp)
    have a3 : (w8.alloc (.cells (kCells nu se sq z p b (.slice A3 n c3)) 27)).cell? ⟨w.heap.size, 3, none⟩ = some (.int .i64 z) := HC9.out.cell 3 (by simp)
    have a4 : (w8.alloc (.cells (kCells nu se sq z p b (.slice A3 n c3)) 27)).cell? ⟨w.heap.size, 4, none⟩ = some (.int .i64 p) := HC9.out.cell 4 (by simp)
    have a5 : (w8.alloc (.cells (kCells nu se sq z p b (.slice A3 n c3)) 27)).cell? ⟨w.heap.size, 5, none⟩ = some (.int .i64 b) := HC9.out.cell 5 (by simp)
    have a6 : (w8.alloc (.cells (kCells nu se sq z p b (.slice A3 n c3)) 27)).cell? ⟨w.heap.size, 6, none⟩ = some (.slice A n cc) := HC9.out.cell 6 (by simp)
    go_wp2_with fail
    refine (ksame_is (c := cc) (c2 := c3) nu se sq z p b nu se sq z p b (HRR.out.up HB9.out) HS9.out HL.out HL.out (by omega) (by omega)).mono ?_
    rw [sameC_self]
    rintro r w9 ⟨rfl, hb⟩
    have HBZ := Lib.hid (HB9.out.trans (hb.mono HB9.out.size))
    clear hb HB9 HC9 HS9 a0 a1 a2 a3 a4 a5 a6
    go_wp2_with fail
    go_ret
    exact ⟨rfl, HBZ.out⟩
  · have qx : (was == x) = false := by simpa using hxw
    have hgd : (L1[k]).getD t 0 = was := by
      rw [List.getD_eq_getElem?_getD, List.getElem?_eq_getElem (by rw [hrow]; exact ht16), Option.getD_some]
      exact HWAS.out
    have hE0 := hch k t x hkl ht16 hx.1 hx.2 (by rw [hgd]; exact fun e => hxw e.symm)
    have hby2 : ∀ y ∈ L1.set k (L1[k].set t x), Byt y := by
      intro y hy
      rcases List.mem_or_eq_of_mem_set hy with hy | rfl
      · exact hby y hy
      · intro q hq
        rcases List.mem_or_eq_of_mem_set hq with hq | rfl
        · exact hby _ (List.getElem_mem hkl) q hq
        · exact hx
    have hlen2 : ∀ y ∈ L1.set k (L1[k].set t x), y.length ≤ 20000 := by
      intro y hy
      rcases List.mem_or_eq_of_mem_set hy with hy | rfl
      · exact hbb.2 y hy
      · rw [List.length_set]; omega
    have hkr := kread_all HSET.out hby2 (by rw [List.length_set]; omega) hlen2
    unfold ReadIs rdN rdD at hkr
    simp only [if_neg hE0] at hkr
    rw [show errV (readGE (L1.set k (L1[k].set t x))) = Value.iface 35 (.int .i64 (readGE (L1.set k (L1[k].set t x)))) from if_neg hE0] at hkr
    obtain ⟨e8, he8⟩ : ∃ e, readGE (L1.set k (L1[k].set t x)) = e := ⟨_, rfl⟩
    rw [he8] at hkr
    clear he8 hE0 hby2 hlen2 hrd h16 hby hbb hch hgd hxw
    refine hkr.mono ?_
    rintro r w8 ⟨S3, rfl, hS, hb⟩
    obtain ⟨A3, c3, rfl, _, _⟩ := nums_len hS (show ([] : List Int).length = 0 from rfl)
    have HB9 := Lib.hid ((HB7.out.trans (hb.mono HB7.out.size)).alloc (Nat.le_trans HB7.out.size hb.size) (.cells (kCells 0 0 0 0 0 0 (.slice A3 0 c3)) 27))
    clear hb hS hkr HB7 HC7
    go_wp2_with fail
    refine (ksame_is (n := 0) (m := 0) (c := c3) (c2 := 0) 0 0 0 0 0 0 0 0 0 0 0 0 (dir := []) (dir2 := []) RdV.nil RdV.nil rfl rfl (by omega) (by omega)).mono ?_
    rw [sameC_self]
    rintro r w9 ⟨rfl, hb⟩
    have HBZ := Lib.hid (HB9.out.trans (hb.mono HB9.out.size))
    clear hb HB9
    go_wp2_with fail
    go_ret
    exact ⟨rfl, HBZ.out⟩
end Go.Proofs.YtknllfhokjedkaaDoor
