/-
  Package ckpt's take and parted: the numbers of bytes; the geometry of numbers.
-/
import Derived.Test.YtknllfhokjedkaaDoorCkS
import Derived.Test.YtknllfhokjedkaaDoorCkptD
import Derived.Test.YtknllfhokjedkaaDoorCkptMath4
namespace Go.Proofs.YtknllfhokjedkaaDoor
open Go.RowKit

/-! ### parted -/
def PartedIs (z p b : Int) (w : World) (r : Ending) (w' : World) : Prop := r = .returned (.agg #[.int .i64 z, .int .i64 p, .int .i64 b]) ∧ Below w.heap.size w w'
set_option maxHeartbeats 1000000 in
theorem parted_is {A : Option Addr} {n c : Nat} {ns : List Int} {z p b : Int} {w : World} (hl : ns.length = n) (hv : RdV w w.heap.size A (u32s ns)) (h6 : 6 ≤ n) (h3 : ns[3]? = some z) (h4 : ns[4]? = some p) (h5 : ns[5]? = some b) (hW : Word z ∧ Word p ∧ Word b) :
    Calls Tryd.prog 28 #[.slice A n c] w (PartedIs z p b w) := by
  obtain ⟨g, o, rfl, hlt, hcell⟩ := hv (by rw [u32s_len]; omega)
  have c3 := hcell 3 (by rw [u32s_len]; omega)
  have c4 := hcell 4 (by rw [u32s_len]; omega)
  have c5 := hcell 5 (by rw [u32s_len]; omega)
  rw [u32s_get, (List.getElem?_eq_some_iff.1 h3).2] at c3
  rw [u32s_get, (List.getElem?_eq_some_iff.1 h4).2] at c4
  rw [u32s_get, (List.getElem?_eq_some_iff.1 h5).2] at c5
  obtain ⟨⟨z0, z1⟩, ⟨p0, p1⟩, b0, b1⟩ := hW
  clear hcell hl hv h3 h4 h5
  go_enter Tryd.func28, Tryd.ntmps28
  go_wp2_with fail
  go_region
  go_wp2_with fail
  refine bodyPost_ret (v := .agg #[.int .i64 z, .int .i64 p, .int .i64 b]) (by simp [results, Tryd.results28, go_sem]) rfl ⟨rfl, ?_⟩
  exact (Below.alloc (Below.refl _ _) (Nat.le_refl _) _).drew

/-! ### take -/
def zeros32 (k : Nat) : Obj := .cells (madeCells (Value.int .u32 0).cells (k * 1)) 22
theorem make_zeros32 (k : Nat) (hk : k ≤ 20000) (w : World) : (Instr.makeSlice 25 (.int .i64 (k : Int)) (.int .i64 (k : Int))).run Tryd.prog w = .ok (.slice (some ⟨w.heap.size, 0, none⟩) k k) (w.alloc (zeros32 k)) := by
  obtain ⟨i0, hi, hz0, hz1, hz2⟩ := info_parts infoU32
  have := run_make (P := Tryd.prog) w 25 22 i0 (.int .u32 0) Tryd.underlying25 hi hz0 .i64 .i64 (k : Int) (k : Int) (by omega) (Int.le_refl _) (by rw [hz2]; omega) (by omega)
  rw [hz1] at this
  simpa [zeros32] using this
theorem zeros32_blk (w : World) (k : Nat) : Blk (w.alloc (zeros32 k)) w.heap.size 22 (u32s (List.replicate k 0)) := by
  have h : (w.alloc (zeros32 k)).heap[w.heap.size]? = some (zeros32 k) := heap_alloc_new w _
  unfold Blk
  rw [h]
  unfold zeros32
  congr 2
  apply Array.ext
  · rw [size_madeCells]; simp [u32s]
  · intro i h1 h2
    simp [madeCells, Value.cells, Nat.mod_one, u32s]
def partN (xs : List Int) (j t : Nat) : Int := part (xs.getD (4 * j) 0) (xs.getD (4 * j + 1) 0) (xs.getD (4 * j + 2) 0) (xs.getD (4 * j + 3) 0) t
def cellsAt (xs : List Int) (m i : Nat) : List Int := (List.range m).map fun j => partN xs j (i - 4 * j)
def nums (xs : List Int) (m : Nat) : List Int := (List.range m).map (numAt xs)
theorem numsLen (xs : List Int) (m : Nat) : (nums xs m).length = m := by simp [nums]
theorem numsGet (xs : List Int) {m i : Nat} (h : i < m) : (nums xs m)[i]? = some (numAt xs i) := by simp [nums, h]
theorem cellsAt_len (xs : List Int) (m i : Nat) : (cellsAt xs m i).length = m := by simp [cellsAt]
theorem part_full (x0 x1 x2 x3 : Int) (k : Nat) : part x0 x1 x2 x3 (k + 4) = x0 + x1 * 256 + x2 * 65536 + x3 * 16777216 := rfl
theorem partN_full (xs : List Int) (j : Nat) {t : Nat} (h : 4 ≤ t) : partN xs j t = numAt xs j := by
  obtain ⟨k, rfl⟩ : ∃ k, t = k + 4 := ⟨t - 4, by omega⟩
  unfold partN numAt bk back4
  rw [part_full]
  omega
theorem cellsAt_zero (xs : List Int) (m : Nat) : cellsAt xs m 0 = List.replicate m 0 := by
  apply List.ext_getElem
  · simp [cellsAt]
  · intro i h1 h2
    simp [cellsAt, partN, part]
theorem cellsAt_full (xs : List Int) (m : Nat) : cellsAt xs m (4 * m) = nums xs m := by
  apply List.ext_getElem
  · simp [cellsAt, nums]
  · intro i h1 h2
    simp only [cellsAt, nums, List.getElem_map, List.getElem_range]
    rw [cellsAt_len] at h1
    exact partN_full xs i (by omega)
theorem cellsAt_get (xs : List Int) {m i q : Nat} (h : q < m) : (cellsAt xs m i)[q]'(by rw [cellsAt_len]; exact h) = partN xs q (i - 4 * q) := by simp [cellsAt]
theorem cellsAt_step (xs : List Int) {m q r : Nat} (hr : r < 4) : (cellsAt xs m (4 * q + r)).set q (partN xs q (r + 1)) = cellsAt xs m (4 * q + r + 1) := by
  apply List.ext_getElem
  · simp [cellsAt]
  · intro i h1 h2
    rw [List.getElem_set]
    by_cases h : q = i
    · subst h
      simp only [if_true, cellsAt, List.getElem_map, List.getElem_range]
      congr 1
      omega
    · simp only [h, if_false, cellsAt, List.getElem_map, List.getElem_range]
      by_cases hlt : i < q
      · rw [partN_full _ _ (by omega), partN_full _ _ (by omega)]
      · rw [show 4 * q + r - 4 * i = 0 by omega, show 4 * q + r + 1 - 4 * i = 0 by omega]
theorem u32s_set (ns : List Int) (q : Nat) (v : Int) : (u32s ns).set q (.int .u32 v) = u32s (ns.set q v) := by simp [u32s, List.map_set]

def TakenIs (xs : List Int) (m : Nat) (w : World) (r : Ending) (w' : World) : Prop := ∃ g, r = .returned (.slice (some ⟨g, 0, none⟩) m m) ∧ w.heap.size ≤ g ∧ Blk w' g 22 (u32s (nums xs m)) ∧ Below w.heap.size w w'
set_option maxHeartbeats 2000000 in
set_option maxRecDepth 100000 in
theorem ktake_is {A : Option Addr} {n c m : Nat} {xs : List Int} {w : World} (hr : Rd w w.heap.size A xs) (hx : Byt xs) (hl : xs.length = n) (hm : n = 4 * m) (hb : m ≤ 20000) : Calls Tryd.prog 29 #[.slice A n c] w (TakenIs xs m w) := by
  have HR := Lib.hid hr
  have HX := Lib.hid hx
  have HL := Lib.hid hl
  have HM := Lib.hid hm
  have hq : (n : Int) / 4 = (m : Int) := by omega
  have hmk := make_zeros32 m hb w
  have hn : n ≤ 80000 := by omega
  have HB := Lib.hid ((Below.refl w.heap.size w).alloc (Nat.le_refl _) (zeros32 m))
  have HZ := Lib.hid (zeros32_blk w m)
  clear hr hx hl hm
  go_enter Tryd.func29, Tryd.ntmps29
  go_wp2_with fail
  obtain ⟨wo, hwo⟩ : ∃ wo : World, wo = w.alloc (zeros32 m) := ⟨_, rfl⟩
  rw [← hwo] at HB HZ ⊢
  obtain ⟨g, hg⟩ : ∃ g, w.heap.size = g := ⟨_, rfl⟩
  have HG := Lib.hid hg
  rw [hg] at HZ ⊢
  clear hmk hwo hg hq
  go_loopg [12] n (fun k x wr => ∃ i : Nat, i ≤ n ∧ k = n - i ∧ x = .int .i64 i ∧ Blk wr g 22 (u32s (cellsAt xs m i)) ∧ Below w.heap.size w wr)
  case atStart => exact ⟨0, by omega, by omega, rfl, by rw [cellsAt_zero]; exact HZ.out, HB.out⟩
  case round =>
    clear HZ HB
    obtain ⟨i, hi, hk, rfl, hbl, hbe⟩ := hrel
    have HK := Lib.hid hk
    have HBL := Lib.hid hbl
    have HB := Lib.hid hbe
    clear hk hbl hbe
    by_cases hlt : i < n
    · obtain ⟨b, o, rfl, hbl, hcell⟩ := (HR.out.below HB.out) (by rw [HL.out]; omega)
      have hix : i < xs.length := by rw [HL.out]; exact hlt
      have c1 := hcell i hix
      have hbx := HX.out.get i hix
      clear hcell hbl
      obtain ⟨q, r, hi4, hr4⟩ : ∃ q r : Nat, i = 4 * q + r ∧ r < 4 := ⟨i / 4, i % 4, by omega, by omega⟩
      have hqm : q < m := by have := HM.out; omega
      have hgx : xs.getD i 0 = xs[i] := by simp [List.getD_eq_getElem?_getD, hix]
      have f1 := Blk.free HBL.out q
      have f2 := Blk.cell HBL.out q (by rw [u32s_len, cellsAt_len]; exact hqm)
      rw [u32s_get, cellsAt_get xs hqm, show i - 4 * q = r by omega] at f2
      have HST : Hid (∀ v, v = partN xs q (r + 1) → Blk (wr.setCell ⟨g, q, none⟩ (.int .u32 v)) g 22 (u32s (cellsAt xs m (i + 1)))) := Lib.hid (by
        rintro v rfl
        have := Blk.put HBL.out q (.int .u32 (partN xs q (r + 1)))
        rw [u32s_set, hi4, cellsAt_step xs hr4] at this
        rw [hi4]
        exact this)
      have hd : (i : Int) / 4 = (q : Int) := by omega
      obtain ⟨x0, hx0⟩ : ∃ x0, xs.getD (4 * q) 0 = x0 := ⟨_, rfl⟩
      obtain ⟨x1, hx1⟩ : ∃ x1, xs.getD (4 * q + 1) 0 = x1 := ⟨_, rfl⟩
      obtain ⟨x2, hx2⟩ : ∃ x2, xs.getD (4 * q + 2) 0 = x2 := ⟨_, rfl⟩
      obtain ⟨x3, hx3⟩ : ∃ x3, xs.getD (4 * q + 3) 0 = x3 := ⟨_, rfl⟩
      have b0 := getD_byt HX.out (4 * q)
      have b1 := getD_byt HX.out (4 * q + 1)
      have b2 := getD_byt HX.out (4 * q + 2)
      have b3 := getD_byt HX.out (4 * q + 3)
      rw [hx0] at b0
      rw [hx1] at b1
      rw [hx2] at b2
      rw [hx3] at b3
      have HPN : Hid (∀ t, partN xs q t = part x0 x1 x2 x3 t) := Lib.hid (fun t => by unfold partN; rw [hx0, hx1, hx2, hx3])
      rcases (show r = 0 ∨ r = 1 ∨ r = 2 ∨ r = 3 by omega) with rfl | rfl | rfl | rfl
      · have hmd : (i : Int) % 4 = 0 := by omega
        have e : xs[i] = x0 := by
          rw [← hx0, show 4 * q = i by omega]
          exact hgx.symm
        rw [e] at c1
        have HA : Hid (bits .or .u32 (0) (x0) = part x0 x1 x2 x3 (0 + 1)) := Lib.hid (by have := or_part (a := 0) (x := x0) 0 (by omega) (by omega) b0.1 (by omega); simpa [part] using this)
        have HPP := Lib.hid (HST.out (bits .or .u32 (0) (x0)) (HA.out.trans (HPN.out _).symm))
        rw [HPN.out] at f2
        have f3 : wr.cell? ⟨g, q, none⟩ = some (.int .u32 (0)) := f2
        have HBB := Lib.hid ((HB.out.setCell (p := ⟨g, q, none⟩) (by have := HG.out; simp; omega) (.int .u32 (bits .or .u32 (0) (x0)))).drew)
        clear f2 e hgx hx0 hx1 hx2 hx3 hi4 hbx HST HPN HA
        go_wp2_with fail
        go_region
        go_wp2_with fail
        go_roundg (n - (i + 1))
        case rel => exact ⟨i + 1, by omega, rfl, by go_num, HPP.out, HBB.out⟩
        case measure => have := HK.out; omega
      · have hmd : (i : Int) % 4 = 1 := by omega
        have e : xs[i] = x1 := by
          rw [← hx1, show 4 * q + 1 = i by omega]
          exact hgx.symm
        rw [e] at c1
        have HA : Hid (bits .or .u32 (x0) (x1 * 256) = part x0 x1 x2 x3 (1 + 1)) := Lib.hid (or_part (a := x0) (x := x1) 8 (by omega) (by omega) b1.1 (by omega))
        have HPP := Lib.hid (HST.out (bits .or .u32 (x0) (x1 * 256)) (HA.out.trans (HPN.out _).symm))
        rw [HPN.out] at f2
        have f3 : wr.cell? ⟨g, q, none⟩ = some (.int .u32 (x0)) := f2
        have HBB := Lib.hid ((HB.out.setCell (p := ⟨g, q, none⟩) (by have := HG.out; simp; omega) (.int .u32 (bits .or .u32 (x0) (x1 * 256)))).drew)
        clear f2 e hgx hx0 hx1 hx2 hx3 hi4 hbx HST HPN HA
        go_wp2_with fail
        go_region
        go_wp2_with fail
        go_roundg (n - (i + 1))
        case rel => exact ⟨i + 1, by omega, rfl, by go_num, HPP.out, HBB.out⟩
        case measure => have := HK.out; omega
      · have hmd : (i : Int) % 4 = 2 := by omega
        have e : xs[i] = x2 := by
          rw [← hx2, show 4 * q + 2 = i by omega]
          exact hgx.symm
        rw [e] at c1
        have HA : Hid (bits .or .u32 (x0 + x1 * 256) (x2 * 65536) = part x0 x1 x2 x3 (2 + 1)) := Lib.hid (or_part (a := x0 + x1 * 256) (x := x2) 16 (by omega) (by omega) b2.1 (by omega))
        have HPP := Lib.hid (HST.out (bits .or .u32 (x0 + x1 * 256) (x2 * 65536)) (HA.out.trans (HPN.out _).symm))
        rw [HPN.out] at f2
        have f3 : wr.cell? ⟨g, q, none⟩ = some (.int .u32 (x0 + x1 * 256)) := f2
        have HBB := Lib.hid ((HB.out.setCell (p := ⟨g, q, none⟩) (by have := HG.out; simp; omega) (.int .u32 (bits .or .u32 (x0 + x1 * 256) (x2 * 65536)))).drew)
        clear f2 e hgx hx0 hx1 hx2 hx3 hi4 hbx HST HPN HA
        go_wp2_with fail
        go_region
        go_wp2_with fail
        go_roundg (n - (i + 1))
        case rel => exact ⟨i + 1, by omega, rfl, by go_num, HPP.out, HBB.out⟩
        case measure => have := HK.out; omega
      · have hmd : (i : Int) % 4 = 3 := by omega
        have e : xs[i] = x3 := by
          rw [← hx3, show 4 * q + 3 = i by omega]
          exact hgx.symm
        rw [e] at c1
        have HA : Hid (bits .or .u32 (x0 + x1 * 256 + x2 * 65536) (x3 * 16777216) = part x0 x1 x2 x3 (3 + 1)) := Lib.hid (or_part (a := x0 + x1 * 256 + x2 * 65536) (x := x3) 24 (by omega) (by omega) b3.1 (by omega))
        have HPP := Lib.hid (HST.out (bits .or .u32 (x0 + x1 * 256 + x2 * 65536) (x3 * 16777216)) (HA.out.trans (HPN.out _).symm))
        rw [HPN.out] at f2
        have f3 : wr.cell? ⟨g, q, none⟩ = some (.int .u32 (x0 + x1 * 256 + x2 * 65536)) := f2
        have HBB := Lib.hid ((HB.out.setCell (p := ⟨g, q, none⟩) (by have := HG.out; simp; omega) (.int .u32 (bits .or .u32 (x0 + x1 * 256 + x2 * 65536) (x3 * 16777216)))).drew)
        clear f2 e hgx hx0 hx1 hx2 hx3 hi4 hbx HST HPN HA
        go_wp2_with fail
        go_region
        go_wp2_with fail
        go_roundg (n - (i + 1))
        case rel => exact ⟨i + 1, by omega, rfl, by go_num, HPP.out, HBB.out⟩
        case measure => have := HK.out; omega
    · obtain rfl : i = n := by omega
      have HF : Hid (Blk wr g 22 (u32s (nums xs m))) := Lib.hid (by rw [← cellsAt_full, ← HM.out]; exact HBL.out)
      go_wp2_with fail
      go_ret
      exact ⟨g, rfl, by rw [HG.out]; exact Nat.le_refl _, HF.out, HB.out⟩
end Go.Proofs.YtknllfhokjedkaaDoor
