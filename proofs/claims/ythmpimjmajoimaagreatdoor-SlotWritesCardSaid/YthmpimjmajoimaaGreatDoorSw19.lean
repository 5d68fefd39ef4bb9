/-
  Package ckpt's take and parted: the numbers of bytes; the geometry of numbers.
  slices.Clone of numbers, slices.Grow of no bytes, slices.Concat of rows of sixteen bytes.
  A range over a function whose iterator says at its end what lies in the world, too; its body never leaves. For whatever program.
-/
import Derived.Test.YthmpimjmajoimaaGreatDoorSw18
import Derived.Lib.AppendZeros
import Derived.Test.YthmpimjmajoimaaGreatDoorChecked
import Derived.RangeFuncFrom
namespace Go.Proofs.YthmpimjmajoimaaGreatDoor
open Go.RowKit

/-! ### parted -/
def PartedIs (z p b : Int) (w : World) (r : Ending) (w' : World) : Prop := r = .returned (.agg #[.int .i64 z, .int .i64 p, .int .i64 b]) ∧ Below w.heap.size w w'
set_option maxHeartbeats 1000000 in
theorem parted_is {A : Option Addr} {n c : Nat} {ns : List Int} {z p b : Int} {w : World} (hl : ns.length = n) (hv : RdV w w.heap.size A (u32s ns)) (h6 : 6 ≤ n) (h3 : ns[3]? = some z) (h4 : ns[4]? = some p) (h5 : ns[5]? = some b) (hW : Word z ∧ Word p ∧ Word b) :
    Calls Tryz.prog 111 #[.slice A n c] w (PartedIs z p b w) := by
  obtain ⟨g, o, rfl, hlt, hcell⟩ := hv (by rw [u32s_len]; omega)
  have c3 := hcell 3 (by rw [u32s_len]; omega)
  have c4 := hcell 4 (by rw [u32s_len]; omega)
  have c5 := hcell 5 (by rw [u32s_len]; omega)
  rw [u32s_get, (List.getElem?_eq_some_iff.1 h3).2] at c3
  rw [u32s_get, (List.getElem?_eq_some_iff.1 h4).2] at c4
  rw [u32s_get, (List.getElem?_eq_some_iff.1 h5).2] at c5
  obtain ⟨⟨z0, z1⟩, ⟨p0, p1⟩, b0, b1⟩ := hW
  clear hcell hl hv h3 h4 h5
  go_enter Tryz.func111, Tryz.ntmps111
  go_wp2_with fail
  go_region
  go_wp2_with fail
  refine bodyPost_ret (v := .agg #[.int .i64 z, .int .i64 p, .int .i64 b]) (by simp [results, Tryz.results111, go_sem]) rfl ⟨rfl, ?_⟩
  exact (Below.alloc (Below.refl _ _) (Nat.le_refl _) _).drew

/-! ### take -/
def zeros32 (k : Nat) : Obj := .cells (madeCells (Value.int .u32 0).cells (k * 1)) 35
theorem make_zeros32 (k : Nat) (hk : k ≤ 20000) (w : World) : (Instr.makeSlice 38 (.int .i64 (k : Int)) (.int .i64 (k : Int))).run Tryz.prog w = .ok (.slice (some ⟨w.heap.size, 0, none⟩) k k) (w.alloc (zeros32 k)) := by
  obtain ⟨i0, hi, hz0, hz1, hz2⟩ := info_parts infoU32
  have := run_make (P := Tryz.prog) w 38 35 i0 (.int .u32 0) Tryz.underlying38 hi hz0 .i64 .i64 (k : Int) (k : Int) (by omega) (Int.le_refl _) (by rw [hz2]; omega) (by omega)
  rw [hz1] at this
  simpa [zeros32] using this
theorem zeros32_blk (w : World) (k : Nat) : Blk (w.alloc (zeros32 k)) w.heap.size 35 (u32s (List.replicate k 0)) := by
  have h : (w.alloc (zeros32 k)).heap[w.heap.size]? = some (zeros32 k) := heap_alloc_new w _
  unfold Blk
  rw [h]
  unfold zeros32
  congr 2
  apply Array.ext
  · rw [size_madeCells]; simp [u32s]
  · intro i h1 h2
    simp [madeCells, Value.cells, Nat.mod_one, u32s]
def partN (xs : List Int) (j t : Nat) : Int := part (xs.getD (4 * j) 0) (xs.getD (4 * j + 1) 0) (xs.getD (4 * j + 2) 0) (xs.getD (4 * j + 3) 0) t
def cellsAt (xs : List Int) (m i : Nat) : List Int := (List.range m).map fun j => partN xs j (i - 4 * j)
def nums (xs : List Int) (m : Nat) : List Int := (List.range m).map (numAt xs)
theorem numsLen (xs : List Int) (m : Nat) : (nums xs m).length = m := by simp [nums]
theorem numsGet (xs : List Int) {m i : Nat} (h : i < m) : (nums xs m)[i]? = some (numAt xs i) := by simp [nums, h]
theorem cellsAt_len (xs : List Int) (m i : Nat) : (cellsAt xs m i).length = m := by simp [cellsAt]
theorem part_full (x0 x1 x2 x3 : Int) (k : Nat) : part x0 x1 x2 x3 (k + 4) = x0 + x1 * 256 + x2 * 65536 + x3 * 16777216 := rfl
theorem partN_full (xs : List Int) (j : Nat) {t : Nat} (h : 4 ≤ t) : partN xs j t = numAt xs j := by
  obtain ⟨k, rfl⟩ : ∃ k, t = k + 4 := ⟨t - 4, by omega⟩
  unfold partN numAt bk back4
  rw [part_full]
  omega
theorem cellsAt_zero (xs : List Int) (m : Nat) : cellsAt xs m 0 = List.replicate m 0 := by
  apply List.ext_getElem
  · simp [cellsAt]
  · intro i h1 h2
    simp [cellsAt, partN, part]
theorem cellsAt_full (xs : List Int) (m : Nat) : cellsAt xs m (4 * m) = nums xs m := by
  apply List.ext_getElem
  · simp [cellsAt, nums]
  · intro i h1 h2
    simp only [cellsAt, nums, List.getElem_map, List.getElem_range]
    rw [cellsAt_len] at h1
    exact partN_full xs i (by omega)
theorem cellsAt_get (xs : List Int) {m i q : Nat} (h : q < m) : (cellsAt xs m i)[q]'(by rw [cellsAt_len]; exact h) = partN xs q (i - 4 * q) := by simp [cellsAt]
theorem cellsAt_step (xs : List Int) {m q r : Nat} (hr : r < 4) : (cellsAt xs m (4 * q + r)).set q (partN xs q (r + 1)) = cellsAt xs m (4 * q + r + 1) := by
  apply List.ext_getElem
  · simp [cellsAt]
  · intro i h1 h2
    rw [List.getElem_set]
    by_cases h : q = i
    · subst h
      simp only [if_true, cellsAt, List.getElem_map, List.getElem_range]
      congr 1
      omega
    · simp only [h, if_false, cellsAt, List.getElem_map, List.getElem_range]
      by_cases hlt : i < q
      · rw [partN_full _ _ (by omega), partN_full _ _ (by omega)]
      · rw [show 4 * q + r - 4 * i = 0 by omega, show 4 * q + r + 1 - 4 * i = 0 by omega]
theorem u32s_set (ns : List Int) (q : Nat) (v : Int) : (u32s ns).set q (.int .u32 v) = u32s (ns.set q v) := by simp [u32s, List.map_set]

def TakenIs (xs : List Int) (m : Nat) (w : World) (r : Ending) (w' : World) : Prop := ∃ g, r = .returned (.slice (some ⟨g, 0, none⟩) m m) ∧ w.heap.size ≤ g ∧ Blk w' g 35 (u32s (nums xs m)) ∧ Below w.heap.size w w'
set_option maxHeartbeats 2000000 in
set_option maxRecDepth 100000 in
theorem ktake_is {A : Option Addr} {n c m : Nat} {xs : List Int} {w : World} (hr : Rd w w.heap.size A xs) (hx : Byt xs) (hl : xs.length = n) (hm : n = 4 * m) (hb : m ≤ 20000) : Calls Tryz.prog 112 #[.slice A n c] w (TakenIs xs m w) := by
  have HR := Lib.hid hr
  have HX := Lib.hid hx
  have HL := Lib.hid hl
  have HM := Lib.hid hm
  have hq : (n : Int) / 4 = (m : Int) := by omega
  have hmk := make_zeros32 m hb w
  have hn : n ≤ 80000 := by omega
  have HB := Lib.hid ((Below.refl w.heap.size w).alloc (Nat.le_refl _) (zeros32 m))
  have HZ := Lib.hid (zeros32_blk w m)
  clear hr hx hl hm
  go_enter Tryz.func112, Tryz.ntmps112
  go_wp2_with fail
  obtain ⟨wo, hwo⟩ : ∃ wo : World, wo = w.alloc (zeros32 m) := ⟨_, rfl⟩
  rw [← hwo] at HB HZ ⊢
  obtain ⟨g, hg⟩ : ∃ g, w.heap.size = g := ⟨_, rfl⟩
  have HG := Lib.hid hg
  rw [hg] at HZ ⊢
  clear hmk hwo hg hq
  go_loopg [12] n (fun k x wr => ∃ i : Nat, i ≤ n ∧ k = n - i ∧ x = .int .i64 i ∧ Blk wr g 35 (u32s (cellsAt xs m i)) ∧ Below w.heap.size w wr)
  case atStart => exact ⟨0, by omega, by omega, rfl, by rw [cellsAt_zero]; exact HZ.out, HB.out⟩
  case round =>
    clear HZ HB
    obtain ⟨i, hi, hk, rfl, hbl, hbe⟩ := hrel
    have HK := Lib.hid hk
    have HBL := Lib.hid hbl
    have HB := Lib.hid hbe
    clear hk hbl hbe
    by_cases hlt : i < n
    · obtain ⟨b, o, rfl, hbl, hcell⟩ := (HR.out.below HB.out) (by rw [HL.out]; omega)
      have hix : i < xs.length := by rw [HL.out]; exact hlt
      have c1 := hcell i hix
      have hbx := HX.out.get i hix
      clear hcell hbl
      obtain ⟨q, r, hi4, hr4⟩ : ∃ q r : Nat, i = 4 * q + r ∧ r < 4 := ⟨i / 4, i % 4, by omega, by omega⟩
      have hqm : q < m := by have := HM.out; omega
      have hgx : xs.getD i 0 = xs[i] := by simp [List.getD_eq_getElem?_getD, hix]
      have f1 := Blk.free HBL.out q
      have f2 := Blk.cell HBL.out q (by rw [u32s_len, cellsAt_len]; exact hqm)
      rw [u32s_get, cellsAt_get xs hqm, show i - 4 * q = r by omega] at f2
      have HST : Hid (∀ v, v = partN xs q (r + 1) → Blk (wr.setCell ⟨g, q, none⟩ (.int .u32 v)) g 35 (u32s (cellsAt xs m (i + 1)))) := Lib.hid (by
        rintro v rfl
        have := Blk.put HBL.out q (.int .u32 (partN xs q (r + 1)))
        rw [u32s_set, hi4, cellsAt_step xs hr4] at this
        rw [hi4]
        exact this)
      have hd : (i : Int) / 4 = (q : Int) := by omega
      obtain ⟨x0, hx0⟩ : ∃ x0, xs.getD (4 * q) 0 = x0 := ⟨_, rfl⟩
      obtain ⟨x1, hx1⟩ : ∃ x1, xs.getD (4 * q + 1) 0 = x1 := ⟨_, rfl⟩
      obtain ⟨x2, hx2⟩ : ∃ x2, xs.getD (4 * q + 2) 0 = x2 := ⟨_, rfl⟩
      obtain ⟨x3, hx3⟩ : ∃ x3, xs.getD (4 * q + 3) 0 = x3 := ⟨_, rfl⟩
      have b0 := getD_byt HX.out (4 * q)
      have b1 := getD_byt HX.out (4 * q + 1)
      have b2 := getD_byt HX.out (4 * q + 2)
      have b3 := getD_byt HX.out (4 * q + 3)
      rw [hx0] at b0
      rw [hx1] at b1
      rw [hx2] at b2
      rw [hx3] at b3
      have HPN : Hid (∀ t, partN xs q t = part x0 x1 x2 x3 t) := Lib.hid (fun t => by unfold partN; rw [hx0, hx1, hx2, hx3])
      rcases (show r = 0 ∨ r = 1 ∨ r = 2 ∨ r = 3 by omega) with rfl | rfl | rfl | rfl
      · have hmd : (i : Int) % 4 = 0 := by omega
        have e : xs[i] = x0 := by
          rw [← hx0, show 4 * q = i by omega]
          exact hgx.symm
        rw [e] at c1
        have HA : Hid (bits .or .u32 (0) (x0) = part x0 x1 x2 x3 (0 + 1)) := Lib.hid (by have := or_part (a := 0) (x := x0) 0 (by omega) (by omega) b0.1 (by omega); simpa [part] using this)
        have HPP := Lib.hid (HST.out (bits .or .u32 (0) (x0)) (HA.out.trans (HPN.out _).symm))
        rw [HPN.out] at f2
        have f3 : wr.cell? ⟨g, q, none⟩ = some (.int .u32 (0)) := f2
        have HBB := Lib.hid ((HB.out.setCell (p := ⟨g, q, none⟩) (by have := HG.out; simp; omega) (.int .u32 (bits .or .u32 (0) (x0)))).drew)
        clear f2 e hgx hx0 hx1 hx2 hx3 hi4 hbx HST HPN HA
        go_wp2_with fail
        go_region
        go_wp2_with fail
        go_roundg (n - (i + 1))
        case rel => exact ⟨i + 1, by omega, rfl, by go_num, HPP.out, HBB.out⟩
        case measure => have := HK.out; omega
      · have hmd : (i : Int) % 4 = 1 := by omega
        have e : xs[i] = x1 := by
          rw [← hx1, show 4 * q + 1 = i by omega]
          exact hgx.symm
        rw [e] at c1
        have HA : Hid (bits .or .u32 (x0) (x1 * 256) = part x0 x1 x2 x3 (1 + 1)) := Lib.hid (or_part (a := x0) (x := x1) 8 (by omega) (by omega) b1.1 (by omega))
        have HPP := Lib.hid (HST.out (bits .or .u32 (x0) (x1 * 256)) (HA.out.trans (HPN.out _).symm))
        rw [HPN.out] at f2
        have f3 : wr.cell? ⟨g, q, none⟩ = some (.int .u32 (x0)) := f2
        have HBB := Lib.hid ((HB.out.setCell (p := ⟨g, q, none⟩) (by have := HG.out; simp; omega) (.int .u32 (bits .or .u32 (x0) (x1 * 256)))).drew)
        clear f2 e hgx hx0 hx1 hx2 hx3 hi4 hbx HST HPN HA
        go_wp2_with fail
        go_region
        go_wp2_with fail
        go_roundg (n - (i + 1))
        case rel => exact ⟨i + 1, by omega, rfl, by go_num, HPP.out, HBB.out⟩
        case measure => have := HK.out; omega
      · have hmd : (i : Int) % 4 = 2 := by omega
        have e : xs[i] = x2 := by
          rw [← hx2, show 4 * q + 2 = i by omega]
          exact hgx.symm
        rw [e] at c1
        have HA : Hid (bits .or .u32 (x0 + x1 * 256) (x2 * 65536) = part x0 x1 x2 x3 (2 + 1)) := Lib.hid (or_part (a := x0 + x1 * 256) (x := x2) 16 (by omega) (by omega) b2.1 (by omega))
        have HPP := Lib.hid (HST.out (bits .or .u32 (x0 + x1 * 256) (x2 * 65536)) (HA.out.trans (HPN.out _).symm))
        rw [HPN.out] at f2
        have f3 : wr.cell? ⟨g, q, none⟩ = some (.int .u32 (x0 + x1 * 256)) := f2
        have HBB := Lib.hid ((HB.out.setCell (p := ⟨g, q, none⟩) (by have := HG.out; simp; omega) (.int .u32 (bits .or .u32 (x0 + x1 * 256) (x2 * 65536)))).drew)
        clear f2 e hgx hx0 hx1 hx2 hx3 hi4 hbx HST HPN HA
        go_wp2_with fail
        go_region
        go_wp2_with fail
        go_roundg (n - (i + 1))
        case rel => exact ⟨i + 1, by omega, rfl, by go_num, HPP.out, HBB.out⟩
        case measure => have := HK.out; omega
      · have hmd : (i : Int) % 4 = 3 := by omega
        have e : xs[i] = x3 := by
          rw [← hx3, show 4 * q + 3 = i by omega]
          exact hgx.symm
        rw [e] at c1
        have HA : Hid (bits .or .u32 (x0 + x1 * 256 + x2 * 65536) (x3 * 16777216) = part x0 x1 x2 x3 (3 + 1)) := Lib.hid (or_part (a := x0 + x1 * 256 + x2 * 65536) (x := x3) 24 (by omega) (by omega) b3.1 (by omega))
        have HPP := Lib.hid (HST.out (bits .or .u32 (x0 + x1 * 256 + x2 * 65536) (x3 * 16777216)) (HA.out.trans (HPN.out _).symm))
        rw [HPN.out] at f2
        have f3 : wr.cell? ⟨g, q, none⟩ = some (.int .u32 (x0 + x1 * 256 + x2 * 65536)) := f2
        have HBB := Lib.hid ((HB.out.setCell (p := ⟨g, q, none⟩) (by have := HG.out; simp; omega) (.int .u32 (bits .or .u32 (x0 + x1 * 256 + x2 * 65536) (x3 * 16777216)))).drew)
        clear f2 e hgx hx0 hx1 hx2 hx3 hi4 hbx HST HPN HA
        go_wp2_with fail
        go_region
        go_wp2_with fail
        go_roundg (n - (i + 1))
        case rel => exact ⟨i + 1, by omega, rfl, by go_num, HPP.out, HBB.out⟩
        case measure => have := HK.out; omega
    · obtain rfl : i = n := by omega
      have HF : Hid (Blk wr g 35 (u32s (nums xs m))) := Lib.hid (by rw [← cellsAt_full, ← HM.out]; exact HBL.out)
      go_wp2_with fail
      go_ret
      exact ⟨g, rfl, by rw [HG.out]; exact Nat.le_refl _, HF.out, HB.out⟩
end Go.Proofs.YthmpimjmajoimaaGreatDoor
namespace Go.Proofs.YthmpimjmajoimaaGreatDoor
open Go.RowKit

theorem eq_nil32 (a : Option Addr) (n c : Nat) (w : World) : (binOp .eql 38 (.slice a n c) (.slice none 0 0)).run Tryz.prog w = .ok (.bool a.isNone) w := by
  simp only [binOp]
  simp [run_equal_slice_nil w 38 35 a n c Tryz.underlying38]
def Nums1Is (m : Nat) (ns : List Int) (w : World) (r : Ending) (w' : World) : Prop := ∃ g cap, r = .returned (.slice (some ⟨g, 0, none⟩) m cap) ∧ OwnG w' w.heap.size 35 g cap (u32s ns) ∧ Below w.heap.size w w'
set_option maxHeartbeats 1000000 in
set_option maxRecDepth 100000 in
theorem clone_is {A : Option Addr} {n c : Nat} {ns : List Int} {w : World} (hl : ns.length = n) (hv : RdV w w.heap.size A (u32s ns)) (h1 : 1 ≤ n) (hn : n ≤ 1000) : Calls Tryz.prog 118 #[.slice A n c] w (Nums1Is n ns w) := by
  obtain ⟨b, o, rfl, hlt, _⟩ := id hv (by rw [u32s_len]; omega)
  have HL := Lib.hid hl
  have HV := Lib.hid hv
  have HE := Lib.hid (OwnG.new w w.heap.size 35 [] (Nat.le_refl _) (by simp))
  have HB := Lib.hid (Below.alloc (Below.refl w.heap.size w) (Nat.le_refl _) (.cells #[] 35))
  clear hl hv
  have hq := eq_nil32
  go_enter Tryz.func118, Tryz.ntmps118
  go_wp2_with (first
    | (at_builtin; refine appG _ rfl (.tmp 5) (.tmp 6) 38 35 (.int .u32 0) 4 rfl Tryz.underlying38 infoU32 (by decide) (by decide) w.heap.size w.heap.size 0 0 n c [] (u32s ns) ⟨b, o, none⟩ rfl HE.out rfl rfl ?h12 ?h1src (one_u32s _) ?h13 ?h14 ?h15 ?h16; (case h12 => rw [u32s_len]; exact HL.out); (case h13 => omega); (case h14 => omega); (case h15 => simp); (case h1src => exact RdV.src (HV.out.below HB.out)); intro g4 cap4 w4 ho hg hgg; have HO4 := Lib.hid ho; have HB4 := Lib.hid (HB.out.grown hg HB.out.size (fun j hj => by have := Option.some.inj hj; omega)); clear ho hg hgg HE HB)
    | fail)
  go_ret
  refine ⟨g4, cap4, rfl, ?_, HB4.out⟩
  have := HO4.out
  rwa [List.nil_append] at this

def GrownIs (w : World) (r : Ending) (w' : World) : Prop := ∃ g cap, r = .returned (.slice (some ⟨g, 0, none⟩) 0 cap) ∧ Own8 w' w.heap.size g cap [] ∧ Below w.heap.size w w'
set_option maxHeartbeats 1000000 in
set_option maxRecDepth 100000 in
theorem grow_is (n : Nat) (w : World) (h1 : 1 ≤ n) (hn : n ≤ 20000) : Calls Tryz.prog 131 #[.slice none 0 0, .int .i64 (n : Int)] w (GrownIs w) := by
  obtain ⟨i0, hi, hz0, hz1, hz2⟩ := info_parts byteInfo
  have hz := Lib.run_append_nil_zeros w 61 3 61 5 i0 (.int .u8 0) .i64 .i64 Tryz.underlying61 Tryz.underlying3 hi hz0 n h1 (by rw [hz1]; omega) (by omega) (by rw [hz2]; omega)
  have hcap := grownCap_le_maxLen w n 0 5 (by unfold maxLen; omega)
  have hcap2 := grownCap_ge w n 0 5
  generalize grownCap w n 0 5 = cap at *
  have HO : Hid (Own8 (w.drew.alloc (.cells (Builtin.zeroCells (Value.int .u8 0).cells n ++ Builtin.zeroCells (Value.int .u8 0).cells (cap - n)) 5)) w.heap.size w.heap.size cap []) := Lib.hid
    ⟨by simp [cellsOf8], .inr ⟨w.heap.size, cap, _, rfl, Nat.le_refl _, heap_alloc_new w.drew _, by simp, hcap, by simp [size_zeroCells, Value.cells]; omega, by simp [cellsOf8]⟩⟩
  have HB := Lib.hid (Below.alloc (Below.refl w.heap.size w).drew (Nat.le_refl _) (.cells (Builtin.zeroCells (Value.int .u8 0).cells n ++ Builtin.zeroCells (Value.int .u8 0).cells (cap - n)) 5))
  have HZ := Lib.hid hz
  clear hz hz0 hz1 hz2 hi
  go_enter Tryz.func131, Tryz.ntmps131
  go_wp2_with (first
    | (at_builtin; refine Lib.wpList_append_run _ rfl _ _ _ _ rfl _ _ rfl rfl _ _ HZ.out ?_)
    | fail)
  go_ret
  exact ⟨w.heap.size, cap, rfl, HO.out, HB.out⟩

/-- A row of bytes, one or more. -/
def Own1Is (m : Nat) (xs : List Int) (w : World) (r : Ending) (w' : World) : Prop := ∃ g cap, r = .returned (.slice (some ⟨g, 0, none⟩) m cap) ∧ Own8 w' w.heap.size g cap xs ∧ Below w.heap.size w w'
set_option maxHeartbeats 2000000 in
set_option maxRecDepth 100000 in
theorem concat_is {A : Option Addr} {n c m : Nat} {vs : List Value} {l : List (List Int)} {w : World} (hl : l.length = n) (hv : RdV w w.heap.size A vs) (hr : RdR w vs l) (h16 : ∀ x ∈ l, x.length = 16) (h1 : 1 ≤ n) (hn : n ≤ 1000) (hm : 16 * n = m) :
    Calls Tryz.prog 113 #[.slice A n c] w (Own1Is m l.flatten w) := by
  obtain ⟨b, o, rfl, hbl, hcell⟩ := hv (by rw [hr.1]; omega)
  have HL := Lib.hid hl
  have HV := Lib.hid hcell
  have HR := Lib.hid hr
  have H16 := Lib.hid h16
  have HM := Lib.hid hm
  have hmb : 1 ≤ m ∧ m ≤ 16000 := by omega
  clear hl hv hr h16 hm hcell
  go_enter Tryz.func113, Tryz.ntmps113
  go_wp2_with fail
  go_loopg [3, 11] n (fun q s x wr => ∃ i : Nat, i ≤ n ∧ q = n - i ∧ x = .int .i64 i ∧ s = .int .i64 ((16 * i : Nat) : Int) ∧ w = wr)
  case atStart => exact ⟨0, by omega, by omega, rfl, rfl, rfl⟩
  case round =>
    obtain ⟨i, hi, hk, rfl, rfl, rfl⟩ := hrel
    have HK := Lib.hid hk
    clear hk
    by_cases hlt : i < n
    · have hk1 : i < l.length := by rw [HL.out]; exact hlt
      have hv1 : i < vs.length := by rw [HR.out.1]; exact hk1
      obtain ⟨A1, d1, e1, hd1, hx1⟩ := HR.out.2 i hv1 hk1
      have c0 := HV.out i hv1
      rw [e1, H16.out _ (List.getElem_mem hk1)] at c0
      clear e1 hx1 hd1
      obtain ⟨t, ht⟩ : ∃ t : Nat, 16 * i = t := ⟨_, rfl⟩
      have htb : t ≤ 16000 := by omega
      rw [ht]
      go_wp2_with fail
      go_roundg (n - (i + 1))
      case rel => exact ⟨i + 1, by omega, rfl, by go_num, by rw [Nat.mul_add, ht]; go_num, rfl⟩
      case measure => have := HK.out; omega
    · obtain rfl : i = n := by omega
      clear HK
      rw [HM.out]
      go_wp2_with fail
      refine (grow_is m w hmb.1 (by omega)).mono ?_
      rintro r w1 ⟨g0, cap0, rfl, ho, hb⟩
      have HO0 := Lib.hid ho
      have HB0 := Lib.hid hb
      clear ho hb
      go_wp2_with fail
      go_loopg [6, 27] i (fun q s x wr => ∃ k g cap : Nat, k ≤ i ∧ q = i - k ∧ x = .int .i64 k ∧ s = .slice (some ⟨g, 0, none⟩) (16 * k) cap ∧ Own8 wr w.heap.size g cap (l.take k).flatten ∧ Below w.heap.size w wr)
      case atStart => exact ⟨0, g0, cap0, by omega, by omega, rfl, rfl, HO0.out, HB0.out⟩
      case round =>
        clear HO0 HB0
        obtain ⟨k, g, cap, hk, hq, rfl, rfl, ho, hb⟩ := hrel
        have HQ := Lib.hid hq
        have HO := Lib.hid ho
        have HB := Lib.hid hb
        clear hq ho hb
        by_cases hlt : k < i
        · have hk1 : k < l.length := by rw [HL.out]; exact hlt
          have hv1 : k < vs.length := by rw [HR.out.1]; exact hk1
          obtain ⟨A1, d1, e1, hd1, hx1⟩ := HR.out.2 k hv1 hk1
          have hx2 := rd_up hx1 HB.out
          have h16 := H16.out _ (List.getElem_mem hk1)
          obtain ⟨b1, o1, rfl, _, _⟩ := id hx2 (by omega)
          have c0 := (HB.out.cell (p := ⟨b, o + k, none⟩) hbl).trans (HV.out k hv1)
          rw [e1, h16] at c0
          have HX := Lib.hid hx2
          have H1 := Lib.hid h16
          have HF := Lib.hid (take_flatten hk1)
          have HLK : Hid ((l.take k).flatten.length = 16 * k) := Lib.hid (by
            rw [flat_len16 (fun x hx => H16.out x (List.mem_of_mem_take hx)), List.length_take, Nat.min_eq_left (by omega)])
          clear e1 hx1 hx2 hd1 h16
          generalize l[k] = x at *
          go_wp2_with (first
            | (at_builtin; refine app8 _ rfl (.tmp 31) (.tmp 32) rfl w.heap.size wr.heap.size g cap (16 * k) 16 d1 ((l.take k).flatten) x (some ⟨b1, o1, none⟩) rfl HO.out HLK.out rfl HX.out H1.out (fun h => by cases h) ?h21 ?h22 ?h23 ?h24; (case h21 => omega); (case h22 => omega); (case h23 => exact HB.out.size); intro g3 cap3 w3 ho hg; have HO3 := Lib.hid ho; have HB3 := Lib.hid (HB.out.grown hg HB.out.size (fun j hj => by have := Option.some.inj hj; have := HO.out.mem.1; omega)); clear ho hg HB HO)
            | fail)
          go_roundg (i - (k + 1))
          case rel => exact ⟨k + 1, g3, cap3, by omega, rfl, by go_num, by rw [Nat.mul_add], by rw [← HF.out]; exact HO3.out, HB3.out⟩
          case measure => have := HQ.out; omega
        · obtain rfl : k = i := by omega
          have HO2 := HO.out
          rw [List.take_of_length_le (by rw [HL.out]; omega)] at HO2
          have HO3 := Lib.hid HO2
          clear HO2
          go_wp2_with fail
          go_ret
          exact ⟨g, cap, by rw [← HM.out]; rfl, HO3.out, HB.out⟩
end Go.Proofs.YthmpimjmajoimaaGreatDoor
namespace Go.Proofs.YthmpimjmajoimaaGreatDoor
open Go.RowKit

/-- What an iterator promises of a body that always goes on: behind all rounds S of what has come, and of the world. -/
def SeqSeen {α : Type} (F : Fence) (n : Nat) (P : Program) (g : Nat) (lb : Array Value) (encs : α → Array Value) (Kp : World → World → Prop) (S : List α → World → Prop) (N : Nat) (w : World) : Prop :=
  ∀ (l : Nat) (J : List α → World → Prop) (W : World), Below w.heap.size w W → AbidesFrom W.heap.size J →
    (∀ pre x W1, J pre W1 → pre.length < N → YieldAt F (n - 1) P l (encs x) W1 fun e W' => e = .returned (.bool true) ∧ J (pre ++ [x]) W' ∧ Kp W1 W') → J [] W →
    CallsIn F n P g (#[.func (.yield l) #[] #[]] ++ lb) W fun e W' => (∃ v, e = .returned v) ∧ ∃ xs, S xs W' ∧ J xs W'

variable {F : Fence} {n : Nat} {P : Program}
/-- The record of such a loop. -/
def recOf (fn : FuncId) (t : Array Value) (ps : Array Tmp) (assign body : Code) (D : Nat) (st : LoopState) : Loop := { state := st, pending := none, fn := fn, tmps := t, params := ps, assign := assign, body := body, defers := D }

theorem range_seen {α : Type} {g : Operand} {ps : Array Tmp} {assign body : Code} {Q : Exit → Act → World → Prop} {a : Act} {w : World}
    (hro : F.round = none) (h1 : 1 ≤ n) {gf : Nat} {lb : Array Value} (hg : a.eval g = .func (.func gf) #[] lb) (hFg : F.fn gf) (eg : ∀ args w, (callFunc gf args).run P w = .ok (.enter gf args) w)
    {encs : α → Array Value} {Kp : World → World → Prop} {S : List α → World → Prop} {N : Nat} (hseq : SeqSeen F (n - 1) P gf lb encs Kp S N w)
    (hKt : ∀ {A B C : World}, Kp A B → Kp B C → Kp A C) (hKb : ∀ (W : World) (l : Nat) (o o' : Obj), w.heap.size ≤ l → W.heap[l]? = some o → o.isCells = false → Kp W (W.putObj l o'))
    (hS : ∀ (xs : List α) (W : World) (l : Nat) (o o' : Obj), w.heap.size ≤ l → S xs W → W.heap[l]? = some o → o.isCells = false → S xs (W.putObj l o'))
    (hps : ∀ x, (encs x).size = ps.size) (I : List α → World → Prop) (hI : OwnFrom w.heap.size I) (h0 : I [] w) (a₁ : α → Act)
    (hassign : ∀ (l : Nat) (x : α) (W : World) (K : Act → World → Prop), K (a₁ x) W →
      assign.wpIn (F.inRound l) (n - 1 - 1) P (Exit.then K (fun _ _ _ => False)) { tmps := (ps.zip (encs x)).foldl (fun t (p, v) => t.setIfInBounds p v) a.tmps, defers := [] } W)
    (hbody : ∀ (l : Nat) (pre : List α) (x : α) (W : World), I pre W → pre.length < N → body.wpIn (F.inRound l) (n - 1 - 1) P (fun e _ W' => e = .normal ∧ KeepsOthers W W' ∧ Kp W W' ∧ I (pre ++ [x]) W') (a₁ x) W)
    (hdone : ∀ (D : Nat) (xs : List α) (W : World), w.heap.size ≤ D → S xs W → I xs W → W.heap[D]? = some (.deferred (some [])) → Q .normal { a with defers := { target := .collected D, args := #[] } :: a.defers } W) :
    (Code.rangeFunc g ps assign body).wpIn F n P Q a w := by
  refine wpIn_rangeFunc ?_
  intro fn hfn
  rw [hro]
  have hsz : (w.alloc (.deferred (some []))).heap.size = w.heap.size + 1 := World.size_alloc _ _
  obtain ⟨W1, hW1⟩ : ∃ W1, (w.alloc (.deferred (some []))).alloc (.loop (recOf fn a.tmps ps assign body w.heap.size .ready)) = W1 := ⟨_, rfl⟩
  have hL1 : W1.heap[w.heap.size + 1]? = some (.loop (recOf fn a.tmps ps assign body w.heap.size .ready)) := by
    have := World.alloc_heap_new (w.alloc (.deferred (some []))) (.loop (recOf fn a.tmps ps assign body w.heap.size .ready))
    rwa [hsz, hW1] at this
  have hD1 : W1.heap[w.heap.size]? = some (.deferred (some [])) := by
    rw [← hW1]
    exact (Below.heap_alloc _ _ _ (by rw [hsz]; omega)).trans (World.alloc_heap_new w _)
  have hI1 : I [] W1 := by
    rw [← hW1]
    exact hI.alloc _ (hI.alloc _ h0)
  have hb1 : Below w.heap.size w W1 := by
    rw [← hW1]
    exact ((Below.refl _ w).alloc (Nat.le_refl _) _).alloc (by rw [hsz]; omega) _
  have hs1 : W1.heap.size = w.heap.size + 2 := by
    rw [← hW1, World.size_alloc, hsz]
  refine ⟨w.heap.size + 1, [{ target := .collected w.heap.size, args := #[] }], W1, { target := .fn (.func gf) lb, args := #[.func (.yield (w.heap.size + 1)) #[] #[]] }, W1, gf,
    #[.func (.yield (w.heap.size + 1)) #[] #[]] ++ lb, W1, ?_, ?_, ?_, ?_, fun _ => h1, ?_⟩
  · rw [← hW1]
    exact run_enterLoop_outer _ _ _ _ _
  · simp only [resolve, hg]
    simp [go_sem]
  · intro f' hf'
    simp [Target.leads] at hf'
    subst hf'
    exact hFg
  · simp [invoke, go_sem, eg]
  · have hJ : AbidesFrom W1.heap.size (fun pre W => I pre W ∧ W.heap[w.heap.size + 1]? = some (.loop (recOf fn a.tmps ps assign body w.heap.size .ready)) ∧ W.heap[w.heap.size]? = some (.deferred (some []))) := by
      intro s A B row hs hgr hrow
      have hnc : ∀ r, row = some r → w.heap.size ≤ r ∧ ∃ o : Obj, A.heap[r]? = some o ∧ o.isCells = false := fun r e => by
        obtain ⟨hB, o, ho, hw⟩ := hrow r e
        exact ⟨by omega, o, ho, Obj.not_cells_of_walk hw⟩
      exact ⟨hI s A B row hs.1 hgr hnc, (grownBy_keeps hgr (fun r e => (hrow r e).2) hs.2.1 rfl).trans hs.2.1, (grownBy_keeps hgr (fun r e => (hrow r e).2) hs.2.2 rfl).trans hs.2.2⟩
    refine (hseq (w.heap.size + 1) _ W1 hb1 hJ ?_ ⟨hI1, hL1, hD1⟩).mono ?_
    · rintro pre x W ⟨hi, hl, hd⟩ hlen
      have hlt : w.heap.size + 1 < W.heap.size := (Array.getElem?_eq_some_iff.1 hl).1
      refine ⟨fn, _, assign, body, run_yield hl (hps x), roundIn_of_wpIn hfn (hassign _ x W _ ⟨_, run_beginRound hl rfl, ?_⟩)⟩
      obtain ⟨W2, hW2⟩ : ∃ W2, W.putObj (w.heap.size + 1) (.loop (recOf fn a.tmps ps assign body w.heap.size .busy)) = W2 := ⟨_, rfl⟩
      have hl2 : W2.heap[w.heap.size + 1]? = some (.loop (recOf fn a.tmps ps assign body w.heap.size .busy)) := by
        rw [← hW2]
        exact World.putObj_heap_same hlt
      have hd2 : W2.heap[w.heap.size]? = some (.deferred (some [])) := by
        rw [← hW2]
        exact (World.putObj_heap_other (by omega)).trans hd
      have hi2 : I pre W2 := by
        rw [← hW2]
        exact hI.putObj _ hi (by omega) hl rfl
      have hk2 : Kp W W2 := by
        rw [← hW2]
        exact hKb _ _ _ _ (by omega) hl rfl
      show body.wpIn _ _ _ _ _ (W.putObj (w.heap.size + 1) (.loop (recOf fn a.tmps ps assign body w.heap.size .busy)))
      rw [hW2]
      refine wpIn_mono (hbody _ pre x W2 hi2 hlen) ?_
      rintro e a3 W3 ⟨rfl, hko, hkp, hi3⟩
      have hl3 := hko.same _ _ hl2 rfl
      have hd3 := hko.same _ _ hd2 rfl
      have hlt3 := (Array.getElem?_eq_some_iff.1 hl3).1
      refine ⟨_, _, run_endRound none hl3, rfl, ⟨hI.putObj _ hi3 (by omega) hl3 rfl, World.putObj_heap_same hlt3, (World.putObj_heap_other (by omega)).trans hd3⟩, hKt (hKt hk2 hkp) (hKb _ _ _ _ (by omega) hl3 rfl)⟩
    · rintro e W2 ⟨⟨v, rfl⟩, xs, hs, hi, hl, hd⟩
      exact ⟨none, _, run_endLoop hl (by simp [recOf]), hdone _ xs _ (Nat.le_refl _) (hS _ _ _ _ _ (by omega) hs hl rfl) (hI.putObj _ hi (by omega) hl rfl) ((World.putObj_heap_other (by omega)).trans hd)⟩
end Go.Proofs.YthmpimjmajoimaaGreatDoor
