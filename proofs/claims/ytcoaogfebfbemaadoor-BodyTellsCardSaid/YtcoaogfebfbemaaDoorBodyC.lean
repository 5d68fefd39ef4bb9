/-
  The document's ToPlaces and ToTrim.
-/
import Derived.Test.YtcoaogfebfbemaaDoorBodyB
import Derived.BigRegion
namespace Go.Proofs.YtcoaogfebfbemaaDoor
open Go.RowKit

/-- What bytes say: addresses, and an error's code; a trim, and an error's code. -/
def toE (xs : List Int) : Int := if xs.length = 16 then 0 else 3
def toN (xs : List Int) (i : Nat) : Int := if xs.length = 16 then bk xs (4 * i) else 0
def trimE (xs : List Int) : Int := if xs.length ≠ 16 then 3 else if toN xs 0 = 0 ∨ toN xs 1 ≠ 0 ∨ toN xs 2 ≠ 0 ∨ toN xs 3 ≠ 0 then 2 else 0
def trimN (xs : List Int) : Int := if trimE xs = 0 then toN xs 0 else 0
abbrev toV (xs : List Int) : Value := pV (toN xs 0) (toN xs 1) (toN xs 2) (toN xs 3)
theorem toN_no {xs : List Int} (h : xs.length ≠ 16) (i : Nat) : toN xs i = 0 := if_neg h
theorem toN_yes {xs : List Int} (h : xs.length = 16) (i : Nat) : toN xs i = bk xs (4 * i) := if_pos h
theorem toE_no {xs : List Int} (h : xs.length ≠ 16) : toE xs = 3 := if_neg h
theorem toE_yes {xs : List Int} (h : xs.length = 16) : toE xs = 0 := if_pos h

def ToIs (e : Value) (xs : List Int) (w : World) (r : Ending) (w' : World) : Prop := r = .returned (.tuple #[toV xs, e]) ∧ Below w.heap.size w w'
theorem blk_new (w : World) (a b c d : Int) (T : TypeId) : Blk (w.alloc (.cells #[.int .u32 a, .int .u32 b, .int .u32 c, .int .u32 d] T)) w.heap.size T [.int .u32 a, .int .u32 b, .int .u32 c, .int .u32 d] := heap_alloc_new w _
theorem below_four {B g : Nat} {w w' : World} (h : Below B w w') (hg : B ≤ g) (v0 v1 v2 v3 : Value) : Below B w ((((w'.setCell ⟨g, 0, none⟩ v0).setCell ⟨g, 1, none⟩ v1).setCell ⟨g, 2, none⟩ v2).setCell ⟨g, 3, none⟩ v3) :=
  (((h.setCell (p := ⟨g, 0, none⟩) hg _).setCell (p := ⟨g, 1, none⟩) hg _).setCell (p := ⟨g, 2, none⟩) hg _).setCell (p := ⟨g, 3, none⟩) hg _

theorem rto_short (A : Option Addr) (n c : Nat) (w : World) (h : n ≠ 16) : Calls Tryd.prog 7 #[.slice A n c] w fun r w' => r = .returned (.tuple #[pV 0 0 0 0, .int .i64 3]) ∧ Below w.heap.size w w' := by
  have q1 : ((n : Int) == 16) = false := by simp; omega
  have HB0 := Lib.hid ((Below.refl w.heap.size w).alloc (Nat.le_refl _) (.cells #[.int .u32 0, .int .u32 0, .int .u32 0, .int .u32 0] 23))
  go_enter Tryd.func7, Tryd.ntmps7
  go_wp2_with fail
  refine bodyPost_ret (v := .tuple #[.agg #[.int .u32 0, .int .u32 0, .int .u32 0, .int .u32 0], .int .i64 3]) (by simp [results, Tryd.results7, go_sem]) rfl ⟨rfl, ?_⟩
  exact HB0.out.alloc HB0.out.size (.cells #[.int .u32 0, .int .u32 0, .int .u32 0, .int .u32 0] 23)

set_option maxHeartbeats 4000000 in
set_option maxRecDepth 100000 in
theorem rto_ok (b o c : Nat) (xs : List Int) (w : World) (hr : Rd w w.heap.size (some ⟨b, o, none⟩) xs) (hx : Byt xs) (hl : xs.length = 16) (_hc : 16 ≤ c) :
    Calls Tryd.prog 7 #[.slice (some ⟨b, o, none⟩) 16 c] w fun r w' => r = .returned (.tuple #[pV (bk xs 0) (bk xs 4) (bk xs 8) (bk xs 12), .int .i64 0]) ∧ Below w.heap.size w w' := by
  obtain ⟨_, _, hA, hbl, _⟩ := hr (by omega)
  injection hA with hA
  injection hA with e1 e2
  subst e1 e2
  have HR := Lib.hid hr
  have HX := Lib.hid hx
  have HL := Lib.hid hl
  clear hr hx hl
  have HB0 := Lib.hid ((Below.refl w.heap.size w).alloc (Nat.le_refl _) (.cells #[.int .u32 0, .int .u32 0, .int .u32 0, .int .u32 0] 23))
  have HH0 := Lib.hid (blk_new w 0 0 0 0 23)
  go_enter Tryd.func7, Tryd.ntmps7
  go_wp2_with fail
  obtain ⟨w1, hw1⟩ : ∃ w1 : World, w1 = w.alloc (.cells #[.int .u32 0, .int .u32 0, .int .u32 0, .int .u32 0] 23) := ⟨_, rfl⟩
  have hz1 : w1.heap.size = w.heap.size + 1 := by rw [hw1]; simp
  rw [← hw1] at HB0 HH0 ⊢
  clear hw1
  have HB2 := Lib.hid (HB0.out.alloc HB0.out.size (.cells #[.int .u32 0, .int .u32 0, .int .u32 0, .int .u32 0] 23))
  have HH2 := Lib.hid (HH0.out.up (Below.alloc (Below.refl w1.heap.size w1) (Nat.le_refl _) (.cells #[.int .u32 0, .int .u32 0, .int .u32 0, .int .u32 0] 23)) (lt_of_block HH0.out))
  have HP2 := Lib.hid (blk_new w1 0 0 0 0 23)
  rw [hz1] at HP2
  clear hz1 HB0 HH0
  obtain ⟨w2, hw2⟩ : ∃ w2 : World, w2 = w1.alloc (.cells #[.int .u32 0, .int .u32 0, .int .u32 0, .int .u32 0] 23) := ⟨_, rfl⟩
  rw [← hw2] at HB2 HH2 HP2 ⊢
  clear hw2
  go_loopg [5] 4 (fun k x wr => ∃ i : Nat, i ≤ 4 ∧ k = 4 - i ∧ x = .int .i64 i ∧ w2.grownBy wr (some (w.heap.size + 1)) ∧ Blk wr (w.heap.size + 1) 23 (u32s ([bk xs 0, bk xs 4, bk xs 8, bk xs 12].take i ++ List.replicate (4 - i) 0)))
  case atStart => exact ⟨0, by omega, by omega, rfl, World.grownBy.refl _ _, HP2.out⟩
  case round =>
    clear HP2
    obtain ⟨i, hi, hk, rfl, hgr, hbl⟩ := hrel
    have HK := Lib.hid hk
    have HGR := Lib.hid hgr
    clear hk hgr
    by_cases hlt : i < 4
    · have hi4 : i = 0 ∨ i = 1 ∨ i = 2 ∨ i = 3 := by omega
      clear hi hlt
      rcases hi4 with rfl | rfl | rfl | rfl
      · have HBL : Hid (Blk wr (w.heap.size + 1) 23 [.int .u32 0, .int .u32 0, .int .u32 0, .int .u32 0]) := Lib.hid hbl
        clear hbl
        obtain ⟨x0, x1, x2, x3, hn, b0, b1, b2, b3, c0, c1, c2, c3⟩ := rd_four_at 0 (HR.out.below (HB2.out.grown HGR.out HB2.out.size (fun j hj => by injection hj; omega))) HX.out (by rw [HL.out]; omega)
        simp only [Nat.add_zero] at c0 c1 c2 c3
        have f1 := Blk.free HBL.out 0
        have f2 := Blk.cell HBL.out 0 (by simp)
        have HP := Lib.hid (Blk.put HBL.out 0 (.int .u32 (bk xs 0)))
        have HN : Hid (x0 + 256 * x1 + 65536 * x2 + 16777216 * x3 = bk xs 0) := Lib.hid hn.symm
        clear hn
        go_wp2_with fail
        go_region
        go_wp2_with fail
        go_roundg (4 - (0 + 1))
        case rel => exact ⟨0 + 1, by omega, rfl, by go_num, grown_drew (grown_put HGR.out _ _), by rw [HN.out]; exact HP.out⟩
        case measure => have := HK.out; omega
      · have HBL : Hid (Blk wr (w.heap.size + 1) 23 [.int .u32 (bk xs 0), .int .u32 0, .int .u32 0, .int .u32 0]) := Lib.hid hbl
        clear hbl
        obtain ⟨x0, x1, x2, x3, hn, b0, b1, b2, b3, c0, c1, c2, c3⟩ := rd_four_at 4 (HR.out.below (HB2.out.grown HGR.out HB2.out.size (fun j hj => by injection hj; omega))) HX.out (by rw [HL.out]; omega)
        have f1 := Blk.free HBL.out 1
        have f2 := Blk.cell HBL.out 1 (by simp)
        have HP := Lib.hid (Blk.put HBL.out 1 (.int .u32 (bk xs 4)))
        have HN : Hid (x0 + 256 * x1 + 65536 * x2 + 16777216 * x3 = bk xs 4) := Lib.hid hn.symm
        clear hn
        go_wp2_with fail
        go_region
        go_wp2_with fail
        go_roundg (4 - (1 + 1))
        case rel => exact ⟨1 + 1, by omega, rfl, by go_num, grown_drew (grown_put HGR.out _ _), by rw [HN.out]; exact HP.out⟩
        case measure => have := HK.out; omega
      · have HBL : Hid (Blk wr (w.heap.size + 1) 23 [.int .u32 (bk xs 0), .int .u32 (bk xs 4), .int .u32 0, .int .u32 0]) := Lib.hid hbl
        clear hbl
        obtain ⟨x0, x1, x2, x3, hn, b0, b1, b2, b3, c0, c1, c2, c3⟩ := rd_four_at 8 (HR.out.below (HB2.out.grown HGR.out HB2.out.size (fun j hj => by injection hj; omega))) HX.out (by rw [HL.out]; omega)
        have f1 := Blk.free HBL.out 2
        have f2 := Blk.cell HBL.out 2 (by simp)
        have HP := Lib.hid (Blk.put HBL.out 2 (.int .u32 (bk xs 8)))
        have HN : Hid (x0 + 256 * x1 + 65536 * x2 + 16777216 * x3 = bk xs 8) := Lib.hid hn.symm
        clear hn
        go_wp2_with fail
        go_region
        go_wp2_with fail
        go_roundg (4 - (2 + 1))
        case rel => exact ⟨2 + 1, by omega, rfl, by go_num, grown_drew (grown_put HGR.out _ _), by rw [HN.out]; exact HP.out⟩
        case measure => have := HK.out; omega
      · have HBL : Hid (Blk wr (w.heap.size + 1) 23 [.int .u32 (bk xs 0), .int .u32 (bk xs 4), .int .u32 (bk xs 8), .int .u32 0]) := Lib.hid hbl
        clear hbl
        obtain ⟨x0, x1, x2, x3, hn, b0, b1, b2, b3, c0, c1, c2, c3⟩ := rd_four_at 12 (HR.out.below (HB2.out.grown HGR.out HB2.out.size (fun j hj => by injection hj; omega))) HX.out (by rw [HL.out]; omega)
        have f1 := Blk.free HBL.out 3
        have f2 := Blk.cell HBL.out 3 (by simp)
        have HP := Lib.hid (Blk.put HBL.out 3 (.int .u32 (bk xs 12)))
        have HN : Hid (x0 + 256 * x1 + 65536 * x2 + 16777216 * x3 = bk xs 12) := Lib.hid hn.symm
        clear hn
        go_wp2_with fail
        go_region
        go_wp2_with fail
        go_roundg (4 - (3 + 1))
        case rel => exact ⟨3 + 1, by omega, rfl, by go_num, grown_drew (grown_put HGR.out _ _), by rw [HN.out]; exact HP.out⟩
        case measure => have := HK.out; omega
    · obtain rfl : i = 4 := by omega
      have HBL : Hid (Blk wr (w.heap.size + 1) 23 [.int .u32 (bk xs 0), .int .u32 (bk xs 4), .int .u32 (bk xs 8), .int .u32 (bk xs 12)]) := Lib.hid hbl
      have HHR := Lib.hid (HH2.out.kept HGR.out (fun e => by injection e; omega))
      clear hbl
      obtain ⟨n0, e0⟩ : ∃ n, bk xs 0 = n := ⟨_, rfl⟩
      obtain ⟨n1, e1⟩ : ∃ n, bk xs 4 = n := ⟨_, rfl⟩
      obtain ⟨n2, e2⟩ : ∃ n, bk xs 8 = n := ⟨_, rfl⟩
      obtain ⟨n3, e3⟩ : ∃ n, bk xs 12 = n := ⟨_, rfl⟩
      rw [e0, e1, e2, e3] at HBL
      have E0 := Lib.hid e0
      have E1 := Lib.hid e1
      have E2 := Lib.hid e2
      have E3 := Lib.hid e3
      clear e0 e1 e2 e3
      have c0 := HBL.out.cell 0 (by simp)
      have c1 := HBL.out.cell 1 (by simp)
      have c2 := HBL.out.cell 2 (by simp)
      have c3 := HBL.out.cell 3 (by simp)
      have d0 := HHR.out.cell 0 (by simp)
      have d1 := HHR.out.cell 1 (by simp)
      have d2 := HHR.out.cell 2 (by simp)
      have d3 := HHR.out.cell 3 (by simp)
      have f0 := HHR.out.free 0
      have f1 := HHR.out.free 1
      have f2 := HHR.out.free 2
      have f3 := HHR.out.free 3
      go_wp2_with fail
      refine bodyPost_ret (v := .tuple #[.agg #[.int .u32 n0, .int .u32 n1, .int .u32 n2, .int .u32 n3], .int .i64 0]) (by simp [results, Tryd.results7, go_sem, d0, d1, d2, d3]) rfl ⟨by rw [E0.out, E1.out, E2.out, E3.out], ?_⟩
      exact below_four (HB2.out.grown HGR.out HB2.out.size (fun j hj => by injection hj; omega)) (Nat.le_refl _) _ _ _ _
end Go.Proofs.YtcoaogfebfbemaaDoor
