/-
  The law's awake.
-/
import Derived.Test.YtndapbfaaglcgaaVcOps
import Derived.Test.YtndapbfaaglcgaaSameI
namespace Go.Proofs.Ytndapbfaaglcgaa
open Go.RowKit

theorem mid_of {p : Int} {l : List VZ} (hf : VZ.Fit p l) (hg : AgeOk l) : Mid p l := fun z hz => ⟨(hf z hz).2.1, (hf z hz).2.2, hg z hz⟩
def zs4 : List VZ := [⟨0, 4, 0⟩, ⟨1, 1, 0⟩, ⟨2, 1, 0⟩, ⟨3, 2, 9⟩]
theorem zs4_fit : VZ.Fit 4 zs4 := by decide
theorem zs4_apart : VZ.Apart zs4 := by unfold VZ.Apart zs4; decide
theorem zs4_age : AgeOk zs4 := by unfold AgeOk zs4; decide
set_option maxHeartbeats 4000000 in
set_option maxRecDepth 100000 in
theorem vcawake_true (O : VOps) (w : World) : Calls Try.prog 7 #[] w (BoolB true w) := by
  obtain ⟨w1, hw1⟩ : ∃ u, w.alloc (.cells #[.int .i64 0, .int .i64 4, .int .u32 0, .int .i64 1, .int .i64 1, .int .u32 0, .int .i64 2, .int .i64 1, .int .u32 0, .int .i64 3, .int .i64 2, .int .u32 9] 38) = u := ⟨_, rfl⟩
  have HB1 : Hid (Below w.heap.size w w1) := Lib.hid (by rw [← hw1]; exact (Below.refl _ _).alloc (Nat.le_refl _) _)
  have HR1 : Hid (RdV w1 w1.heap.size (some ⟨w.heap.size, 0, none⟩) (zsC zs4)) := Lib.hid (by rw [← hw1]; exact new_rd w 38 (zsC zs4))
  go_enter Try.func7, Try.ntmps7
  go_wp2_with fail
  refine (O.choose 0 4 2 zs4 rfl HR1.out (by decide) (fun e => by cases e) (by decide) (by omega) (by omega) (by omega) (by omega) zs4_fit zs4_apart zs4_age).mono ?_
  rw [show VZ.chooseL 0 4 2 zs4 = [1, 2] by kernel_rfl]
  rintro r w2 ⟨v2, rfl, ho, hb⟩
  obtain ⟨A2, c2, rfl, _, _, _⟩ := ho.form
  obtain ⟨w3, hw3⟩ : ∃ u, w2.alloc (.cells #[.int .i64 1, .int .i64 2] 3) = u := ⟨_, rfl⟩
  have hb3 : Below w2.heap.size w2 w3 := by rw [← hw3]; exact (Below.refl _ _).alloc (Nat.le_refl _) _
  have HX3 : Hid (RdV w3 w3.heap.size (some ⟨w2.heap.size, 0, none⟩) (iCells [1, 2])) := Lib.hid (by rw [← hw3]; exact new_rd w2 3 (iCells [1, 2]))
  have HY3 : Hid (RdV w3 w3.heap.size A2 (iCells [1, 2])) := Lib.hid (ho.rd.up hb3)
  have HB3 := Lib.hid (below_all HB1.out (below_all hb hb3))
  have HR3 := Lib.hid (HR1.out.up (below_all hb hb3))
  clear hb ho hb3 HB1 HR1
  simp only [List.length_cons, List.length_nil]
  go_wp2_with fail
  refine (rsame_is HY3.out HX3.out rfl rfl (by simp)).mono ?_
  rw [show decide (([1, 2] : List Int) = [1, 2]) = true by simp]
  rintro r w4 ⟨rfl, hb⟩
  have HBb := Lib.hid (below_all HB3.out hb)
  have HRb := Lib.hid (HR3.out.up hb)
  clear hb HB3 HR3 HX3 HY3 hw3
  go_wp2_with fail
  refine (O.order 0 4 zs4 rfl HRb.out (by decide) (fun e => by cases e) (by decide) (by omega) (by omega) zs4_fit zs4_apart zs4_age).mono ?_
  rw [show VZ.ids (VZ.sortZ 0 4 zs4) = [1, 2, 3, 0] by kernel_rfl]
  rintro r w2 ⟨v2, rfl, ho, hb⟩
  obtain ⟨A2, c2, rfl, _, _, _⟩ := ho.form
  obtain ⟨w3, hw3⟩ : ∃ u, w2.alloc (.cells #[.int .i64 1, .int .i64 2, .int .i64 3, .int .i64 0] 3) = u := ⟨_, rfl⟩
  have hb3 : Below w2.heap.size w2 w3 := by rw [← hw3]; exact (Below.refl _ _).alloc (Nat.le_refl _) _
  have HX3 : Hid (RdV w3 w3.heap.size (some ⟨w2.heap.size, 0, none⟩) (iCells [1, 2, 3, 0])) := Lib.hid (by rw [← hw3]; exact new_rd w2 3 (iCells [1, 2, 3, 0]))
  have HY3 : Hid (RdV w3 w3.heap.size A2 (iCells [1, 2, 3, 0])) := Lib.hid (ho.rd.up hb3)
  have HB3 := Lib.hid (below_all HBb.out (below_all hb hb3))
  have HR3 := Lib.hid (HRb.out.up (below_all hb hb3))
  clear hb ho hb3 HBb HRb
  simp only [List.length_cons, List.length_nil]
  go_wp2_with fail
  refine (rsame_is HY3.out HX3.out rfl rfl (by simp)).mono ?_
  rw [show decide (([1, 2, 3, 0] : List Int) = [1, 2, 3, 0]) = true by simp]
  rintro r w4 ⟨rfl, hb⟩
  have HBb := Lib.hid (below_all HB3.out hb)
  have HRb := Lib.hid (HR3.out.up hb)
  clear hb HB3 HR3 HX3 HY3 hw3
  go_wp2_with fail
  refine (O.order 1 4 zs4 rfl HRb.out (by decide) (fun e => by cases e) (by decide) (by omega) (by omega) zs4_fit zs4_apart zs4_age).mono ?_
  rw [show VZ.ids (VZ.sortZ 1 4 zs4) = [3, 1, 2, 0] by kernel_rfl]
  rintro r w2 ⟨v2, rfl, ho, hb⟩
  obtain ⟨A2, c2, rfl, _, _, _⟩ := ho.form
  obtain ⟨w3, hw3⟩ : ∃ u, w2.alloc (.cells #[.int .i64 3, .int .i64 1, .int .i64 2, .int .i64 0] 3) = u := ⟨_, rfl⟩
  have hb3 : Below w2.heap.size w2 w3 := by rw [← hw3]; exact (Below.refl _ _).alloc (Nat.le_refl _) _
  have HX3 : Hid (RdV w3 w3.heap.size (some ⟨w2.heap.size, 0, none⟩) (iCells [3, 1, 2, 0])) := Lib.hid (by rw [← hw3]; exact new_rd w2 3 (iCells [3, 1, 2, 0]))
  have HY3 : Hid (RdV w3 w3.heap.size A2 (iCells [3, 1, 2, 0])) := Lib.hid (ho.rd.up hb3)
  have HB3 := Lib.hid (below_all HBb.out (below_all hb hb3))
  have HR3 := Lib.hid (HRb.out.up (below_all hb hb3))
  clear hb ho hb3 HBb HRb
  simp only [List.length_cons, List.length_nil]
  go_wp2_with fail
  refine (rsame_is HY3.out HX3.out rfl rfl (by simp)).mono ?_
  rw [show decide (([3, 1, 2, 0] : List Int) = [3, 1, 2, 0]) = true by simp]
  rintro r w4 ⟨rfl, hb⟩
  have HBb := Lib.hid (below_all HB3.out hb)
  have HRb := Lib.hid (HR3.out.up hb)
  clear hb HB3 HR3 HX3 HY3 hw3
  go_wp2_with fail
  refine (O.right 4 zs4 rfl HRb.out (by decide) (fun e => by cases e) (by decide) (by omega) (by omega)).mono ?_
  rw [show VZ.rightL 4 zs4 = true by decide]
  rintro r w8 ⟨rfl, hb⟩
  have HBc := Lib.hid (below_all HBb.out hb)
  have HRc := Lib.hid (HRb.out.up hb)
  clear hb HBb HRb
  go_wp2_with fail
  refine (O.right 3 zs4 rfl HRc.out (by decide) (fun e => by cases e) (by decide) (by omega) (by omega)).mono ?_
  rw [show VZ.rightL 3 zs4 = false by decide]
  rintro r w9 ⟨rfl, hb⟩
  have HBd := Lib.hid (below_all HBc.out hb)
  clear hb HBc HRc
  go_wp2_with fail
  go_ret
  exact ⟨rfl, HBd.out⟩
end Go.Proofs.Ytndapbfaaglcgaa
