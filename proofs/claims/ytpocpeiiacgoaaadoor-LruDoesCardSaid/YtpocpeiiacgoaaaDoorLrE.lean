/-
  The law's awake.
-/
import Derived.Test.YtpocpeiiacgoaaaDoorLrD
namespace Go.Proofs.YtpocpeiiacgoaaaDoor
open Go.RowKit

/-- A ranking of this call's own. -/
def AwR (w : World) (kb : Nat) (S : RkS) (w' : World) : Prop := RkM w' kb S ∧ w.heap.size ≤ kb ∧ Below w.heap.size w w'
theorem AwR.to {w w1 w2 : World} {kb : Nat} {S S' : RkS} (h : AwR w kb S w1) (hm : RkM w2 kb S') (hk : Kept (fun k => k = kb) w1 w2) : AwR w kb S' w2 :=
  ⟨hm, h.2.1, h.2.2.trans (hk.below h.2.2.size (fun k e => by rw [e]; exact h.2.1))⟩
theorem AwR.up {w w1 w2 : World} {kb : Nat} {S : RkS} (h : AwR w kb S w1) (hb : Below w1.heap.size w1 w2) : AwR w kb S w2 := ⟨h.1.up hb, h.2.1, below_all h.2.2 hb⟩
def aw0 : RkS := ⟨[], [], 4⟩
def aw1 : RkS := ⟨[0], [], 4⟩
def aw2 : RkS := ⟨[1, 0], [], 4⟩
def aw3 : RkS := ⟨[2, 1, 0], [], 4⟩
def aw4 : RkS := ⟨[2, 1], [0], 4⟩
theorem row_rd (w : World) (vs : List Value) : RdV (w.alloc (.cells vs.toArray 3)) (w.alloc (.cells vs.toArray 3)).heap.size (some ⟨w.heap.size, 0, none⟩) vs := fun _ =>
  ⟨w.heap.size, 0, rfl, by simp, fun i hi => by rw [Nat.zero_add]; exact Blk.cell (T := 3) (heap_alloc_new w _) i hi⟩
set_option maxHeartbeats 4000000 in
theorem lawake_true (w : World) : Calls Tryd.prog 4 #[] w (BoolB true w) := by
  go_enter Tryd.func4, Tryd.ntmps4
  go_wp2_with fail
  refine (lnew_at 4 w).mono ?_
  rintro r w1 h
  obtain ⟨hb, h⟩ := h
  rw [if_pos (by omega)] at h
  obtain ⟨rfl, hm⟩ := h
  obtain ⟨kb, hkb⟩ : ∃ kb, w.heap.size = kb := ⟨_, rfl⟩
  have H1 : Hid (AwR w kb aw0 w1) := Lib.hid ⟨by rw [← hkb]; exact hm, by omega, hb⟩
  clear hm hb
  rw [hkb]
  go_wp2_with fail
  refine (linsert_at 0 H1.out.1).mono ?_
  rw [show aw0.insB 0 = true from by kernel_rfl, show aw0.insS 0 = aw1 from by kernel_rfl]
  rintro r w2 h
  obtain ⟨rfl, hm, hk⟩ := h
  have H2 := Lib.hid (H1.out.to hm hk)
  clear hm hk H1
  go_wp2_with fail
  refine (linsert_at 1 H2.out.1).mono ?_
  rw [show aw1.insB 1 = true from by kernel_rfl, show aw1.insS 1 = aw2 from by kernel_rfl]
  rintro r w3 h
  obtain ⟨rfl, hm, hk⟩ := h
  have H3 := Lib.hid (H2.out.to hm hk)
  clear hm hk H2
  go_wp2_with fail
  refine (linsert_at 2 H3.out.1).mono ?_
  rw [show aw2.insB 2 = true from by kernel_rfl, show aw2.insS 2 = aw3 from by kernel_rfl]
  rintro r w4 h
  obtain ⟨rfl, hm, hk⟩ := h
  have H4 := Lib.hid (H3.out.to hm hk)
  clear hm hk H3
  go_wp2_with fail
  refine (ltouch_at 0 H4.out.1).mono ?_
  rw [show aw3.has 0 = true from by kernel_rfl, show aw3.touS 0 = aw4 from by kernel_rfl]
  rintro r w5 h
  obtain ⟨rfl, hm, hk⟩ := h
  have H5 := Lib.hid (H4.out.to hm hk)
  clear hm hk H4
  go_wp2_with fail
  refine (linsert_at 2 H5.out.1).mono ?_
  rw [show aw4.insB 2 = false from by kernel_rfl, show aw4.insS 2 = aw4 from by kernel_rfl]
  rintro r w6 h
  obtain ⟨rfl, hm, hk⟩ := h
  have H6 := Lib.hid (H5.out.to hm hk)
  clear hm hk H5
  go_wp2_with fail
  refine (ltouch_at 3 H6.out.1).mono ?_
  rw [show aw4.has 3 = false from by kernel_rfl, show aw4.touS 3 = aw4 from by kernel_rfl]
  rintro r w7 h
  obtain ⟨rfl, hm, hk⟩ := h
  have H7 := Lib.hid (H6.out.to hm hk)
  clear hm hk H6
  go_wp2_with fail
  refine (lremove_at 3 H7.out.1).mono ?_
  rw [show aw4.has 3 = false from by kernel_rfl, show aw4.remS 3 = aw4 from by kernel_rfl]
  rintro r w8 h
  obtain ⟨rfl, hm, hk⟩ := h
  have H8 := Lib.hid (H7.out.to hm hk)
  clear hm hk H7
  go_wp2_with fail
  refine (lvictim_at H8.out.1).mono ?_
  rw [show aw4.vicN = 1 from by kernel_rfl, show aw4.vic.isSome = true from by kernel_rfl]
  rintro r w9 ⟨rfl, rfl⟩
  go_wp2_with fail
  refine (ltrial_at H8.out.1).mono ?_
  rintro r w9 ⟨A, c, rfl, hF, hb⟩
  have H9 := Lib.hid (H8.out.up hb)
  have HT : Hid (RowF (fun k => w8.heap.size ≤ k) w9 (.slice A 2 c) (iCells [2, 1])) := Lib.hid hF
  rw [show aw4.T.length = 2 from rfl]
  clear hF hb H8
  have HR : Hid (RdV (w9.alloc (.cells #[.int .i64 2, .int .i64 1] 3)) (w9.alloc (.cells #[.int .i64 2, .int .i64 1] 3)).heap.size (some ⟨w9.heap.size, 0, none⟩) (iCells [2, 1])) := Lib.hid (row_rd w9 _)
  have HT2 := Lib.hid (HT.out.up (Below.alloc (Below.refl w9.heap.size w9) (Nat.le_refl _) (.cells #[.int .i64 2, .int .i64 1] 3)))
  have H10 := Lib.hid (H9.out.up (Below.alloc (Below.refl w9.heap.size w9) (Nat.le_refl _) (.cells #[.int .i64 2, .int .i64 1] 3)))
  clear H9
  go_wp2_with fail
  refine (rsame_is (n := 2) (m := 2) HT2.out.rdI.1 HR.out rfl rfl (by omega)).mono ?_
  rw [show decide (([2, 1] : List Int) = [2, 1]) = true from rfl]
  rintro r w11 ⟨rfl, hb⟩
  have H11 := Lib.hid (H10.out.up hb)
  clear hb H10 HT HT2 HR
  go_wp2_with fail
  refine (lkept_at H11.out.1).mono ?_
  rintro r w12 ⟨A2, c2, rfl, hF, hb⟩
  have H12 := Lib.hid (H11.out.up hb)
  have HT : Hid (RowF (fun k => w11.heap.size ≤ k) w12 (.slice A2 1 c2) (iCells [0])) := Lib.hid hF
  rw [show aw4.K.length = 1 from rfl]
  clear hF hb H11
  have HR : Hid (RdV (w12.alloc (.cells #[.int .i64 0] 3)) (w12.alloc (.cells #[.int .i64 0] 3)).heap.size (some ⟨w12.heap.size, 0, none⟩) (iCells [0])) := Lib.hid (row_rd w12 _)
  have HT2 := Lib.hid (HT.out.up (Below.alloc (Below.refl w12.heap.size w12) (Nat.le_refl _) (.cells #[.int .i64 0] 3)))
  have H13 := Lib.hid (H12.out.up (Below.alloc (Below.refl w12.heap.size w12) (Nat.le_refl _) (.cells #[.int .i64 0] 3)))
  clear H12
  go_wp2_with fail
  refine (rsame_is (n := 1) (m := 1) HT2.out.rdI.1 HR.out rfl rfl (by omega)).mono ?_
  rw [show decide (([0] : List Int) = [0]) = true from rfl]
  rintro r w14 ⟨rfl, hb⟩
  have H14 := Lib.hid (H13.out.up hb)
  clear hb H13 HT HT2 HR
  go_wp2_with fail
  go_ret
  exact ⟨rfl, H14.out.2.2⟩
end Go.Proofs.YtpocpeiiacgoaaaDoor
