/-
  The law's own awake.
-/
import Derived.Test.YteoohafadijkmaaTaOps
namespace Go.Proofs.Yteoohafadijkmaa
open Go.RowKit

def t0 : TaS := TaS.new 3
def t1 : TaS := t0.takeS
def t2 : TaS := t1.takeS
def t3 : TaS := t2.closeS 1
def t4 : TaS := t3.giveS 0
set_option maxHeartbeats 4000000 in
set_option maxRecDepth 100000 in
theorem zoawake_true {E : Value → Prop} (O : TOps E) (w : World) : Calls Try.prog 5 #[] w (BoolB true w) := by
  go_enter Try.func5, Try.ntmps5
  go_wp2_with fail
  refine (O.new 3).mono ?_
  rintro r w1 ⟨hb, h⟩
  rw [if_pos (by omega)] at h
  obtain ⟨tb, rfl, hd⟩ := h
  have H1 : Hid (TaX O w w1 tb t0 (fun _ => False)) := Lib.hid ⟨_, hd, fun k hk => ⟨hk.1, id⟩, fun k hk => hk.elim, hb⟩
  clear hb hd
  go_wp2_with fail
  refine (xtake H1.out).mono ?_
  rw [show t0.takeN = 0 from by kernel_rfl, show t0.takeB = true from by kernel_rfl, show t0.takeS = t1 from by kernel_rfl]
  rintro r w2 h
  have H2 := Lib.hid h.2.1
  obtain ⟨rfl, _, _⟩ := h
  clear H1
  go_wp2_with fail
  refine (xtake H2.out).mono ?_
  rw [show t1.takeN = 1 from by kernel_rfl, show t1.takeB = true from by kernel_rfl, show t1.takeS = t2 from by kernel_rfl]
  rintro r w3 h
  have H3 := Lib.hid h.2.1
  obtain ⟨rfl, _, _⟩ := h
  clear H2
  go_wp2_with fail
  refine (xclose 1 H3.out (by decide)).mono ?_
  rw [show t2.closeB 1 = true from by kernel_rfl, show t2.closeS 1 = t3 from by kernel_rfl]
  rintro r w4 h
  have H4 := Lib.hid h.2.1
  obtain ⟨rfl, _, _⟩ := h
  clear H3
  go_wp2_with fail
  refine (xclose 1 H4.out (by decide)).mono ?_
  rw [show t3.closeB 1 = false from by kernel_rfl, show t3.closeS 1 = t3 from by kernel_rfl]
  rintro r w5 h
  have H5 := Lib.hid h.2.1
  obtain ⟨rfl, _, _⟩ := h
  clear H4
  go_wp2_with fail
  refine (xgive 0 H5.out (by decide)).mono ?_
  rw [show t3.giveB 0 = true from by kernel_rfl, show t3.giveS 0 = t4 from by kernel_rfl]
  rintro r w6 h
  have H6 := Lib.hid h.2.1
  obtain ⟨rfl, _, _⟩ := h
  clear H5
  go_wp2_with fail
  refine (xgive 0 H6.out (by decide)).mono ?_
  rw [show t4.giveB 0 = false from by kernel_rfl, show t4.giveS 0 = t4 from by kernel_rfl]
  rintro r w7 h
  have H7 := Lib.hid h.2.1
  obtain ⟨rfl, _, _⟩ := h
  clear H6
  go_wp2_with fail
  refine (xstate 1 H7.out).mono ?_
  rw [show t4.stA 1 = 2 from by kernel_rfl, show t4.inB 1 = true from by kernel_rfl]
  rintro r w8 ⟨rfl, hb⟩
  have H8 := Lib.hid (H7.out.up hb)
  clear hb H7
  go_wp2_with fail
  refine (xfree H8.out).mono ?_
  rw [show t4.row = [2, 0] from by kernel_rfl]
  rintro r w9 hn
  obtain ⟨A, c, rfl, hr, _, _, hb⟩ := tr_own hn
  have H9 := Lib.hid (H8.out.up hb)
  have HR := Lib.hid hr
  clear hb H8 hr hn
  go_wp2_with fail
  have HB : Hid (Below w9.heap.size w9 (w9.alloc (.cells #[.int .i64 2, .int .i64 0] 3))) := Lib.hid ((Below.refl _ _).alloc (Nat.le_refl _) _)
  refine (rsame_is (xs := [2, 0]) (ys := [2, 0]) (HR.out.up HB.out) (row_rd w9 [.int .i64 2, .int .i64 0]) rfl rfl (by decide)).mono ?_
  rintro r w10 ⟨rfl, hb⟩
  have H10 := Lib.hid ((H9.out.up HB.out).up hb)
  clear hb H9 HR HB
  rw [show decide (([2, 0] : List Int) = [2, 0]) = true from by kernel_rfl]
  go_wp2_with fail
  refine (xclosed H10.out (by decide)).mono ?_
  rw [show t4.closedL = [1] from by kernel_rfl]
  rintro r w11 hn
  obtain ⟨A2, c2, rfl, hr, _, _, hb⟩ := tr_own hn
  have H11 := Lib.hid (H10.out.up hb)
  have HR := Lib.hid hr
  clear hb H10 hr hn
  go_wp2_with fail
  have HB : Hid (Below w11.heap.size w11 (w11.alloc (.cells #[.int .i64 1] 3))) := Lib.hid ((Below.refl _ _).alloc (Nat.le_refl _) _)
  refine (rsame_is (xs := [1]) (ys := [1]) (HR.out.up HB.out) (row_rd w11 [.int .i64 1]) rfl rfl (by decide)).mono ?_
  rintro r w12 ⟨rfl, hb⟩
  have H12 := Lib.hid ((H11.out.up HB.out).up hb)
  clear hb H11 HR HB
  rw [show decide (([1] : List Int) = [1]) = true from by kernel_rfl]
  go_wp2_with fail
  refine (xage 1 H12.out (by decide)).mono ?_
  rw [show ((t4.ageN 1 : Nat) : Int) = 0 from by kernel_rfl]
  rintro r w13 ⟨rfl, hb⟩
  have H13 := Lib.hid (H12.out.up hb)
  clear hb H12
  go_wp2_with fail
  go_ret
  exact ⟨rfl, H13.out.old⟩
end Go.Proofs.Yteoohafadijkmaa
