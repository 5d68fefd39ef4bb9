/-
  Acts on an index that are read; the law's awake.
-/
import Derived.Test.YtekaeeckhfghpaaDoorIxE
import Derived.Test.YtekaeeckhfghpaaDoorIxMath2
namespace Go.Proofs.YtekaeeckhfghpaaDoor
open Go.RowKit

/-- An act: what to do, a key, a slot. -/
structure XAct where
  d : Int
  k : Nat
  s : Int
/-- Acts that are read. -/
def RdX (w : World) (A : Option Addr) (l : List XAct) : Prop :=
  0 < l.length → ∃ b o : Nat, A = some ⟨b, o, none⟩ ∧ b < w.heap.size ∧ ∀ i (h : i < l.length), w.cell? ⟨b, o + i * 3, none⟩ = some (.int .i64 l[i].d) ∧ w.cell? ⟨b, o + i * 3 + 1, none⟩ = some (.int .u32 (l[i].k : Int)) ∧ w.cell? ⟨b, o + i * 3 + 2, none⟩ = some (.int .i64 l[i].s)
theorem RdX.below {w w' : World} {A : Option Addr} {l : List XAct} (h : RdX w A l) (hb : Below w.heap.size w w') : RdX w' A l := by
  intro hn
  obtain ⟨b, o, hA, hlt, hc⟩ := h hn
  exact ⟨b, o, hA, Nat.lt_of_lt_of_le hlt hb.size, fun i hi => ⟨(hb.cell (p := ⟨b, o + i * 3, none⟩) hlt).trans (hc i hi).1, (hb.cell (p := ⟨b, o + i * 3 + 1, none⟩) hlt).trans (hc i hi).2.1, (hb.cell (p := ⟨b, o + i * 3 + 2, none⟩) hlt).trans (hc i hi).2.2⟩⟩
/-- An index of this call's own. -/
structure IX (w0 w : World) (kb : Nat) (S : IxS) : Prop where
  m : IxM w kb S
  ge : w0.heap.size ≤ kb
  old : Below w0.heap.size w0 w
theorem IX.up {w0 w w' : World} {kb : Nat} {S : IxS} (h : IX w0 w kb S) (hb : Below w.heap.size w w') : IX w0 w' kb S := ⟨h.m.up hb, h.ge, below_all h.old hb⟩
theorem IX.to {w0 w w' : World} {kb : Nat} {S S' : IxS} (h : IX w0 w kb S) (hm : IxM w' kb S') (hk : Kept (fun k => k = kb) w w') : IX w0 w' kb S' := ⟨hm, h.ge, h.old.trans (hk.below h.old.size (fun k e => by rw [e]; exact h.ge))⟩
def xw0 : IxS := ⟨[], 1⟩
def xw1 : IxS := ⟨[(7, 0)], 1⟩
def xw2 : IxS := ⟨[(7, 2)], 1⟩
set_option maxHeartbeats 4000000 in
theorem xawake_true (w : World) : Calls Tryd.prog 4 #[] w (BoolB true w) := by
  go_enter Tryd.func4, Tryd.ntmps4
  go_wp2_with fail
  refine (xnew_at 1 w).mono ?_
  rintro r w1 h
  obtain ⟨hb, h⟩ := h
  rw [if_pos (by omega)] at h
  obtain ⟨rfl, hm⟩ := h
  obtain ⟨kb, hkb⟩ : ∃ kb, w.heap.size = kb := ⟨_, rfl⟩
  have H1 : Hid (IX w w1 kb xw0) := Lib.hid ⟨by rw [← hkb]; exact hm, by omega, hb⟩
  clear hm hb
  rw [hkb]
  go_wp2_with fail
  refine (xput_at 7 0 H1.out.m).mono ?_
  rw [show xw0.putB 7 = true from by kernel_rfl, show xw0.putS 7 0 = xw1 from by kernel_rfl]
  rintro r w2 h
  obtain ⟨rfl, hm, hk⟩ := h
  have H2 := Lib.hid (H1.out.to hm hk)
  clear hm hk H1
  go_wp2_with fail
  refine (xput_at 8 1 H2.out.m).mono ?_
  rw [show xw1.putB 8 = false from by kernel_rfl, show xw1.putS 8 1 = xw1 from by kernel_rfl]
  rintro r w3 h
  obtain ⟨rfl, hm, hk⟩ := h
  have H3 := Lib.hid (H2.out.to hm hk)
  clear hm hk H2
  go_wp2_with fail
  refine (xput_at 7 2 H3.out.m).mono ?_
  rw [show xw1.putB 7 = true from by kernel_rfl, show xw1.putS 7 2 = xw2 from by kernel_rfl]
  rintro r w4 h
  obtain ⟨rfl, hm, hk⟩ := h
  have H4 := Lib.hid (H3.out.to hm hk)
  clear hm hk H3
  go_wp2_with fail
  refine (xget_at 7 H4.out.m).mono ?_
  rintro r w5 ⟨rfl, hb⟩
  rw [show xw2.getN 7 = 2 from by kernel_rfl, show xw2.has 7 = true from by kernel_rfl]
  have H5 := Lib.hid (H4.out.up hb)
  clear hb H4
  go_wp2_with fail
  refine (xget_at 8 H5.out.m).mono ?_
  rintro r w6 ⟨rfl, hb⟩
  rw [show xw2.getN 8 = 0 from by kernel_rfl, show xw2.has 8 = false from by kernel_rfl]
  have H6 := Lib.hid (H5.out.up hb)
  clear hb H5
  go_wp2_with fail
  refine (xlen_at H6.out.m).mono ?_
  rintro r w7 ⟨rfl, rfl⟩
  rw [show ((xw2.L.length : Nat) : Int) = 1 from rfl]
  go_wp2_with fail
  refine (xdrop_at 7 H6.out.m).mono ?_
  rw [show xw2.has 7 = true from by kernel_rfl, show xw2.dropS 7 = xw0 from by kernel_rfl]
  rintro r w8 h
  obtain ⟨rfl, hm, hk⟩ := h
  have H8 := Lib.hid (H6.out.to hm hk)
  clear hm hk H6
  go_wp2_with fail
  refine (xdrop_at 7 H8.out.m).mono ?_
  rw [show xw0.has 7 = false from by kernel_rfl, show xw0.dropS 7 = xw0 from by kernel_rfl]
  rintro r w9 h
  obtain ⟨rfl, hm, hk⟩ := h
  have H9 := Lib.hid (H8.out.to hm hk)
  clear hm hk H8
  go_wp2_with fail
  refine (xlen_at H9.out.m).mono ?_
  rintro r w10 ⟨rfl, rfl⟩
  rw [show ((xw0.L.length : Nat) : Int) = 0 from rfl]
  go_wp2_with fail
  go_ret
  exact ⟨rfl, H9.out.old⟩
end Go.Proofs.YtekaeeckhfghpaaDoor
