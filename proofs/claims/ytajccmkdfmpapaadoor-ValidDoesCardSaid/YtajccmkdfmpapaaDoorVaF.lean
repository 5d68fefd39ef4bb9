/-
  A set of the call's own; addresses compared; acts that are read; the law's awake.
-/
import Derived.Test.YtajccmkdfmpapaaDoorVaE
import Derived.Test.YtajccmkdfmpapaaDoorSameI
namespace Go.Proofs.YtajccmkdfmpapaaDoor
open Go.RowKit

theorem rd_a {w : World} {b o : Nat} {l : List Nat} (h : ∀ i (h : i < (aC l).length), w.cell? ⟨b, o + i, none⟩ = some (aC l)[i]) (k : Nat) (hk : k < l.length) : w.cell? ⟨b, o + k, none⟩ = some (.int .u32 ((l.getD k 0 : Nat) : Int)) := by
  rw [h k (by rw [aC_len]; exact hk)]
  simp [aC, hk]
set_option maxHeartbeats 1000000 in
/-- Numbers that are the same are told so. -/
theorem vnum_at {w : World} {A A2 : Option Addr} {n c c2 : Nat} (l : List Nat) (hl : l.length = n) (hr : RdV w w.heap.size A (aC l)) (hr2 : RdV w w.heap.size A2 (aC l)) (hn : n ≤ 100000) : Calls Tryd.prog 17 #[.slice A n c, .slice A2 n c2] w (BoolB true w) := by
  have HR := Lib.hid hr
  have HR2 := Lib.hid hr2
  have HL := Lib.hid hl
  clear hr hr2 hl
  have q0 : ((n : Int) != (n : Int)) = false := by simp
  go_enter Tryd.func17, Tryd.ntmps17
  go_wp2_with fail
  go_loopg [5] n (fun q x wr => ∃ k : Nat, k ≤ n ∧ q = n - k ∧ x = .int .i64 (k : Int) ∧ Below w.heap.size w wr)
  case atStart => exact ⟨0, by omega, rfl, rfl, Below.refl _ _⟩
  case round =>
    obtain ⟨k, hk, hq, rfl, hb⟩ := hrel
    have HQ := Lib.hid hq
    have HB := Lib.hid hb
    clear hq hb
    by_cases hlt : k < n
    · obtain ⟨b, o, rfl, _, hcell⟩ := (HR.out.below HB.out) (by rw [aC_len, HL.out]; omega)
      obtain ⟨b2, o2, rfl, _, hcell2⟩ := (HR2.out.below HB.out) (by rw [aC_len, HL.out]; omega)
      have c0 := rd_a hcell k (by rw [HL.out]; exact hlt)
      have c1 := rd_a hcell2 k (by rw [HL.out]; exact hlt)
      clear hcell hcell2
      generalize l.getD k 0 = x at *
      have q : ((x : Int) != (x : Int)) = false := by simp
      go_wp2_with fail
      go_region
      go_wp2_with fail
      go_roundg (n - (k + 1))
      case rel => exact ⟨k + 1, by omega, rfl, by go_num, HB.out.drew⟩
      case measure => have := HQ.out; omega
    · go_wp2_with fail
      go_ret
      exact ⟨rfl, HB.out⟩
/-- An act: what to do, an address. -/
structure VAct where
  d : Int
  a : Nat
/-- Acts that are read. -/
def RdVA (w : World) (A : Option Addr) (l : List VAct) : Prop :=
  0 < l.length → ∃ b o : Nat, A = some ⟨b, o, none⟩ ∧ b < w.heap.size ∧ ∀ i (h : i < l.length), w.cell? ⟨b, o + i * 2, none⟩ = some (.int .i64 l[i].d) ∧ w.cell? ⟨b, o + i * 2 + 1, none⟩ = some (.int .u32 (l[i].a : Int))
theorem RdVA.below {w w' : World} {A : Option Addr} {l : List VAct} (h : RdVA w A l) (hb : Below w.heap.size w w') : RdVA w' A l := by
  intro hn
  obtain ⟨b, o, hA, hlt, hc⟩ := h hn
  exact ⟨b, o, hA, Nat.lt_of_lt_of_le hlt hb.size, fun i hi => ⟨(hb.cell (p := ⟨b, o + i * 2, none⟩) hlt).trans (hc i hi).1, (hb.cell (p := ⟨b, o + i * 2 + 1, none⟩) hlt).trans (hc i hi).2⟩⟩
/-- A set of this call's own. -/
structure VW (w0 w : World) (sb rb : Nat) (S : VaS) : Prop where
  m : VaM w sb rb S
  ge : w0.heap.size ≤ rb
  old : Below w0.heap.size w0 w
section
variable {w0 w w' : World} {sb rb : Nat} {S S' : VaS}
theorem VW.up (h : VW w0 w sb rb S) (hb : Below w.heap.size w w') : VW w0 w' sb rb S := ⟨h.m.up hb, h.ge, below_all h.old hb⟩
theorem VW.to {b : Bool} {r : Ending} (h : VW w0 w sb rb S) (ht : VaTo sb rb b S' w r w') : VW w0 w' sb rb S' := ⟨ht.2.1, h.ge, h.old.trans (ht.2.2.below h.old.size (fun k e => by rw [e]; exact h.ge))⟩
end
def vs0 : VaS := ⟨11, 4, 6, []⟩
def vs1 : VaS := ⟨11, 4, 6, [5]⟩
def vs2 : VaS := ⟨11, 4, 6, [5, 8]⟩
def vs3 : VaS := ⟨11, 4, 6, [8]⟩
/-- A row of numbers laid in a new block. -/
theorem new_rd (w : World) (T : TypeId) (cs : List Value) : RdV (w.alloc (.cells cs.toArray T)) (w.alloc (.cells cs.toArray T)).heap.size (some ⟨w.heap.size, 0, none⟩) cs := fun _ => ⟨w.heap.size, 0, rfl, by simp, fun i hi => by rw [Nat.zero_add]; exact Blk.cell (T := T) (heap_alloc_new w _) i hi⟩
set_option maxHeartbeats 4000000 in
set_option maxRecDepth 100000 in
theorem vaawake_true (w : World) : Calls Tryd.prog 4 #[] w (BoolB true w) := by
  go_enter Tryd.func4, Tryd.ntmps4
  go_wp2_with fail
  refine (vanew_at 11 4 6 w).mono ?_
  rintro r w1 ⟨hb, h⟩
  rw [if_pos (by kernel_rfl)] at h
  obtain ⟨sb, rb, hge, rfl, hm⟩ := h
  have H1 : Hid (VW w w1 sb rb vs0) := Lib.hid ⟨hm, hge, hb⟩
  clear hb hge hm
  go_wp2_with fail
  refine (vamark_at 5 H1.out.m).mono ?_
  rw [show vs0.markB 5 = true by kernel_rfl, show vs0.markS 5 = vs1 by kernel_rfl]
  rintro r w2 h
  have H2 := Lib.hid (H1.out.to h)
  obtain ⟨rfl, _, _⟩ := h
  clear H1
  go_wp2_with fail
  refine (vamark_at 8 H2.out.m).mono ?_
  rw [show vs1.markB 8 = true by kernel_rfl, show vs1.markS 8 = vs2 by kernel_rfl]
  rintro r w3 h
  have H3 := Lib.hid (H2.out.to h)
  obtain ⟨rfl, _, _⟩ := h
  clear H2
  go_wp2_with fail
  refine (vamark_at 8 H3.out.m).mono ?_
  rw [show vs2.markB 8 = false by kernel_rfl, show vs2.markS 8 = vs2 by kernel_rfl]
  rintro r w4 h
  have H4 := Lib.hid (H3.out.to h)
  obtain ⟨rfl, _, _⟩ := h
  clear H3
  go_wp2_with fail
  refine (vamark_at 0 H4.out.m).mono ?_
  rw [show vs2.markB 0 = false by kernel_rfl, show vs2.markS 0 = vs2 by kernel_rfl]
  rintro r w5 h
  have H5 := Lib.hid (H4.out.to h)
  obtain ⟨rfl, _, _⟩ := h
  clear H4
  go_wp2_with fail
  refine (vamark_at 37 H5.out.m).mono ?_
  rw [show vs2.markB 37 = false by kernel_rfl, show vs2.markS 37 = vs2 by kernel_rfl]
  rintro r w6 h
  have H6 := Lib.hid (H5.out.to h)
  obtain ⟨rfl, _, _⟩ := h
  clear H5
  go_wp2_with fail
  refine (vacount_at 1 H6.out.m).mono ?_
  rw [show vs2.cnt 1 = 2 by kernel_rfl]
  rintro r w7 ⟨rfl, hb⟩
  have H7 := Lib.hid (H6.out.up hb)
  clear hb H6
  go_wp2_with fail
  refine (vatotal_at H7.out.m).mono ?_
  rw [show vs2.L.length = 2 by kernel_rfl]
  rintro r w8 ⟨rfl, hb⟩
  have H8 := Lib.hid (H7.out.up hb)
  clear hb H7
  go_wp2_with fail
  refine (valive_at 5 H8.out.m).mono ?_
  rw [show vs2.liveB 5 = true by kernel_rfl]
  rintro r w9 ⟨rfl, hb⟩
  have H9 := Lib.hid (H8.out.up hb)
  clear hb H8
  go_wp2_with fail
  refine (valive_at 6 H9.out.m).mono ?_
  rw [show vs2.liveB 6 = false by kernel_rfl]
  rintro r w10 ⟨rfl, hb⟩
  have H10 := Lib.hid (H9.out.up hb)
  clear hb H9
  go_wp2_with fail
  refine (vaof_at 1 H10.out.m).mono ?_
  rw [show vs2.ofL 1 = [5, 8] by kernel_rfl]
  rintro r w11 ⟨v, rfl, ho, hb⟩
  obtain ⟨A11, c11, rfl, _, _, _⟩ := ho.form
  obtain ⟨w12, hw12⟩ : ∃ u, w11.alloc (.cells #[.int .u32 5, .int .u32 8] 25) = u := ⟨_, rfl⟩
  have hb12 : Below w11.heap.size w11 w12 := by rw [← hw12]; exact (Below.refl _ _).alloc (Nat.le_refl _) _
  have HX12 : Hid (RdV w12 w12.heap.size (some ⟨w11.heap.size, 0, none⟩) (aC [5, 8])) := Lib.hid (by rw [← hw12]; exact new_rd w11 25 (aC [5, 8]))
  have HY12 : Hid (RdV w12 w12.heap.size A11 (aC [5, 8])) := Lib.hid (ho.rd.up hb12)
  have H12 := Lib.hid (H10.out.up (below_all hb hb12))
  clear hb ho hb12 H10
  simp only [List.length_cons, List.length_nil]
  go_wp2_with fail
  refine (vnum_at [5, 8] rfl HY12.out HX12.out (by simp)).mono ?_
  rintro r w13 ⟨rfl, hb⟩
  have H13 := Lib.hid (H12.out.up hb)
  clear hb H12 HX12 HY12 hw12
  go_wp2_with fail
  refine (vabare_at H13.out.m).mono ?_
  rw [show vs2.bareL = [0, 2, 3, 4, 5, 6, 7, 8] by kernel_rfl]
  rintro r w14 ⟨v, rfl, ho, hb⟩
  obtain ⟨A14, c14, rfl, _, _, _⟩ := ho.form
  obtain ⟨w15, hw15⟩ : ∃ u, w14.alloc (.cells #[.int .i64 0, .int .i64 2, .int .i64 3, .int .i64 4, .int .i64 5, .int .i64 6, .int .i64 7, .int .i64 8] 3) = u := ⟨_, rfl⟩
  have hb15 : Below w14.heap.size w14 w15 := by rw [← hw15]; exact (Below.refl _ _).alloc (Nat.le_refl _) _
  have HX15 : Hid (RdV w15 w15.heap.size (some ⟨w14.heap.size, 0, none⟩) (iCells (nats [0, 2, 3, 4, 5, 6, 7, 8]))) := Lib.hid (by rw [← hw15]; exact new_rd w14 3 (iCells (nats [0, 2, 3, 4, 5, 6, 7, 8])))
  have HY15 : Hid (RdV w15 w15.heap.size A14 (iCells (nats [0, 2, 3, 4, 5, 6, 7, 8]))) := Lib.hid (ho.rd.up hb15)
  have H15 := Lib.hid (H13.out.up (below_all hb hb15))
  clear hb ho hb15 H13
  simp only [List.length_cons, List.length_nil]
  go_wp2_with fail
  refine (rsame_is HY15.out HX15.out rfl rfl (by simp [nats])).mono ?_
  rw [show decide (nats [0, 2, 3, 4, 5, 6, 7, 8] = nats [0, 2, 3, 4, 5, 6, 7, 8]) = true by simp]
  rintro r w16 ⟨rfl, hb⟩
  have H16 := Lib.hid (H15.out.up hb)
  clear hb H15 HX15 HY15 hw15
  go_wp2_with fail
  refine (vaunmark_at 5 H16.out.m).mono ?_
  rw [show vs2.liveB 5 = true by kernel_rfl, show vs2.unmarkS 5 = vs3 by kernel_rfl]
  rintro r w17 h
  have H17 := Lib.hid (H16.out.to h)
  obtain ⟨rfl, _, _⟩ := h
  clear H16
  go_wp2_with fail
  refine (vaunmark_at 5 H17.out.m).mono ?_
  rw [show vs3.liveB 5 = false by kernel_rfl, show vs3.unmarkS 5 = vs3 by kernel_rfl]
  rintro r w18 h
  have H18 := Lib.hid (H17.out.to h)
  obtain ⟨rfl, _, _⟩ := h
  clear H17
  go_wp2_with fail
  go_ret
  exact ⟨rfl, H18.out.old⟩
end Go.Proofs.YtajccmkdfmpapaaDoor
