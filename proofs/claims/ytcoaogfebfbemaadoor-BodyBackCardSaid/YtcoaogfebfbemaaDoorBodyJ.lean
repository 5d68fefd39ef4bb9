/-
  platelayerlaw05.BodyBack answers true: of a trim's block.
-/
import Derived.Test.YtcoaogfebfbemaaDoorBodyG
import Derived.Deep.RegionHeld3
namespace Go.Proofs.YtcoaogfebfbemaaDoor
open Go.RowKit

/-- The block of the addresses that were read: what the last line reads. -/
def KeptQ (w : World) (B : Nat) (n0 n1 n2 n3 : Int) (u : World) : Prop := Below w.heap.size w u ∧ Blk u B 24 [.int .u32 n0, .int .u32 n1, .int .u32 n2, .int .u32 n3]
theorem KeptQ.up {w : World} {B : Nat} {n0 n1 n2 n3 : Int} {u v : World} (h : KeptQ w B n0 n1 n2 n3 u) (hb : Below u.heap.size u v) : KeptQ w B n0 n1 n2 n3 v := ⟨below_all h.1 hb, h.2.up hb (lt_of_block h.2)⟩
theorem KeptQ.below {w : World} {B : Nat} {n0 n1 n2 n3 : Int} {u : World} (h : KeptQ w B n0 n1 n2 n3 u) : Below w.heap.size w u := h.1
def CellsQ (B : Nat) (n0 n1 n2 n3 : Int) (u : World) : Prop := u.cell? ⟨B, 0, none⟩ = some (.int .u32 n0) ∧ u.cell? ⟨B, 1, none⟩ = some (.int .u32 n1) ∧ u.cell? ⟨B, 2, none⟩ = some (.int .u32 n2) ∧ u.cell? ⟨B, 3, none⟩ = some (.int .u32 n3)
theorem KeptQ.cells {w : World} {B : Nat} {n0 n1 n2 n3 : Int} {u : World} (h : KeptQ w B n0 n1 n2 n3 u) : CellsQ B n0 n1 n2 n3 u := ⟨h.2.cell 0 (by simp), h.2.cell 1 (by simp), h.2.cell 2 (by simp), h.2.cell 3 (by simp)⟩
theorem rd_up {w u : World} {A : Option Addr} {xs : List Int} (h : Rd w w.heap.size A xs) (hb : Below w.heap.size w u) : Rd u u.heap.size A xs := (h.below hb).mono hb.size
/-- ToPlaces and ToTrim of the bytes at A, in every later world. -/
def Tos (A : Option Addr) (cp : Nat) (w : World) (n0 n1 n2 n3 : Int) : Prop := ∀ u, Below w.heap.size w u → Calls Tryd.prog 6 #[.slice A 16 cp] u fun r w' => r = .returned (.tuple #[pV n0 n1 n2 n3, .nilIface]) ∧ Below u.heap.size u w'
def Trs (A : Option Addr) (cp : Nat) (w : World) (n : Int) (e : Value) : Prop := ∀ u, Below w.heap.size w u → Calls Tryd.prog 8 #[.slice A 16 cp] u fun r w' => r = .returned (.tuple #[.int .u32 n, e]) ∧ Below u.heap.size u w'

set_option maxHeartbeats 4000000 in
set_option maxRecDepth 100000 in
theorem bback_trim {w : World} (hg : Gl w) (A : Option Addr) (cp : Nat) (a b c d n n0 : Int) (hr : Rd w w.heap.size A (flat [n0, 0, 0, 0])) (hto : Tos A cp w n0 0 0 0) (htr : Trs A cp w n0 .nilIface) (h0 : (n0 != 0) = true) (hq : Words [n0, 0, 0, 0]) (hw : Words [a, b, c, d]) (hn : Word n) :
    Calls Tryd.prog 4 #[pV a b c d, .int .u32 n, .slice A 16 cp] w (TrueB w) := by
  have HR := Lib.hid hr
  have HTO := Lib.hid hto
  have HTR := Lib.hid htr
  have HQ := Lib.hid hq
  clear hr hto htr hq
  have HB1 := Lib.hid ((Below.refl w.heap.size w).alloc (Nat.le_refl _) (.cells #[.int .u32 a, .int .u32 b, .int .u32 c, .int .u32 d] 24))
  have HL1 := Lib.hid (blk_new w a b c d 24)
  have HG := Lib.hid hg
  have HW := Lib.hid hw
  have HN1 := Lib.hid hn
  have hneq := neq_places a b c d a b c d
  rw [show same4 a b c d a b c d = true by simp [same4], Bool.not_true] at hneq
  have hgd := guard_places .neq
  clear hg hw hn
  go_enter Tryd.func4, Tryd.ntmps4
  go_wp2_with fail
  refine (bawake_true (HG.out.below HB1.out)).mono ?_
  rintro r w1 ⟨rfl, hb⟩
  have HB2 := Lib.hid (HB1.out.trans (hb.mono HB1.out.size))
  have HL2 := Lib.hid (HL1.out.up hb (lt_of_block HL1.out))
  clear hb HB1 HL1
  have l0 := HL2.out.cell 0 (by simp)
  have l1 := HL2.out.cell 1 (by simp)
  have l2 := HL2.out.cell 2 (by simp)
  have l3 := HL2.out.cell 3 (by simp)
  go_wp2_with fail
  refine (of_is a b c d _ HW.out).mono ?_
  rintro r w2 ⟨g2, c2, rfl, hr2, hc2, hb⟩
  have HB3 := Lib.hid (HB2.out.trans (hb.mono HB2.out.size))
  have HL3 := Lib.hid (HL2.out.up hb (lt_of_block HL2.out))
  have HR3 := Lib.hid hr2
  clear hb hr2 HB2 HL2 l0 l1 l2 l3
  go_wp2_with fail
  refine (to_back (HW.out a (by simp)) (HW.out b (by simp)) (HW.out c (by simp)) (HW.out d (by simp)) HR3.out rfl hc2).mono ?_
  rintro r w3 ⟨rfl, hb⟩
  have hb2 : Below w2.heap.size w2 (w3.alloc (.cells #[.int .u32 a, .int .u32 b, .int .u32 c, .int .u32 d] 24)) := hb.alloc hb.size _
  have HB4 := Lib.hid (HB3.out.trans (hb2.mono HB3.out.size))
  have HL4 := Lib.hid (HL3.out.up hb2 (lt_of_block HL3.out))
  clear hb hb2 HB3 HL3 HR3
  have l0 := HL4.out.cell 0 (by simp)
  have l1 := HL4.out.cell 1 (by simp)
  have l2 := HL4.out.cell 2 (by simp)
  have l3 := HL4.out.cell 3 (by simp)
  go_wp2_with fail
  refine (of_is a b c d _ HW.out).mono ?_
  rintro r w5 ⟨g5, c5, rfl, -, hc5, hb⟩
  have HB5 := Lib.hid (HB4.out.trans (hb.mono HB4.out.size))
  clear hb HB4 HL4 l0 l1 l2 l3 hneq hgd
  go_wp2_with fail
  refine (oft_is n _ HN1.out).mono ?_
  rintro r w6 ⟨g6, c6, rfl, hr6, hc6, hb⟩
  have HB6 := Lib.hid (HB5.out.trans (hb.mono HB5.out.size))
  have HR6 := Lib.hid hr6
  clear hb hr6 HB5
  go_wp2_with fail
  by_cases hn0 : n = 0
  · subst hn0
    refine (trim_back HN1.out HR6.out rfl hc6).mono ?_
    rw [if_pos rfl, show errV 2 = Value.iface 31 (.int .i64 2) from if_neg (by omega)]
    rintro r w7 ⟨rfl, hb⟩
    have HB7 := Lib.hid (HB6.out.trans (hb.mono HB6.out.size))
    clear hb HB6 HR6
    go_wp2_with fail
    refine (HTO.out _ HB7.out).mono ?_
    rintro r w8 ⟨rfl, hb⟩
    have HB8 := Lib.hid ((HB7.out.trans (hb.mono HB7.out.size)).alloc (Nat.le_trans HB7.out.size hb.size) (.cells #[.int .u32 n0, .int .u32 0, .int .u32 0, .int .u32 0] 24))
    have HP8 := Lib.hid (blk_new w8 n0 0 0 0 24)
    clear hb HB7
    go_wp2_with fail
    obtain ⟨B, hB⟩ : ∃ B, w8.heap.size = B := ⟨_, rfl⟩
    rw [hB] at HP8 ⊢
    clear hB
    obtain ⟨w9, hw9⟩ : ∃ w9 : World, w9 = w8.alloc (.cells #[.int .u32 n0, .int .u32 0, .int .u32 0, .int .u32 0] 24) := ⟨_, rfl⟩
    rw [← hw9] at HB8 HP8 ⊢
    clear hw9
    refine (HTR.out _ HB8.out).mono ?_
    rintro r w10 ⟨rfl, hb⟩
    have HK10 : Hid (KeptQ w B n0 0 0 0 w10) := Lib.hid (KeptQ.up ⟨HB8.out, HP8.out⟩ hb)
    clear hb HB8 HP8 HTO HTR
    have HK0 := Lib.hid (HK10.out.up (Below.refl w10.heap.size w10).drew)
    have C10 := Lib.hid HK10.out.cells
    have C0 := Lib.hid HK0.out.cells
    have HM := Lib.hid (HQ.out n0 (by simp))
    have he := eql_places n0 0 0 0 n0 0 0 0
    rw [show same4 n0 0 0 0 n0 0 0 0 = true by simp [same4]] at he
    have hgd := guard_places .eql
    go_wp2_with fail
    go_region_held3 (fun w' => w'.cell? ⟨B, 0, none⟩ = some (.int .u32 n0) ∧ w'.cell? ⟨B, 1, none⟩ = some (.int .u32 0) ∧ w'.cell? ⟨B, 2, none⟩ = some (.int .u32 0) ∧ w'.cell? ⟨B, 3, none⟩ = some (.int .u32 0))
      (first | exact C14.out | exact C13.out | exact C12.out | exact C11.out | exact C0.out | exact C10.out)
      (first
        | (go_at_call 11; (with_reducible refine (of_is n0 0 0 0 _ HQ.out).mono ?_); rintro r w11 ⟨g11, c11, rfl, hr11, hc11, hb⟩; have HK11 := Lib.hid (HK0.out.up hb); have HR11 := Lib.hid hr11; have HX11 := Lib.hid (rd_up HR.out HK11.out.below); have C11 := Lib.hid HK11.out.cells; clear hb hr11)
        | (go_at_call 10; (with_reducible refine (same16 HR11.out HX11.out).mono ?_); rintro r w12 ⟨rfl, hb⟩; have HK12 := Lib.hid (HK11.out.up hb); have C12 := Lib.hid HK12.out.cells; clear hb)
        | (go_at_call 13; (with_reducible refine (oft_is n0 _ HM.out).mono ?_); rintro r w13 ⟨g13, c13, rfl, hr13, hc13, hb⟩; have HK13 := Lib.hid (HK12.out.up hb); have HR13 := Lib.hid hr13; have HX13 := Lib.hid (rd_up HR.out HK13.out.below); have C13 := Lib.hid HK13.out.cells; clear hb hr13)
        | (go_at_call 10; (with_reducible refine (same16 HR13.out HX13.out).mono ?_); rintro r w14 ⟨rfl, hb⟩; have HK14 := Lib.hid (HK13.out.up hb); have C14 := Lib.hid HK14.out.cells; clear hb))
    go_wp2_with fail
    go_ret
    exact ⟨rfl, HK14.out.below⟩
  · have q1 : (n == 0) = false := by simpa using hn0
    have q2 : 0 < n := by have := HN1.out.1; omega
    refine (trim_back HN1.out HR6.out rfl hc6).mono ?_
    rw [if_neg hn0, show errV 0 = Value.nilIface from if_pos rfl]
    clear hn0
    rintro r w7 ⟨rfl, hb⟩
    have HB7 := Lib.hid (HB6.out.trans (hb.mono HB6.out.size))
    clear hb HB6 HR6
    go_wp2_with fail
    refine (HTO.out _ HB7.out).mono ?_
    rintro r w8 ⟨rfl, hb⟩
    have HB8 := Lib.hid ((HB7.out.trans (hb.mono HB7.out.size)).alloc (Nat.le_trans HB7.out.size hb.size) (.cells #[.int .u32 n0, .int .u32 0, .int .u32 0, .int .u32 0] 24))
    have HP8 := Lib.hid (blk_new w8 n0 0 0 0 24)
    clear hb HB7
    go_wp2_with fail
    obtain ⟨B, hB⟩ : ∃ B, w8.heap.size = B := ⟨_, rfl⟩
    rw [hB] at HP8 ⊢
    clear hB
    obtain ⟨w9, hw9⟩ : ∃ w9 : World, w9 = w8.alloc (.cells #[.int .u32 n0, .int .u32 0, .int .u32 0, .int .u32 0] 24) := ⟨_, rfl⟩
    rw [← hw9] at HB8 HP8 ⊢
    clear hw9
    refine (HTR.out _ HB8.out).mono ?_
    rintro r w10 ⟨rfl, hb⟩
    have HK10 : Hid (KeptQ w B n0 0 0 0 w10) := Lib.hid (KeptQ.up ⟨HB8.out, HP8.out⟩ hb)
    clear hb HB8 HP8 HTO HTR
    have HK0 := Lib.hid (HK10.out.up (Below.refl w10.heap.size w10).drew)
    have C10 := Lib.hid HK10.out.cells
    have C0 := Lib.hid HK0.out.cells
    have HM := Lib.hid (HQ.out n0 (by simp))
    have he := eql_places n0 0 0 0 n0 0 0 0
    rw [show same4 n0 0 0 0 n0 0 0 0 = true by simp [same4]] at he
    have hgd := guard_places .eql
    go_wp2_with fail
    go_region_held3 (fun w' => w'.cell? ⟨B, 0, none⟩ = some (.int .u32 n0) ∧ w'.cell? ⟨B, 1, none⟩ = some (.int .u32 0) ∧ w'.cell? ⟨B, 2, none⟩ = some (.int .u32 0) ∧ w'.cell? ⟨B, 3, none⟩ = some (.int .u32 0))
      (first | exact C14.out | exact C13.out | exact C12.out | exact C11.out | exact C0.out | exact C10.out)
      (first
        | (go_at_call 11; (with_reducible refine (of_is n0 0 0 0 _ HQ.out).mono ?_); rintro r w11 ⟨g11, c11, rfl, hr11, hc11, hb⟩; have HK11 := Lib.hid (HK0.out.up hb); have HR11 := Lib.hid hr11; have HX11 := Lib.hid (rd_up HR.out HK11.out.below); have C11 := Lib.hid HK11.out.cells; clear hb hr11)
        | (go_at_call 10; (with_reducible refine (same16 HR11.out HX11.out).mono ?_); rintro r w12 ⟨rfl, hb⟩; have HK12 := Lib.hid (HK11.out.up hb); have C12 := Lib.hid HK12.out.cells; clear hb)
        | (go_at_call 13; (with_reducible refine (oft_is n0 _ HM.out).mono ?_); rintro r w13 ⟨g13, c13, rfl, hr13, hc13, hb⟩; have HK13 := Lib.hid (HK12.out.up hb); have HR13 := Lib.hid hr13; have HX13 := Lib.hid (rd_up HR.out HK13.out.below); have C13 := Lib.hid HK13.out.cells; clear hb hr13)
        | (go_at_call 10; (with_reducible refine (same16 HR13.out HX13.out).mono ?_); rintro r w14 ⟨rfl, hb⟩; have HK14 := Lib.hid (HK13.out.up hb); have C14 := Lib.hid HK14.out.cells; clear hb))
    go_wp2_with fail
    go_ret
    exact ⟨rfl, HK14.out.below⟩
end Go.Proofs.YtcoaogfebfbemaaDoor
