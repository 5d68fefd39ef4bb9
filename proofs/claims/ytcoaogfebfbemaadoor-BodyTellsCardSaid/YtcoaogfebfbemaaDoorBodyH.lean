/-
  platelayerlaw05.BodyTells answers true.
-/
import Derived.Test.YtcoaogfebfbemaaDoorBodyG
import Derived.Deep.RegionHeld3
namespace Go.Proofs.YtcoaogfebfbemaaDoor
open Go.RowKit

/-- Three blocks of four numbers each: what the last line reads. -/
def Three (w : World) (B0 B1 B2 : Nat) (T2 : TypeId) (a b c d n0 n1 n2 n3 : Int) (u : World) : Prop :=
  Below w.heap.size w u ∧ Blk u B0 24 [.int .u32 a, .int .u32 b, .int .u32 c, .int .u32 d] ∧ Blk u B1 24 [.int .u32 n0, .int .u32 n1, .int .u32 n2, .int .u32 n3] ∧ Blk u B2 T2 [.int .u32 n0, .int .u32 n1, .int .u32 n2, .int .u32 n3]
theorem Three.up {w : World} {B0 B1 B2 : Nat} {T2 : TypeId} {a b c d n0 n1 n2 n3 : Int} {u v : World} (h : Three w B0 B1 B2 T2 a b c d n0 n1 n2 n3 u) (hb : Below u.heap.size u v) : Three w B0 B1 B2 T2 a b c d n0 n1 n2 n3 v :=
  ⟨below_all h.1 hb, h.2.1.up hb (lt_of_block h.2.1), h.2.2.1.up hb (lt_of_block h.2.2.1), h.2.2.2.up hb (lt_of_block h.2.2.2)⟩
theorem Three.below {w : World} {B0 B1 B2 : Nat} {T2 : TypeId} {a b c d n0 n1 n2 n3 : Int} {u : World} (h : Three w B0 B1 B2 T2 a b c d n0 n1 n2 n3 u) : Below w.heap.size w u := h.1
/-- Their cells. -/
def Cells12 (B0 B1 B2 : Nat) (a b c d n0 n1 n2 n3 : Int) (u : World) : Prop :=
  u.cell? ⟨B0, 0, none⟩ = some (.int .u32 a) ∧ u.cell? ⟨B0, 1, none⟩ = some (.int .u32 b) ∧ u.cell? ⟨B0, 2, none⟩ = some (.int .u32 c) ∧ u.cell? ⟨B0, 3, none⟩ = some (.int .u32 d) ∧
  u.cell? ⟨B1, 0, none⟩ = some (.int .u32 n0) ∧ u.cell? ⟨B1, 1, none⟩ = some (.int .u32 n1) ∧ u.cell? ⟨B1, 2, none⟩ = some (.int .u32 n2) ∧ u.cell? ⟨B1, 3, none⟩ = some (.int .u32 n3) ∧
  u.cell? ⟨B2, 0, none⟩ = some (.int .u32 n0) ∧ u.cell? ⟨B2, 1, none⟩ = some (.int .u32 n1) ∧ u.cell? ⟨B2, 2, none⟩ = some (.int .u32 n2) ∧ u.cell? ⟨B2, 3, none⟩ = some (.int .u32 n3)
theorem Three.cells {w : World} {B0 B1 B2 : Nat} {T2 : TypeId} {a b c d n0 n1 n2 n3 : Int} {u : World} (h : Three w B0 B1 B2 T2 a b c d n0 n1 n2 n3 u) : Cells12 B0 B1 B2 a b c d n0 n1 n2 n3 u :=
  ⟨h.2.1.cell 0 (by simp), h.2.1.cell 1 (by simp), h.2.1.cell 2 (by simp), h.2.1.cell 3 (by simp), h.2.2.1.cell 0 (by simp), h.2.2.1.cell 1 (by simp), h.2.2.1.cell 2 (by simp), h.2.2.1.cell 3 (by simp), h.2.2.2.cell 0 (by simp), h.2.2.2.cell 1 (by simp), h.2.2.2.cell 2 (by simp), h.2.2.2.cell 3 (by simp)⟩

theorem btells_long {w : World} (hg : Gl w) (A : Option Addr) (m cp : Nat) (a b c d n : Int) (h : 1000 < m) : Calls Tryd.prog 3 #[pV a b c d, .int .u32 n, .slice A m cp] w (TrueB w) := by
  have HB1 := Lib.hid ((Below.refl w.heap.size w).alloc (Nat.le_refl _) (.cells #[.int .u32 a, .int .u32 b, .int .u32 c, .int .u32 d] 24))
  have HG := Lib.hid (hg.below HB1.out)
  clear hg
  go_enter Tryd.func3, Tryd.ntmps3
  go_wp2_with fail
  refine (bawake_true HG.out).mono ?_
  rintro r w1 ⟨rfl, hb⟩
  have HB := Lib.hid (HB1.out.trans (hb.mono HB1.out.size))
  clear hb
  go_wp2_with fail
  go_ret
  exact ⟨rfl, HB.out⟩

set_option maxHeartbeats 4000000 in
set_option maxRecDepth 100000 in
theorem btells_true {w : World} (hg : Gl w) (A : Option Addr) (xs : List Int) (m cp : Nat) (a b c d n : Int) (hr : Rd w w.heap.size A xs) (hx : Byt xs) (hl : xs.length = m) (hc : m ≤ cp) (hm : m ≤ 1000) (hw : Words [a, b, c, d]) (hn : Word n) :
    Calls Tryd.prog 3 #[pV a b c d, .int .u32 n, .slice A m cp] w (TrueB w) := by
  have HB1 := Lib.hid ((Below.refl w.heap.size w).alloc (Nat.le_refl _) (.cells #[.int .u32 a, .int .u32 b, .int .u32 c, .int .u32 d] 24))
  have HL1 := Lib.hid (blk_new w a b c d 24)
  have HG := Lib.hid hg
  have HR := Lib.hid hr
  have HX := Lib.hid hx
  have HL := Lib.hid hl
  have HW := Lib.hid hw
  have HN := Lib.hid (Words.four hn word0 word0 word0)
  have HN1 := Lib.hid hn
  clear hg hr hx hl hw hn
  go_enter Tryd.func3, Tryd.ntmps3
  go_wp2_with fail
  refine (bawake_true (HG.out.below HB1.out)).mono ?_
  rintro r w1 ⟨rfl, hb⟩
  have HB2 := Lib.hid (HB1.out.trans (hb.mono HB1.out.size))
  have HL2 := Lib.hid (HL1.out.up hb (lt_of_block HL1.out))
  clear hb HB1 HL1
  go_wp2_with fail
  refine (to_all ((HR.out.below HB2.out).mono HB2.out.size) HX.out HL.out hc).mono ?_
  unfold ToIs toV
  rintro r w2 ⟨rfl, hb⟩
  have hto2 : ∀ u, Below w.heap.size w u → Calls Tryd.prog 7 #[.slice A m cp] u (ToIs (.int .i64 (toE xs)) xs u) := fun u hu => rto_all ((HR.out.below hu).mono hu.size) HX.out HL.out hc
  unfold ToIs toV at hto2
  obtain ⟨n0, e0⟩ : ∃ x, toN xs 0 = x := ⟨_, rfl⟩
  obtain ⟨n1, e1⟩ : ∃ x, toN xs 1 = x := ⟨_, rfl⟩
  obtain ⟨n2, e2⟩ : ∃ x, toN xs 2 = x := ⟨_, rfl⟩
  obtain ⟨n3, e3⟩ : ∃ x, toN xs 3 = x := ⟨_, rfl⟩
  obtain ⟨E, eE⟩ : ∃ x, toE xs = x := ⟨_, rfl⟩
  rw [e0, e1, e2, e3, eE] at hto2 ⊢
  clear e0 e1 e2 e3 eE
  have HTO := Lib.hid hto2
  clear hto2
  have hb2 : Below w1.heap.size w1 (w2.alloc (.cells #[.int .u32 n0, .int .u32 n1, .int .u32 n2, .int .u32 n3] 24)) := hb.alloc hb.size _
  have HB3 := Lib.hid (HB2.out.trans (hb2.mono HB2.out.size))
  have HL3 := Lib.hid (HL2.out.up hb2 (lt_of_block HL2.out))
  have HP3 := Lib.hid (blk_new w2 n0 n1 n2 n3 24)
  clear hb hb2 HB2 HL2
  go_wp2_with fail
  obtain ⟨B1, hB⟩ : ∃ B, w2.heap.size = B := ⟨_, rfl⟩
  rw [hB] at HP3 ⊢
  clear hB
  obtain ⟨w3, hw3⟩ : ∃ w3 : World, w3 = w2.alloc (.cells #[.int .u32 n0, .int .u32 n1, .int .u32 n2, .int .u32 n3] 24) := ⟨_, rfl⟩
  rw [← hw3] at HB3 HL3 HP3 ⊢
  clear hw3
  refine (HTO.out w3 HB3.out).mono ?_
  rintro r w4 ⟨rfl, hb⟩
  have hb2 : Below w3.heap.size w3 (w4.alloc (.cells #[.int .u32 n0, .int .u32 n1, .int .u32 n2, .int .u32 n3] 23)) := hb.alloc hb.size _
  have HB4 := Lib.hid (HB3.out.trans (hb2.mono HB3.out.size))
  have HL4 := Lib.hid (HL3.out.up hb2 (lt_of_block HL3.out))
  have HP4 := Lib.hid (HP3.out.up hb2 (lt_of_block HP3.out))
  have HQ4 := Lib.hid (blk_new w4 n0 n1 n2 n3 23)
  clear hb hb2 HB3 HL3 HP3 HTO
  go_wp2_with fail
  obtain ⟨B2, hB⟩ : ∃ B, w4.heap.size = B := ⟨_, rfl⟩
  rw [hB] at HQ4 ⊢
  clear hB
  obtain ⟨w5, hw5⟩ : ∃ w5 : World, w5 = w4.alloc (.cells #[.int .u32 n0, .int .u32 n1, .int .u32 n2, .int .u32 n3] 23) := ⟨_, rfl⟩
  rw [← hw5] at HB4 HL4 HP4 HQ4 ⊢
  clear hw5
  have HT5 : Hid (Three w w.heap.size B1 B2 23 a b c d n0 n1 n2 n3 w5) := Lib.hid ⟨HB4.out, HL4.out, HP4.out, HQ4.out⟩
  clear HB4 HL4 HP4 HQ4
  refine (trim_all ((HR.out.below HT5.out.1).mono HT5.out.1.size) HX.out HL.out hc).mono ?_
  unfold TrimIs
  rintro r w6 ⟨rfl, hb⟩
  have HT6 := Lib.hid (HT5.out.up hb)
  clear hb HT5
  have htr : ∀ u, Below w.heap.size w u → Calls Tryd.prog 9 #[.slice A m cp] u (TrimIs (trimN xs) (.int .i64 (trimE xs)) u) := fun u hu => rtrim_all ((HR.out.below hu).mono hu.size) HX.out HL.out hc
  unfold TrimIs at htr
  obtain ⟨t, et⟩ : ∃ x, trimN xs = x := ⟨_, rfl⟩
  obtain ⟨F, eF⟩ : ∃ x, trimE xs = x := ⟨_, rfl⟩
  rw [et, eF] at htr ⊢
  clear et eF
  have HTR := Lib.hid htr
  clear htr
  go_wp2_with fail
  refine (HTR.out w6 HT6.out.1).mono ?_
  rintro r w7 ⟨rfl, hb⟩
  have HT7 := Lib.hid (HT6.out.up hb)
  clear hb HT6 HTR
  have HT0 := Lib.hid (HT7.out.up (Below.refl w7.heap.size w7).drew)
  have K7 := Lib.hid HT7.out.cells
  have K0 := Lib.hid HT0.out.cells
  clear HT7
  have he := eql_places n0 n1 n2 n3 n0 n1 n2 n3
  rw [show same4 n0 n1 n2 n3 n0 n1 n2 n3 = true by simp [same4]] at he
  have hgd := guard_places .eql
  clear HR HX HL
  go_wp2_with fail
  go_region_held3 (fun w' =>
      w'.cell? ⟨w.heap.size, 0, none⟩ = some (.int .u32 a) ∧ w'.cell? ⟨w.heap.size, 1, none⟩ = some (.int .u32 b) ∧ w'.cell? ⟨w.heap.size, 2, none⟩ = some (.int .u32 c) ∧ w'.cell? ⟨w.heap.size, 3, none⟩ = some (.int .u32 d) ∧
      w'.cell? ⟨B1, 0, none⟩ = some (.int .u32 n0) ∧ w'.cell? ⟨B1, 1, none⟩ = some (.int .u32 n1) ∧ w'.cell? ⟨B1, 2, none⟩ = some (.int .u32 n2) ∧ w'.cell? ⟨B1, 3, none⟩ = some (.int .u32 n3) ∧
      w'.cell? ⟨B2, 0, none⟩ = some (.int .u32 n0) ∧ w'.cell? ⟨B2, 1, none⟩ = some (.int .u32 n1) ∧ w'.cell? ⟨B2, 2, none⟩ = some (.int .u32 n2) ∧ w'.cell? ⟨B2, 3, none⟩ = some (.int .u32 n3))
    (first | exact K15.out | exact K14.out | exact K13.out | exact K12.out | exact K11.out | exact K10.out | exact K9.out | exact K8.out | exact K0.out | exact K7.out)
    (first
      | (go_at_call 11; (with_reducible refine (of_is a b c d _ HW.out).mono ?_); rintro r w8 ⟨g8, c8, rfl, hr8, hc8, hb⟩; have HT8 := Lib.hid (HT0.out.up hb); have HR8 := Lib.hid hr8; have K8 := Lib.hid HT8.out.cells; clear hb hr8)
      | (go_at_call 12; (with_reducible refine (rof_is a b c d _ HW.out).mono ?_); rintro r w9 ⟨g9, c9, rfl, hr9, hc9, hb⟩; have HT9 := Lib.hid (HT8.out.up hb); have HR89 := Lib.hid ((HR8.out.below hb).mono hb.size); have HR9 := Lib.hid hr9; have K9 := Lib.hid HT9.out.cells; clear hb hr9)
      | (go_at_call 10; (with_reducible refine (same16 HR89.out HR9.out).mono ?_); rintro r w10 ⟨rfl, hb⟩; have HT10 := Lib.hid (HT9.out.up hb); have K10 := Lib.hid HT10.out.cells; clear hb)
      | (go_at_call 13; (with_reducible refine (oft_is n _ HN1.out).mono ?_); rintro r w11 ⟨g11, c11, rfl, hr11, hc11, hb⟩; have HT11 := Lib.hid (HT10.out.up hb); have HR11 := Lib.hid hr11; have K11 := Lib.hid HT11.out.cells; clear hb hr11)
      | (go_at_call 12; (with_reducible refine (rof_is n 0 0 0 _ HN.out).mono ?_); rintro r w12 ⟨g12, c12, rfl, hr12, hc12, hb⟩; have HT12 := Lib.hid (HT11.out.up hb); have HR112 := Lib.hid ((HR11.out.below hb).mono hb.size); have HR12 := Lib.hid hr12; have K12 := Lib.hid HT12.out.cells; clear hb hr12)
      | (go_at_call 10; (with_reducible refine (same16 HR112.out HR12.out).mono ?_); rintro r w13 ⟨rfl, hb⟩; have HT13 := Lib.hid (HT12.out.up hb); have K13 := Lib.hid HT13.out.cells; clear hb)
      | (go_at_call 14; (with_reducible refine (code_is E (HG.out.below HT13.out.below)).mono ?_); rintro r w14 ⟨rfl, hb⟩; have HT14 := Lib.hid (HT13.out.up hb); have K14 := Lib.hid HT14.out.cells; clear hb)
      | (go_at_call 14; (with_reducible refine (code_is F (HG.out.below HT14.out.below)).mono ?_); rintro r w15 ⟨rfl, hb⟩; have HT15 := Lib.hid (HT14.out.up hb); have K15 := Lib.hid HT15.out.cells; clear hb))
  go_wp2_with fail
  go_ret
  exact ⟨rfl, HT15.out.1⟩
end Go.Proofs.YtcoaogfebfbemaaDoor
