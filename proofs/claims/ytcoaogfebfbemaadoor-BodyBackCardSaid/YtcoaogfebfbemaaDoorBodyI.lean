/-
  platelayerlaw05.BodyBack answers true: of bytes that are no block.
-/
import Derived.Test.YtcoaogfebfbemaaDoorBodyG
namespace Go.Proofs.YtcoaogfebfbemaaDoor
open Go.RowKit

theorem bback_long {w : World} (hg : Gl w) (A : Option Addr) (m cp : Nat) (a b c d n : Int) (h : 1000 < m) : Calls Tryd.prog 4 #[pV a b c d, .int .u32 n, .slice A m cp] w (TrueB w) := by
  have HB1 := Lib.hid ((Below.refl w.heap.size w).alloc (Nat.le_refl _) (.cells #[.int .u32 a, .int .u32 b, .int .u32 c, .int .u32 d] 24))
  have HG := Lib.hid (hg.below HB1.out)
  clear hg
  go_enter Tryd.func4, Tryd.ntmps4
  go_wp2_with fail
  refine (bawake_true HG.out).mono ?_
  rintro r w1 ⟨rfl, hb⟩
  have HB := Lib.hid (HB1.out.trans (hb.mono HB1.out.size))
  clear hb
  go_wp2_with fail
  go_ret
  exact ⟨rfl, HB.out⟩

set_option maxHeartbeats 4000000 in
set_option maxRecDepth 100000 in
theorem bback_short {w : World} (hg : Gl w) (A : Option Addr) (m cp : Nat) (a b c d n : Int) (hm : m ≠ 16) (hm2 : m ≤ 1000) (hw : Words [a, b, c, d]) (hn : Word n) :
    Calls Tryd.prog 4 #[pV a b c d, .int .u32 n, .slice A m cp] w (TrueB w) := by
  have HB1 := Lib.hid ((Below.refl w.heap.size w).alloc (Nat.le_refl _) (.cells #[.int .u32 a, .int .u32 b, .int .u32 c, .int .u32 d] 24))
  have HL1 := Lib.hid (blk_new w a b c d 24)
  have HG := Lib.hid hg
  have HW := Lib.hid hw
  have HN1 := Lib.hid hn
  have hneq := neq_places a b c d a b c d
  rw [show same4 a b c d a b c d = true by simp [same4], Bool.not_true] at hneq
  have hgd := guard_places .neq
  clear hg hw hn
  go_enter Tryd.func4, Tryd.ntmps4
  go_wp2_with fail
  refine (bawake_true (HG.out.below HB1.out)).mono ?_
  rintro r w1 ⟨rfl, hb⟩
  have HB2 := Lib.hid (HB1.out.trans (hb.mono HB1.out.size))
  have HL2 := Lib.hid (HL1.out.up hb (lt_of_block HL1.out))
  clear hb HB1 HL1
  have l0 := HL2.out.cell 0 (by simp)
  have l1 := HL2.out.cell 1 (by simp)
  have l2 := HL2.out.cell 2 (by simp)
  have l3 := HL2.out.cell 3 (by simp)
  go_wp2_with fail
  refine (of_is a b c d _ HW.out).mono ?_
  rintro r w2 ⟨g2, c2, rfl, hr2, hc2, hb⟩
  have HB3 := Lib.hid (HB2.out.trans (hb.mono HB2.out.size))
  have HL3 := Lib.hid (HL2.out.up hb (lt_of_block HL2.out))
  have HR3 := Lib.hid hr2
  clear hb hr2 HB2 HL2 l0 l1 l2 l3
  go_wp2_with fail
  refine (to_back (HW.out a (by simp)) (HW.out b (by simp)) (HW.out c (by simp)) (HW.out d (by simp)) HR3.out rfl hc2).mono ?_
  rintro r w3 ⟨rfl, hb⟩
  have hb2 : Below w2.heap.size w2 (w3.alloc (.cells #[.int .u32 a, .int .u32 b, .int .u32 c, .int .u32 d] 24)) := hb.alloc hb.size _
  have HB4 := Lib.hid (HB3.out.trans (hb2.mono HB3.out.size))
  have HL4 := Lib.hid (HL3.out.up hb2 (lt_of_block HL3.out))
  clear hb hb2 HB3 HL3 HR3
  have l0 := HL4.out.cell 0 (by simp)
  have l1 := HL4.out.cell 1 (by simp)
  have l2 := HL4.out.cell 2 (by simp)
  have l3 := HL4.out.cell 3 (by simp)
  go_wp2_with fail
  refine (of_is a b c d _ HW.out).mono ?_
  rintro r w5 ⟨g5, c5, rfl, -, hc5, hb⟩
  have HB5 := Lib.hid (HB4.out.trans (hb.mono HB4.out.size))
  clear hb HB4 HL4 l0 l1 l2 l3 hneq hgd
  go_wp2_with fail
  refine (oft_is n _ HN1.out).mono ?_
  rintro r w6 ⟨g6, c6, rfl, hr6, hc6, hb⟩
  have HB6 := Lib.hid (HB5.out.trans (hb.mono HB5.out.size))
  have HR6 := Lib.hid hr6
  clear hb hr6 HB5
  go_wp2_with fail
  by_cases hn0 : n = 0
  · subst hn0
    refine (trim_back HN1.out HR6.out rfl hc6).mono ?_
    rw [if_pos rfl, show errV 2 = Value.iface 31 (.int .i64 2) from if_neg (by omega)]
    rintro r w7 ⟨rfl, hb⟩
    have HB7 := Lib.hid (HB6.out.trans (hb.mono HB6.out.size))
    clear hb HB6 HR6
    go_wp2_with fail
    refine (to_short A m cp _ hm).mono ?_
    rintro r w8 ⟨rfl, hb⟩
    have HB8 := Lib.hid ((HB7.out.trans (hb.mono HB7.out.size)).alloc (Nat.le_trans HB7.out.size hb.size) (.cells #[.int .u32 0, .int .u32 0, .int .u32 0, .int .u32 0] 24))
    clear hb HB7
    have he := eql_places 0 0 0 0 0 0 0 0
    rw [show same4 0 0 0 0 0 0 0 0 = true from rfl] at he
    have hgd := guard_places .eql
    have q3 : ((m : Int) != 16) = true := by simp; omega
    go_wp2_with fail
    go_ret
    exact ⟨rfl, HB8.out⟩
  · have q1 : (n == 0) = false := by simpa using hn0
    have q2 : 0 < n := by have := HN1.out.1; omega
    refine (trim_back HN1.out HR6.out rfl hc6).mono ?_
    rw [if_neg hn0, show errV 0 = Value.nilIface from if_pos rfl]
    clear hn0
    rintro r w7 ⟨rfl, hb⟩
    have HB7 := Lib.hid (HB6.out.trans (hb.mono HB6.out.size))
    clear hb HB6 HR6
    go_wp2_with fail
    refine (to_short A m cp _ hm).mono ?_
    rintro r w8 ⟨rfl, hb⟩
    have HB8 := Lib.hid ((HB7.out.trans (hb.mono HB7.out.size)).alloc (Nat.le_trans HB7.out.size hb.size) (.cells #[.int .u32 0, .int .u32 0, .int .u32 0, .int .u32 0] 24))
    clear hb HB7
    have he := eql_places 0 0 0 0 0 0 0 0
    rw [show same4 0 0 0 0 0 0 0 0 = true from rfl] at he
    have hgd := guard_places .eql
    have q3 : ((m : Int) != 16) = true := by simp; omega
    go_wp2_with fail
    go_ret
    exact ⟨rfl, HB8.out⟩
end Go.Proofs.YtcoaogfebfbemaaDoor
