/-
  platelayerlaw04.HeadTells answers true.
-/
import Derived.Test.YtnkkifnglkajfaaDoorHeadL
namespace Go.Proofs.YtnkkifnglkajfaaDoor
open Go.RowKit

theorem bytesX_len (k s i q : Int) (blk : List Int) : (bytesX k s i q blk).length ≤ 33 := by
  unfold bytesX
  split
  · rename_i h
    rw [pageB_len, h.2]
    decide
  · simp
theorem readX_len (ps : List Int) : (readX ps).length ≤ 16 := by
  unfold readX
  split
  · rename_i h
    unfold readE at h
    by_cases hl : ps.length = 33
    · simp [hl]
    · rw [if_pos hl] at h
      omega
  · simp

/-- What the last line reads: three heads and four rows of bytes. -/
def KeptT (w : World) (B1 B2 : Nat) (hc rc : List Value) (A3 A4 A5 A6 : Option Addr) (X Y : List Int) (u : World) : Prop :=
  Below w.heap.size w u ∧ Blk u w.heap.size 24 hc ∧ Blk u B1 24 rc ∧ Blk u B2 34 rc ∧ Rd u u.heap.size A3 X ∧ Rd u u.heap.size A4 X ∧ Rd u u.heap.size A5 Y ∧ Rd u u.heap.size A6 Y
theorem KeptT.up {w : World} {B1 B2 : Nat} {hc rc : List Value} {A3 A4 A5 A6 : Option Addr} {X Y : List Int} {a u : World} (h : KeptT w B1 B2 hc rc A3 A4 A5 A6 X Y a) (hb : Below a.heap.size a u) : KeptT w B1 B2 hc rc A3 A4 A5 A6 X Y u :=
  ⟨below_all h.1 hb, h.2.1.up hb (lt_of_block h.2.1), h.2.2.1.up hb (lt_of_block h.2.2.1), h.2.2.2.1.up hb (lt_of_block h.2.2.2.1), (h.2.2.2.2.1.below hb).mono hb.size, (h.2.2.2.2.2.1.below hb).mono hb.size, (h.2.2.2.2.2.2.1.below hb).mono hb.size, (h.2.2.2.2.2.2.2.below hb).mono hb.size⟩
theorem same_self {A A2 : Option Addr} {X : List Int} {n m c c2 : Nat} {w : World} (h1 : Rd w w.heap.size A X) (h2 : Rd w w.heap.size A2 X) (hl : X.length = n) (hl2 : X.length = m) (hn : X.length ≤ 20000) : Calls Tryd.prog 11 #[.slice A n c, .slice A2 m c2] w (BoolB true w) := by
  have := same_is (c := c) (c2 := c2) h1 h2 hl hl2 (by omega)
  rwa [decide_eq_true (rfl : X = X)] at this

theorem htells_long {w : World} (hg : Gl w) (A A2 : Option Addr) (n m c c2 : Nat) (k s i q : Int) (h : 1000 < n ∨ 1000 < m) : Calls Tryd.prog 3 #[hV k s i q, .slice A n c, .slice A2 m c2] w (TrueB w) := by
  have HB1 := Lib.hid ((Below.refl w.heap.size w).alloc (Nat.le_refl _) (.cells #[.int .u8 k, .int .u32 s, .int .u32 i, .int .u32 q] 24))
  have HG := Lib.hid (hg.below HB1.out)
  clear hg
  by_cases h1 : 1000 < n
  · clear h
    go_enter Tryd.func3, Tryd.ntmps3
    go_wp2_with fail
    refine (hawake_true HG.out).mono ?_
    rintro r w1 ⟨rfl, hb⟩
    have HB := Lib.hid (HB1.out.trans (hb.mono HB1.out.size))
    clear hb
    go_wp2_with fail
    go_ret
    exact ⟨rfl, HB.out⟩
  · have h2 : 1000 < m := by omega
    clear h
    go_enter Tryd.func3, Tryd.ntmps3
    go_wp2_with fail
    refine (hawake_true HG.out).mono ?_
    rintro r w1 ⟨rfl, hb⟩
    have HB := Lib.hid (HB1.out.trans (hb.mono HB1.out.size))
    clear hb
    go_wp2_with fail
    go_ret
    exact ⟨rfl, HB.out⟩

set_option maxHeartbeats 4000000 in
set_option maxRecDepth 100000 in
theorem htells_true {w : World} (hg : Gl w) (A A2 : Option Addr) (blk ps : List Int) (n m c c2 : Nat) (k s i q : Int) (hr : Rd w w.heap.size A blk) (hr2 : Rd w w.heap.size A2 ps) (hx : Byt blk) (hx2 : Byt ps) (hl : blk.length = n) (hl2 : ps.length = m) (hc : n ≤ c) (hc2 : m ≤ c2)
    (hn : n ≤ 1000) (hm : m ≤ 1000) (s0 : 0 ≤ s ∧ s ≤ 4294967295) (i0 : 0 ≤ i ∧ i ≤ 4294967295) (q0 : 0 ≤ q ∧ q ≤ 4294967295) : Calls Tryd.prog 3 #[hV k s i q, .slice A n c, .slice A2 m c2] w (TrueB w) := by
  have HB1 := Lib.hid ((Below.refl w.heap.size w).alloc (Nat.le_refl _) (.cells #[.int .u8 k, .int .u32 s, .int .u32 i, .int .u32 q] 24))
  have HH1 : Hid (Blk (w.alloc (.cells #[.int .u8 k, .int .u32 s, .int .u32 i, .int .u32 q] 24)) w.heap.size 24 [.int .u8 k, .int .u32 s, .int .u32 i, .int .u32 q]) := Lib.hid (heap_alloc_new w _)
  have HG := Lib.hid hg
  have HR := Lib.hid hr
  have HR2 := Lib.hid hr2
  have HX := Lib.hid hx
  have HX2 := Lib.hid hx2
  have HL := Lib.hid hl
  have HL2 := Lib.hid hl2
  have hbx := bytesX_len k s i q blk
  have hrx := readX_len ps
  clear hg hr hr2 hx hx2 hl hl2
  go_enter Tryd.func3, Tryd.ntmps3
  go_wp2_with fail
  refine (hawake_true (HG.out.below HB1.out)).mono ?_
  rintro r w1 ⟨rfl, hb⟩
  have HB2 := Lib.hid (HB1.out.trans (hb.mono HB1.out.size))
  have HH2 := Lib.hid (HH1.out.up hb (lt_of_block HH1.out))
  clear hb HB1 HH1
  have h0 := HH2.out.cell 0 (by simp)
  have h1 := HH2.out.cell 1 (by simp)
  have h2 := HH2.out.cell 2 (by simp)
  have h3 := HH2.out.cell 3 (by simp)
  go_wp2_with fail
  refine (hbytes_all k s i q ((HR.out.below HB2.out).mono HB2.out.size) HX.out HL.out hc s0 i0 q0).mono ?_
  rintro r w2 ⟨A3, m3, c3, rfl, hl3, hc3, hr3, hb⟩
  have HB3 := Lib.hid (HB2.out.trans (hb.mono HB2.out.size))
  have HH3 := Lib.hid (HH2.out.up hb (lt_of_block HH2.out))
  have HR3 := Lib.hid hr3
  have HL3 := Lib.hid hl3
  clear hb hr3 hl3 HB2 HH2 h0 h1 h2 h3
  have h0 := HH3.out.cell 0 (by simp)
  have h1 := HH3.out.cell 1 (by simp)
  have h2 := HH3.out.cell 2 (by simp)
  have h3 := HH3.out.cell 3 (by simp)
  go_wp2_with fail
  refine (rbytes_all k s i q ((HR.out.below HB3.out).mono HB3.out.size) HX.out HL.out hc s0 i0 q0).mono ?_
  rintro r w3 ⟨A4, m4, c4, rfl, hl4, hc4, hr4, hb⟩
  have HB4 := Lib.hid (HB3.out.trans (hb.mono HB3.out.size))
  have HH4 := Lib.hid (HH3.out.up hb (lt_of_block HH3.out))
  have HR3' := Lib.hid ((HR3.out.below hb).mono hb.size)
  have HR4 := Lib.hid hr4
  have HL4 := Lib.hid hl4
  clear hb hr4 hl4 HB3 HH3 HR3 h0 h1 h2 h3
  generalize bytesX k s i q blk = X at *
  obtain ⟨E, hE⟩ : ∃ E, bytesE k blk = E := ⟨_, rfl⟩
  rw [hE]
  clear hE
  go_wp2_with fail
  refine (hread_all ((HR2.out.below HB4.out).mono HB4.out.size) HX2.out HL2.out hc2).mono ?_
  rintro r w4 ⟨A5, m5, c5, rfl, hl5, hc5, hr5, hb⟩
  have HL5 := Lib.hid hl5
  have hs4 := Nat.le_trans HB4.out.size hb.size
  obtain ⟨F, hF⟩ : ∃ F, readE ps = F := ⟨_, rfl⟩
  obtain ⟨a0, ha0⟩ : ∃ x, readK ps = x := ⟨_, rfl⟩
  obtain ⟨a1, ha1⟩ : ∃ x, readN ps 1 = x := ⟨_, rfl⟩
  obtain ⟨a2, ha2⟩ : ∃ x, readN ps 5 = x := ⟨_, rfl⟩
  obtain ⟨a3, ha3⟩ : ∃ x, readN ps 9 = x := ⟨_, rfl⟩
  have hread2 : ∀ u, Below w.heap.size w u → Calls Tryd.prog 10 #[.slice A2 m c2] u fun r w' => ∃ A m c, r = .returned (.tuple #[hV a0 a1 a2 a3, .slice A m c, .int .i64 F]) ∧ (readX ps).length = m ∧ m ≤ c ∧ Rd w' w'.heap.size A (readX ps) ∧ Below u.heap.size u w' := fun u hu => by
    rw [← ha0, ← ha1, ← ha2, ← ha3, ← hF]
    exact rread_all ((HR2.out.below hu).mono hu.size) HX2.out HL2.out hc2
  rw [hF, ha0, ha1, ha2, ha3]
  generalize readX ps = Y at *
  clear hF ha0 ha1 ha2 ha3
  have hbel : Below w3.heap.size w3 (w4.alloc (.cells #[.int .u8 a0, .int .u32 a1, .int .u32 a2, .int .u32 a3] 24)) := hb.alloc hb.size _
  have HB5 := Lib.hid (HB4.out.trans (hbel.mono HB4.out.size))
  have HH5 := Lib.hid (HH4.out.up hbel (lt_of_block HH4.out))
  have HV5 : Hid (Blk (w4.alloc (.cells #[.int .u8 a0, .int .u32 a1, .int .u32 a2, .int .u32 a3] 24)) w4.heap.size 24 [.int .u8 a0, .int .u32 a1, .int .u32 a2, .int .u32 a3]) := Lib.hid (heap_alloc_new w4 _)
  have HR35 := Lib.hid ((HR3'.out.below hbel).mono hbel.size)
  have HR45 := Lib.hid ((HR4.out.below hbel).mono hbel.size)
  have HR55 : Hid (Rd (w4.alloc (.cells #[.int .u8 a0, .int .u32 a1, .int .u32 a2, .int .u32 a3] 24)) (w4.alloc (.cells #[.int .u8 a0, .int .u32 a1, .int .u32 a2, .int .u32 a3] 24)).heap.size A5 Y) := Lib.hid ((hr5.below (Below.alloc (Below.refl w4.heap.size w4) (Nat.le_refl _) _)).mono (by simp))
  clear hb hr5 hl5 hbel HB4 HH4 HR3' HR4
  go_wp2_with fail
  refine (hread2 _ HB5.out).mono ?_
  rintro r w5 ⟨A6, m6, c6, rfl, hl6, hc6, hr6, hb⟩
  have HL6 := Lib.hid hl6
  obtain ⟨B1, hB1⟩ : ∃ B1, w4.heap.size = B1 := ⟨_, rfl⟩
  rw [hB1] at HV5
  have hbel : Below (w4.alloc (.cells #[.int .u8 a0, .int .u32 a1, .int .u32 a2, .int .u32 a3] 24)).heap.size (w4.alloc (.cells #[.int .u8 a0, .int .u32 a1, .int .u32 a2, .int .u32 a3] 24)) (w5.alloc (.cells #[.int .u8 a0, .int .u32 a1, .int .u32 a2, .int .u32 a3] 34)) := hb.alloc hb.size _
  have HK : Hid (KeptT w B1 w5.heap.size [.int .u8 k, .int .u32 s, .int .u32 i, .int .u32 q] [.int .u8 a0, .int .u32 a1, .int .u32 a2, .int .u32 a3] A3 A4 A5 A6 X Y (w5.alloc (.cells #[.int .u8 a0, .int .u32 a1, .int .u32 a2, .int .u32 a3] 34)).drew) :=
    Lib.hid ⟨(HB5.out.trans (hbel.mono HB5.out.size)).drew, HH5.out.up hbel.drew (lt_of_block HH5.out), HV5.out.up hbel.drew (lt_of_block HV5.out), heap_alloc_new w5 _, (HR35.out.below hbel.drew).mono hbel.size, (HR45.out.below hbel.drew).mono hbel.size, (HR55.out.below hbel.drew).mono hbel.size,
      (hr6.below (Below.alloc (Below.refl w5.heap.size w5) (Nat.le_refl _) _).drew).mono (by simp)⟩
  clear hb hr6 hl6 hbel HB5 HH5 HV5 HR35 HR45 HR55 hread2
  rw [hB1]
  go_wp2_with fail
  obtain ⟨B2, hB2⟩ : ∃ B2, w5.heap.size = B2 := ⟨_, rfl⟩
  rw [hB2] at HK ⊢
  refine wp_region_in (KeptT w B1 B2 [.int .u8 k, .int .u32 s, .int .u32 i, .int .u32 q] [.int .u8 a0, .int .u32 a1, .int .u32 a2, .int .u32 a3] A3 A4 A5 A6 X Y) HK.out (by kernel_rfl) (by kernel_rfl) (fun ne => ?_)
  have h0 := fun z : In (KeptT w B1 B2 [.int .u8 k, .int .u32 s, .int .u32 i, .int .u32 q] [.int .u8 a0, .int .u32 a1, .int .u32 a2, .int .u32 a3] A3 A4 A5 A6 X Y) => z.ok.2.1.cell 0 (by simp)
  have h1 := fun z : In (KeptT w B1 B2 [.int .u8 k, .int .u32 s, .int .u32 i, .int .u32 q] [.int .u8 a0, .int .u32 a1, .int .u32 a2, .int .u32 a3] A3 A4 A5 A6 X Y) => z.ok.2.1.cell 1 (by simp)
  have h2 := fun z : In (KeptT w B1 B2 [.int .u8 k, .int .u32 s, .int .u32 i, .int .u32 q] [.int .u8 a0, .int .u32 a1, .int .u32 a2, .int .u32 a3] A3 A4 A5 A6 X Y) => z.ok.2.1.cell 2 (by simp)
  have h3 := fun z : In (KeptT w B1 B2 [.int .u8 k, .int .u32 s, .int .u32 i, .int .u32 q] [.int .u8 a0, .int .u32 a1, .int .u32 a2, .int .u32 a3] A3 A4 A5 A6 X Y) => z.ok.2.1.cell 3 (by simp)
  have g0 := fun z : In (KeptT w B1 B2 [.int .u8 k, .int .u32 s, .int .u32 i, .int .u32 q] [.int .u8 a0, .int .u32 a1, .int .u32 a2, .int .u32 a3] A3 A4 A5 A6 X Y) => z.ok.2.2.1.cell 0 (by simp)
  have g1 := fun z : In (KeptT w B1 B2 [.int .u8 k, .int .u32 s, .int .u32 i, .int .u32 q] [.int .u8 a0, .int .u32 a1, .int .u32 a2, .int .u32 a3] A3 A4 A5 A6 X Y) => z.ok.2.2.1.cell 1 (by simp)
  have g2 := fun z : In (KeptT w B1 B2 [.int .u8 k, .int .u32 s, .int .u32 i, .int .u32 q] [.int .u8 a0, .int .u32 a1, .int .u32 a2, .int .u32 a3] A3 A4 A5 A6 X Y) => z.ok.2.2.1.cell 2 (by simp)
  have g3 := fun z : In (KeptT w B1 B2 [.int .u8 k, .int .u32 s, .int .u32 i, .int .u32 q] [.int .u8 a0, .int .u32 a1, .int .u32 a2, .int .u32 a3] A3 A4 A5 A6 X Y) => z.ok.2.2.1.cell 3 (by simp)
  have e0 := fun z : In (KeptT w B1 B2 [.int .u8 k, .int .u32 s, .int .u32 i, .int .u32 q] [.int .u8 a0, .int .u32 a1, .int .u32 a2, .int .u32 a3] A3 A4 A5 A6 X Y) => z.ok.2.2.2.1.cell 0 (by simp)
  have e1 := fun z : In (KeptT w B1 B2 [.int .u8 k, .int .u32 s, .int .u32 i, .int .u32 q] [.int .u8 a0, .int .u32 a1, .int .u32 a2, .int .u32 a3] A3 A4 A5 A6 X Y) => z.ok.2.2.2.1.cell 1 (by simp)
  have e2 := fun z : In (KeptT w B1 B2 [.int .u8 k, .int .u32 s, .int .u32 i, .int .u32 q] [.int .u8 a0, .int .u32 a1, .int .u32 a2, .int .u32 a3] A3 A4 A5 A6 X Y) => z.ok.2.2.2.1.cell 2 (by simp)
  have e3 := fun z : In (KeptT w B1 B2 [.int .u8 k, .int .u32 s, .int .u32 i, .int .u32 q] [.int .u8 a0, .int .u32 a1, .int .u32 a2, .int .u32 a3] A3 A4 A5 A6 X Y) => z.ok.2.2.2.1.cell 3 (by simp)
  have sameX := fun z : In (KeptT w B1 B2 [.int .u8 k, .int .u32 s, .int .u32 i, .int .u32 q] [.int .u8 a0, .int .u32 a1, .int .u32 a2, .int .u32 a3] A3 A4 A5 A6 X Y) => same_self (c := c3) (c2 := c4) z.ok.2.2.2.2.1 z.ok.2.2.2.2.2.1 HL3.out HL4.out (by omega)
  have sameY := fun z : In (KeptT w B1 B2 [.int .u8 k, .int .u32 s, .int .u32 i, .int .u32 q] [.int .u8 a0, .int .u32 a1, .int .u32 a2, .int .u32 a3] A3 A4 A5 A6 X Y) => same_self (c := c5) (c2 := c6) z.ok.2.2.2.2.2.2.1 z.ok.2.2.2.2.2.2.2 HL5.out HL6.out (by omega)
  have codeE := fun z : In (KeptT w B1 B2 [.int .u8 k, .int .u32 s, .int .u32 i, .int .u32 q] [.int .u8 a0, .int .u32 a1, .int .u32 a2, .int .u32 a3] A3 A4 A5 A6 X Y) => code_is E (HG.out.below z.ok.1)
  have codeF := fun z : In (KeptT w B1 B2 [.int .u8 k, .int .u32 s, .int .u32 i, .int .u32 q] [.int .u8 a0, .int .u32 a1, .int .u32 a2, .int .u32 a3] A3 A4 A5 A6 X Y) => code_is F (HG.out.below z.ok.1)
  have rightH := fun z : In (KeptT w B1 B2 [.int .u8 k, .int .u32 s, .int .u32 i, .int .u32 q] [.int .u8 a0, .int .u32 a1, .int .u32 a2, .int .u32 a3] A3 A4 A5 A6 X Y) => hright_is k s i q z.w
  have rightR := fun z : In (KeptT w B1 B2 [.int .u8 k, .int .u32 s, .int .u32 i, .int .u32 q] [.int .u8 a0, .int .u32 a1, .int .u32 a2, .int .u32 a3] A3 A4 A5 A6 X Y) => rright_is k s i q z.w
  have he : ∀ w, (binOp .eql 34 (hV a0 a1 a2 a3) (hV a0 a1 a2 a3)).run Tryd.prog w = .ok (.bool true) w := fun w => by
    have := eql_rhead a0 a1 a2 a3 a0 a1 a2 a3 w
    simpa using this
  have hgd := guard_rhead
  have q1 : (E == E) = true := by simp
  have q2 : (F == F) = true := by simp
  obtain ⟨t, ht⟩ : ∃ t, rightK k = t := ⟨_, rfl⟩
  rw [ht] at rightH rightR
  have q3 : (t == t) = true := by simp
  repeat (go_big_quiet_step (first
    | (go_at_call 11; with_reducible exact In.more KeptT.up (sameX _))
    | (go_at_call 11; with_reducible exact In.more KeptT.up (sameY _))
    | (go_at_call 12; with_reducible exact In.more KeptT.up (codeE _))
    | (go_at_call 12; with_reducible exact In.more KeptT.up (codeF _))
    | (go_at_call 13; with_reducible exact In.more KeptT.up (rightH _))
    | (go_at_call 14; with_reducible exact In.more KeptT.up (rightR _))))
  refine wpQuiet_nil ?_
  intro nq
  have HB9 := Lib.hid nq.ok.1
  clear h0 h1 h2 h3 g0 g1 g2 g3 e0 e1 e2 e3 sameX sameY codeE codeF rightH rightR he hgd HK
  go_wp2_with fail
  go_ret
  exact ⟨rfl, HB9.out⟩
end Go.Proofs.YtnkkifnglkajfaaDoor
