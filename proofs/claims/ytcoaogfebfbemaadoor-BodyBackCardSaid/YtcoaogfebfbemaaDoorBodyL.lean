/-
  platelayerlaw05.BodyBack answers true: of a block whose first number is 0; of whatever bytes.
-/
import Derived.Test.YtcoaogfebfbemaaDoorBodyK
import Derived.Test.YtcoaogfebfbemaaDoorBodyI
namespace Go.Proofs.YtcoaogfebfbemaaDoor
open Go.RowKit

set_option maxHeartbeats 4000000 in
set_option maxRecDepth 100000 in
theorem bback_none {w : World} (hg : Gl w) (A : Option Addr) (cp : Nat) (a b c d n n1 n2 n3 : Int) (hr : Rd w w.heap.size A (flat [0, n1, n2, n3])) (hto : Tos A cp w 0 n1 n2 n3) (htr : Trs A cp w 0 (.iface 31 (.int .i64 2)))  (hq : Words [0, n1, n2, n3]) (hw : Words [a, b, c, d]) (hn : Word n) :
    Calls Tryd.prog 4 #[pV a b c d, .int .u32 n, .slice A 16 cp] w (TrueB w) := by
  have HR := Lib.hid hr
  have HTO := Lib.hid hto
  have HTR := Lib.hid htr
  have HQ := Lib.hid hq
  clear hr hto htr hq
  have HB1 := Lib.hid ((Below.refl w.heap.size w).alloc (Nat.le_refl _) (.cells #[.int .u32 a, .int .u32 b, .int .u32 c, .int .u32 d] 24))
  have HL1 := Lib.hid (blk_new w a b c d 24)
  have HG := Lib.hid hg
  have HW := Lib.hid hw
  have HN1 := Lib.hid hn
  have hneq := neq_places a b c d a b c d
  rw [show same4 a b c d a b c d = true by simp [same4], Bool.not_true] at hneq
  have hgd := guard_places .neq
  clear hg hw hn
  go_enter Tryd.func4, Tryd.ntmps4
  go_wp2_with fail
  refine (bawake_true (HG.out.below HB1.out)).mono ?_
  rintro r w1 ⟨rfl, hb⟩
  have HB2 := Lib.hid (HB1.out.trans (hb.mono HB1.out.size))
  have HL2 := Lib.hid (HL1.out.up hb (lt_of_block HL1.out))
  clear hb HB1 HL1
  have l0 := HL2.out.cell 0 (by simp)
  have l1 := HL2.out.cell 1 (by simp)
  have l2 := HL2.out.cell 2 (by simp)
  have l3 := HL2.out.cell 3 (by simp)
  go_wp2_with fail
  refine (of_is a b c d _ HW.out).mono ?_
  rintro r w2 ⟨g2, c2, rfl, hr2, hc2, hb⟩
  have HB3 := Lib.hid (HB2.out.trans (hb.mono HB2.out.size))
  have HL3 := Lib.hid (HL2.out.up hb (lt_of_block HL2.out))
  have HR3 := Lib.hid hr2
  clear hb hr2 HB2 HL2 l0 l1 l2 l3
  go_wp2_with fail
  refine (to_back (HW.out a (by simp)) (HW.out b (by simp)) (HW.out c (by simp)) (HW.out d (by simp)) HR3.out rfl hc2).mono ?_
  rintro r w3 ⟨rfl, hb⟩
  have hb2 : Below w2.heap.size w2 (w3.alloc (.cells #[.int .u32 a, .int .u32 b, .int .u32 c, .int .u32 d] 24)) := hb.alloc hb.size _
  have HB4 := Lib.hid (HB3.out.trans (hb2.mono HB3.out.size))
  have HL4 := Lib.hid (HL3.out.up hb2 (lt_of_block HL3.out))
  clear hb hb2 HB3 HL3 HR3
  have l0 := HL4.out.cell 0 (by simp)
  have l1 := HL4.out.cell 1 (by simp)
  have l2 := HL4.out.cell 2 (by simp)
  have l3 := HL4.out.cell 3 (by simp)
  go_wp2_with fail
  refine (of_is a b c d _ HW.out).mono ?_
  rintro r w5 ⟨g5, c5, rfl, -, hc5, hb⟩
  have HB5 := Lib.hid (HB4.out.trans (hb.mono HB4.out.size))
  clear hb HB4 HL4 l0 l1 l2 l3 hneq hgd
  go_wp2_with fail
  refine (oft_is n _ HN1.out).mono ?_
  rintro r w6 ⟨g6, c6, rfl, hr6, hc6, hb⟩
  have HB6 := Lib.hid (HB5.out.trans (hb.mono HB5.out.size))
  have HR6 := Lib.hid hr6
  clear hb hr6 HB5
  go_wp2_with fail
  by_cases hn0 : n = 0
  · subst hn0
    refine (trim_back HN1.out HR6.out rfl hc6).mono ?_
    rw [if_pos rfl, show errV 2 = Value.iface 31 (.int .i64 2) from if_neg (by omega)]
    rintro r w7 ⟨rfl, hb⟩
    have HB7 := Lib.hid (HB6.out.trans (hb.mono HB6.out.size))
    clear hb HB6 HR6
    go_wp2_with fail
    refine (HTO.out _ HB7.out).mono ?_
    rintro r w8 ⟨rfl, hb⟩
    have HB8 := Lib.hid ((HB7.out.trans (hb.mono HB7.out.size)).alloc (Nat.le_trans HB7.out.size hb.size) (.cells #[.int .u32 0, .int .u32 n1, .int .u32 n2, .int .u32 n3] 24))
    have HP8 := Lib.hid (blk_new w8 0 n1 n2 n3 24)
    clear hb HB7
    go_wp2_with fail
    obtain ⟨B, hB⟩ : ∃ B, w8.heap.size = B := ⟨_, rfl⟩
    rw [hB] at HP8 ⊢
    clear hB
    obtain ⟨w9, hw9⟩ : ∃ w9 : World, w9 = w8.alloc (.cells #[.int .u32 0, .int .u32 n1, .int .u32 n2, .int .u32 n3] 24) := ⟨_, rfl⟩
    rw [← hw9] at HB8 HP8 ⊢
    clear hw9
    refine (HTR.out _ HB8.out).mono ?_
    rintro r w10 ⟨rfl, hb⟩
    have HK10 : Hid (KeptQ w B 0 n1 n2 n3 w10) := Lib.hid (KeptQ.up ⟨HB8.out, HP8.out⟩ hb)
    clear hb HB8 HP8 HTO HTR
    have HK0 := Lib.hid (HK10.out.up (Below.refl w10.heap.size w10).drew)
    have C10 := Lib.hid HK10.out.cells
    have C0 := Lib.hid HK0.out.cells
    have p0 := HK10.out.cells.1
    have p1 := HK10.out.cells.2.1
    have p2 := HK10.out.cells.2.2.1
    have p3 := HK10.out.cells.2.2.2
    clear C10 C0
    go_wp2_with fail
    refine wp_region_any (by kernel_rfl) ?_
    try (change wpAny _ _ _ _ _ _ _ (World.drew _))
    refine wpAny_take (i := 2) (v := .slice A 16 cp) rfl (by kernel_rfl) (by kernel_rfl) (by kernel_rfl) (fun _ _ _ h => h) (Or.inl ⟨by rfl, fun w => ?_⟩) ?_
    · go_simp
    refine wpAny_ready (rs := [0]) (by kernel_rfl) (by simp) ?_
    refine AllReady.cons rfl (fun K hK => ?_) AllReady.nil
    go_simp
    refine hK _ _ ?_
    clear hK K
    refine wpAny_ready (rs := [1]) (by kernel_rfl) (by simp) ?_
    refine AllReady.cons rfl (fun K hK => ?_) AllReady.nil
    go_simp
    go_wp2_with (first
      | (go_at_call 11; refine (of_is 0 n1 n2 n3 _ HQ.out).mono ?_; rintro r w11 ⟨g11, c11, rfl, hr11, hc11, hb⟩; have HK11 := Lib.hid (HK0.out.up hb); have HR11 := Lib.hid hr11; have HX11 := Lib.hid (rd_up HR.out HK11.out.below); clear hb hr11))
    refine wpAny_ready (rs := [3]) (by kernel_rfl) (by simp) ?_
    refine AllReady.cons rfl (fun K hK => ?_) AllReady.nil
    go_simp
    go_wp2_with (first
      | (go_at_call 10; refine (same16 HR11.out HX11.out).mono ?_; rintro r w12 ⟨rfl, hb⟩; have HK12 := Lib.hid (HK11.out.up hb); clear hb))
    clear p0 p1 p2 p3
    refine wpAny_rest (KeptQ w B 0 n1 n2 n3) 4 HK12.out (by kernel_rfl) (by rfl) (by kernel_rfl) (fun ne => ?_)
    have q0 := fun z : In (KeptQ w B 0 n1 n2 n3) => z.ok.cells.1
    have q1 := fun z : In (KeptQ w B 0 n1 n2 n3) => z.ok.cells.2.1
    have q2 := fun z : In (KeptQ w B 0 n1 n2 n3) => z.ok.cells.2.2.1
    have q3 := fun z : In (KeptQ w B 0 n1 n2 n3) => z.ok.cells.2.2.2
    simp only [List.drop_succ_cons, List.drop_zero]
    repeat (go_big_quiet_step (fail))
    refine wpQuiet_nil ?_
    intro nq
    have HB14 := Lib.hid nq.ok.below
    clear q0 q1 q2 q3
    go_wp2_with fail
    go_ret
    exact ⟨rfl, HB14.out⟩
  · have q1 : (n == 0) = false := by simpa using hn0
    have q2 : 0 < n := by have := HN1.out.1; omega
    refine (trim_back HN1.out HR6.out rfl hc6).mono ?_
    rw [if_neg hn0, show errV 0 = Value.nilIface from if_pos rfl]
    clear hn0
    rintro r w7 ⟨rfl, hb⟩
    have HB7 := Lib.hid (HB6.out.trans (hb.mono HB6.out.size))
    clear hb HB6 HR6
    go_wp2_with fail
    refine (HTO.out _ HB7.out).mono ?_
    rintro r w8 ⟨rfl, hb⟩
    have HB8 := Lib.hid ((HB7.out.trans (hb.mono HB7.out.size)).alloc (Nat.le_trans HB7.out.size hb.size) (.cells #[.int .u32 0, .int .u32 n1, .int .u32 n2, .int .u32 n3] 24))
    have HP8 := Lib.hid (blk_new w8 0 n1 n2 n3 24)
    clear hb HB7
    go_wp2_with fail
    obtain ⟨B, hB⟩ : ∃ B, w8.heap.size = B := ⟨_, rfl⟩
    rw [hB] at HP8 ⊢
    clear hB
    obtain ⟨w9, hw9⟩ : ∃ w9 : World, w9 = w8.alloc (.cells #[.int .u32 0, .int .u32 n1, .int .u32 n2, .int .u32 n3] 24) := ⟨_, rfl⟩
    rw [← hw9] at HB8 HP8 ⊢
    clear hw9
    refine (HTR.out _ HB8.out).mono ?_
    rintro r w10 ⟨rfl, hb⟩
    have HK10 : Hid (KeptQ w B 0 n1 n2 n3 w10) := Lib.hid (KeptQ.up ⟨HB8.out, HP8.out⟩ hb)
    clear hb HB8 HP8 HTO HTR
    have HK0 := Lib.hid (HK10.out.up (Below.refl w10.heap.size w10).drew)
    have C10 := Lib.hid HK10.out.cells
    have C0 := Lib.hid HK0.out.cells
    have p0 := HK10.out.cells.1
    have p1 := HK10.out.cells.2.1
    have p2 := HK10.out.cells.2.2.1
    have p3 := HK10.out.cells.2.2.2
    clear C10 C0
    go_wp2_with fail
    refine wp_region_any (by kernel_rfl) ?_
    try (change wpAny _ _ _ _ _ _ _ (World.drew _))
    refine wpAny_take (i := 2) (v := .slice A 16 cp) rfl (by kernel_rfl) (by kernel_rfl) (by kernel_rfl) (fun _ _ _ h => h) (Or.inl ⟨by rfl, fun w => ?_⟩) ?_
    · go_simp
    refine wpAny_ready (rs := [0]) (by kernel_rfl) (by simp) ?_
    refine AllReady.cons rfl (fun K hK => ?_) AllReady.nil
    go_simp
    refine hK _ _ ?_
    clear hK K
    refine wpAny_ready (rs := [1]) (by kernel_rfl) (by simp) ?_
    refine AllReady.cons rfl (fun K hK => ?_) AllReady.nil
    go_simp
    go_wp2_with (first
      | (go_at_call 11; refine (of_is 0 n1 n2 n3 _ HQ.out).mono ?_; rintro r w11 ⟨g11, c11, rfl, hr11, hc11, hb⟩; have HK11 := Lib.hid (HK0.out.up hb); have HR11 := Lib.hid hr11; have HX11 := Lib.hid (rd_up HR.out HK11.out.below); clear hb hr11))
    refine wpAny_ready (rs := [3]) (by kernel_rfl) (by simp) ?_
    refine AllReady.cons rfl (fun K hK => ?_) AllReady.nil
    go_simp
    go_wp2_with (first
      | (go_at_call 10; refine (same16 HR11.out HX11.out).mono ?_; rintro r w12 ⟨rfl, hb⟩; have HK12 := Lib.hid (HK11.out.up hb); clear hb))
    clear p0 p1 p2 p3
    refine wpAny_rest (KeptQ w B 0 n1 n2 n3) 4 HK12.out (by kernel_rfl) (by rfl) (by kernel_rfl) (fun ne => ?_)
    have q0 := fun z : In (KeptQ w B 0 n1 n2 n3) => z.ok.cells.1
    have q1 := fun z : In (KeptQ w B 0 n1 n2 n3) => z.ok.cells.2.1
    have q2 := fun z : In (KeptQ w B 0 n1 n2 n3) => z.ok.cells.2.2.1
    have q3 := fun z : In (KeptQ w B 0 n1 n2 n3) => z.ok.cells.2.2.2
    simp only [List.drop_succ_cons, List.drop_zero]
    repeat (go_big_quiet_step (fail))
    refine wpQuiet_nil ?_
    intro nq
    have HB14 := Lib.hid nq.ok.below
    clear q0 q1 q2 q3
    go_wp2_with fail
    go_ret
    exact ⟨rfl, HB14.out⟩

/-! ### of whatever bytes -/
theorem same4_no {b c d n : Int} (h : ¬ (b = 0 ∧ c = 0 ∧ d = 0)) : same4 n b c d n 0 0 0 = false := by
  unfold same4
  by_cases h1 : b = 0 <;> by_cases h2 : c = 0 <;> by_cases h3 : d = 0 <;> simp_all
theorem bback_true {w : World} (hg : Gl w) (A : Option Addr) (xs : List Int) (m cp : Nat) (a b c d n : Int) (hr : Rd w w.heap.size A xs) (hx : Byt xs) (hl : xs.length = m) (hc : m ≤ cp) (hm : m ≤ 1000) (hw : Words [a, b, c, d]) (hn : Word n) :
    Calls Tryd.prog 4 #[pV a b c d, .int .u32 n, .slice A m cp] w (TrueB w) := by
  by_cases h16 : m = 16
  · subst h16
    have hfl := flat_back hl hx
    have h0 := toN_word hx 0
    have h1 := toN_word hx 1
    have h2 := toN_word hx 2
    have h3 := toN_word hx 3
    have hto : Tos A cp w (toN xs 0) (toN xs 1) (toN xs 2) (toN xs 3) := fun u hu => by
      have := to_all (rd_up hr hu) hx hl hc
      unfold ToIs toV at this
      rwa [toE_yes hl, show errV 0 = Value.nilIface from if_pos rfl] at this
    have htr : Trs A cp w (trN 0 (toN xs 0) (toN xs 1) (toN xs 2) (toN xs 3)) (errV (trE 0 (toN xs 0) (toN xs 1) (toN xs 2) (toN xs 3))) := fun u hu => by
      have := trim_all (rd_up hr hu) hx hl hc
      unfold TrimIs at this
      rwa [trimN_is, trimE_is, toE_yes hl] at this
    generalize toN xs 0 = n0 at *
    generalize toN xs 1 = n1 at *
    generalize toN xs 2 = n2 at *
    generalize toN xs 3 = n3 at *
    subst hfl
    have hq : Words [n0, n1, n2, n3] := Words.four h0 h1 h2 h3
    by_cases z0 : n0 = 0
    · subst z0
      have e1 : trE 0 0 n1 n2 n3 = 2 := by simp [trE]
      have e2 : trN 0 0 n1 n2 n3 = 0 := by unfold trN; rw [e1]; rfl
      rw [e1, e2, show errV 2 = Value.iface 31 (.int .i64 2) from if_neg (by omega)] at htr
      exact bback_none hg A cp a b c d n n1 n2 n3 hr hto htr hq hw hn
    · have z0' : (n0 != 0) = true := by simpa using z0
      by_cases z : n1 = 0 ∧ n2 = 0 ∧ n3 = 0
      · obtain ⟨rfl, rfl, rfl⟩ := z
        have e1 : trE 0 n0 0 0 0 = 0 := by simp [trE, z0]
        have e2 : trN 0 n0 0 0 0 = n0 := by unfold trN; rw [e1]; rfl
        rw [e1, e2, show errV 0 = Value.nilIface from if_pos rfl] at htr
        exact bback_trim hg A cp a b c d n n0 hr hto htr z0' hq hw hn
      · have hs := same4_no (n := n0) z
        have e1 : trE 0 n0 n1 n2 n3 = 2 := by rw [trE_form z0, hs]; rfl
        have e2 : trN 0 n0 n1 n2 n3 = 0 := by unfold trN; rw [e1]; rfl
        rw [e1, e2, show errV 2 = Value.iface 31 (.int .i64 2) from if_neg (by omega)] at htr
        exact bback_other hg A cp a b c d n n0 n1 n2 n3 hr hto htr z0' hs hq hw hn
  · exact bback_short hg A m cp a b c d n h16 hm hw hn
end Go.Proofs.YtcoaogfebfbemaaDoor
