/-
  platelayerlaw04.HeadBack answers true.
-/
import Derived.Test.YtnkkifnglkajfaaDoorHeadM
namespace Go.Proofs.YtnkkifnglkajfaaDoor
open Go.RowKit

theorem page_read {k s i q : Int} {blk : List Int} (hk : rightK k = true) (hl : blk.length = 16) : readE (pageB k s i q blk) = 0 := by
  unfold readE
  rw [if_neg (by rw [pageB_len, hl]; decide), if_neg (by rw [page_bk13, page_tot]; simp), if_neg (by rw [page_kind, hk]; decide)]
/-- A page that was laid comes back. -/
theorem back_page {k s i q : Int} {blk : List Int} {g : Nat} {w : World} (h : Blk8 w g (pageB k s i q blk)) (hb : Byt blk) (hk : rightK k = true) (hl : blk.length = 16) (s0 : 0 ≤ s ∧ s ≤ 4294967295) (i0 : 0 ≤ i ∧ i ≤ 4294967295) (q0 : 0 ≤ q ∧ q ≤ 4294967295) :
    Calls Tryd.prog 9 #[.slice (some ⟨g, 0, none⟩) 33 33] w fun r w' => ∃ A c, r = .returned (.tuple #[hV k s i q, .slice A 16 c, .nilIface]) ∧ Rd w' w'.heap.size A blk ∧ Below w.heap.size w w' := by
  have hp := right_pos hk
  have e := page_read (s := s) (i := i) (q := q) hk hl
  refine (hread_all (show Rd w w.heap.size (some ⟨g, 0, none⟩) (pageB k s i q blk) from h.rd 0) (byt_page s i q (by omega) (by omega) hb) (by rw [pageB_len, hl]) (Nat.le_refl _)).mono ?_
  rintro r w' ⟨A, m, c, rfl, hm, _, hr, hw⟩
  unfold readX at hm hr
  rw [if_pos e, page_drop] at hm hr
  rw [hl] at hm
  subst hm
  unfold readK readN
  rw [if_pos e, if_pos e, if_pos e, if_pos e, e, page_kind, page_bk1 s0.1 s0.2, page_bk5 i0.1 i0.2, page_bk9 q0.1 q0.2]
  exact ⟨A, c, rfl, hr, hw⟩
theorem read_bad {A : Option Addr} {ps : List Int} {n c : Nat} {w : World} (hr : Rd w w.heap.size A ps) (hx : Byt ps) (hl : ps.length = n) (hc : n ≤ c) (he : readE ps ≠ 0) : Calls Tryd.prog 9 #[.slice A n c] w fun r w' => ∃ F A c, r = .returned (.tuple #[hV 0 0 0 0, .slice A 0 c, .iface 31 (.int .i64 F)]) ∧ Below w.heap.size w w' := by
  refine (hread_all hr hx hl hc).mono ?_
  rintro r w' ⟨A, m, c, rfl, hm, _, _, hw⟩
  unfold readX at hm
  rw [if_neg he] at hm
  have hm' : m = 0 := hm.symm
  subst hm'
  unfold readK readN errV
  rw [if_neg he, if_neg he, if_neg he, if_neg he, if_neg he]
  exact ⟨_, A, c, rfl, hw⟩
theorem read_facts {ps : List Int} (he : readE ps = 0) : ps.length = 33 ∧ bk ps 13 = tot ps ∧ rightK (ps.getD 0 0) = true := by
  unfold readE at he
  by_cases h1 : ps.length = 33
  · rw [if_neg (by omega)] at he
    by_cases h2 : bk ps 13 = tot ps
    · rw [if_neg (by simpa using h2)] at he
      refine ⟨h1, h2, ?_⟩
      by_cases h3 : rightK (ps.getD 0 0) = true
      · exact h3
      · rw [if_pos (by simpa using h3)] at he
        omega
    · rw [if_pos h2] at he
      omega
  · rw [if_pos h1] at he
    omega
theorem bk_bd {ps : List Int} (hx : Byt ps) (o : Nat) (ho : o + 4 ≤ ps.length) : 0 ≤ bk ps o ∧ bk ps o ≤ 4294967295 := by
  have g : ∀ j (h : j < ps.length), 0 ≤ ps.getD j 0 ∧ ps.getD j 0 ≤ 255 := fun j h => by
    have := hx.get j h
    simpa [List.getD_eq_getElem?_getD, h] using this
  obtain ⟨a0, a1⟩ := g o (by omega)
  obtain ⟨b0, b1⟩ := g (o + 1) (by omega)
  obtain ⟨c0, c1⟩ := g (o + 2) (by omega)
  obtain ⟨d0, d1⟩ := g (o + 3) (by omega)
  exact back4_bd a0 a1 b0 b1 c0 c1 d0 d1
/-- What was read makes the same page. -/
theorem bytes_back {A : Option Addr} {ps : List Int} {m c : Nat} {w : World} (hx : Byt ps) (he : readE ps = 0) (hm : (readX ps).length = m) (hc : m ≤ c) (hr : Rd w w.heap.size A (readX ps)) :
    Calls Tryd.prog 7 #[hV (readK ps) (readN ps 1) (readN ps 5) (readN ps 9), .slice A m c] w fun r w' => ∃ A c, r = .returned (.tuple #[.slice A 33 c, .nilIface]) ∧ Rd w' w'.heap.size A ps ∧ Below w.heap.size w w' := by
  obtain ⟨f1, f2, f3⟩ := read_facts he
  have hp := page_back f1 hx f2
  unfold readX at hm hr
  unfold readK readN
  rw [if_pos he] at hm hr
  rw [if_pos he, if_pos he, if_pos he, if_pos he]
  have hm16 : m = 16 := by rw [← hm]; simp [f1]
  subst hm16
  refine (bytes_ok _ _ _ _ A (ps.drop 17) c w hr (fun x h => hx x (List.mem_of_mem_drop h)) hm hc f3 (bk_bd hx 1 (by omega)) (bk_bd hx 5 (by omega)) (bk_bd hx 9 (by omega))).mono ?_
  rintro r w' ⟨g, rfl, hB, _, hw⟩
  rw [hp] at hB
  exact ⟨_, _, rfl, hB.rd 0, hw⟩
theorem zero_eql (w : World) : (binOp .eql 24 (hV 0 0 0 0) (hV 0 0 0 0)).run Tryd.prog w = .ok (.bool true) w := eql_head 0 0 0 0 0 0 0 0 w
theorem same_neq (a b c d : Int) (w : World) : (binOp .neq 24 (hV a b c d) (hV a b c d)).run Tryd.prog w = .ok (.bool false) w := by
  have := neq_head a b c d a b c d w
  simpa using this

theorem hback_long {w : World} (hg : Gl w) (A A2 : Option Addr) (n m c c2 : Nat) (k s i q : Int) (h : 1000 < n ∨ 1000 < m) : Calls Tryd.prog 4 #[hV k s i q, .slice A n c, .slice A2 m c2] w (TrueB w) := by
  have HB1 := Lib.hid ((Below.refl w.heap.size w).alloc (Nat.le_refl _) (.cells #[.int .u8 k, .int .u32 s, .int .u32 i, .int .u32 q] 24))
  have HG := Lib.hid (hg.below HB1.out)
  clear hg
  by_cases h1 : 1000 < n
  · clear h
    go_enter Tryd.func4, Tryd.ntmps4
    go_wp2_with fail
    refine (hawake_true HG.out).mono ?_
    rintro r w1 ⟨rfl, hb⟩
    have HB := Lib.hid (HB1.out.trans (hb.mono HB1.out.size))
    clear hb
    go_wp2_with fail
    go_ret
    exact ⟨rfl, HB.out⟩
  · have h2 : 1000 < m := by omega
    clear h
    go_enter Tryd.func4, Tryd.ntmps4
    go_wp2_with fail
    refine (hawake_true HG.out).mono ?_
    rintro r w1 ⟨rfl, hb⟩
    have HB := Lib.hid (HB1.out.trans (hb.mono HB1.out.size))
    clear hb
    go_wp2_with fail
    go_ret
    exact ⟨rfl, HB.out⟩

set_option maxHeartbeats 2000000 in
set_option maxRecDepth 100000 in
theorem hback_ok_ok {w : World} (hg : Gl w) (A A2 : Option Addr) (blk ps : List Int) (n m c c2 : Nat) (k s i q : Int) (hr : Rd w w.heap.size A blk) (hr2 : Rd w w.heap.size A2 ps) (hx : Byt blk) (hx2 : Byt ps) (hl : blk.length = n) (hl2 : ps.length = m) (hc : n ≤ c) (hc2 : m ≤ c2)
    (hn : n ≤ 1000) (hm : m ≤ 1000) (s0 : 0 ≤ s ∧ s ≤ 4294967295) (i0 : 0 ≤ i ∧ i ≤ 4294967295) (q0 : 0 ≤ q ∧ q ≤ 4294967295) (hk : rightK k = true) (hn16 : n = 16) (he : readE ps = 0) : Calls Tryd.prog 4 #[hV k s i q, .slice A n c, .slice A2 m c2] w (TrueB w) := by
  have hm33 : m = 33 := hl2.symm.trans (read_facts he).1
  subst hm33
  have HB1 := Lib.hid ((Below.refl w.heap.size w).alloc (Nat.le_refl _) (.cells #[.int .u8 k, .int .u32 s, .int .u32 i, .int .u32 q] 24))
  have HH1 : Hid (Blk (w.alloc (.cells #[.int .u8 k, .int .u32 s, .int .u32 i, .int .u32 q] 24)) w.heap.size 24 [.int .u8 k, .int .u32 s, .int .u32 i, .int .u32 q]) := Lib.hid (heap_alloc_new w _)
  have HG := Lib.hid hg
  have HR := Lib.hid hr
  have HR2 := Lib.hid hr2
  have HX := Lib.hid hx
  have HX2 := Lib.hid hx2
  have HL := Lib.hid hl
  have HL2 := Lib.hid hl2
  clear hg hr hr2 hx hx2 hl hl2
  subst hn16
  go_enter Tryd.func4, Tryd.ntmps4
  go_wp2_with fail
  refine (hawake_true (HG.out.below HB1.out)).mono ?_
  rintro r w1 ⟨rfl, hb⟩
  have HB2 := Lib.hid (HB1.out.trans (hb.mono HB1.out.size))
  have HH2 := Lib.hid (HH1.out.up hb (lt_of_block HH1.out))
  clear hb HB1 HH1
  have h0 := HH2.out.cell 0 (by simp)
  have h1 := HH2.out.cell 1 (by simp)
  have h2 := HH2.out.cell 2 (by simp)
  have h3 := HH2.out.cell 3 (by simp)
  go_wp2_with fail
  refine (bytes_ok k s i q A blk c _ ((HR.out.below HB2.out).mono HB2.out.size) HX.out HL.out hc hk s0 i0 q0).mono ?_
  rintro r w2 ⟨g, rfl, hB, _, hb⟩
  have HB3 := Lib.hid (HB2.out.trans (hb.mono HB2.out.size))
  have HH3 := Lib.hid (HH2.out.up hb (lt_of_block HH2.out))
  have HP3 := Lib.hid hB
  clear hb hB HB2 HH2 h0 h1 h2 h3
  go_wp2_with fail
  refine (back_page HP3.out HX.out hk HL.out s0 i0 q0).mono ?_
  rintro r w3 ⟨A3, c3, rfl, hr3, hb⟩
  have hbel : Below w2.heap.size w2 (w3.alloc (.cells #[.int .u8 k, .int .u32 s, .int .u32 i, .int .u32 q] 24)) := hb.alloc hb.size _
  have HB4 := Lib.hid (HB3.out.trans (hbel.mono HB3.out.size))
  have HH4 := Lib.hid (HH3.out.up hbel (lt_of_block HH3.out))
  have HV4 : Hid (Blk (w3.alloc (.cells #[.int .u8 k, .int .u32 s, .int .u32 i, .int .u32 q] 24)) w3.heap.size 24 [.int .u8 k, .int .u32 s, .int .u32 i, .int .u32 q]) := Lib.hid (heap_alloc_new w3 _)
  have HR4 : Hid (Rd (w3.alloc (.cells #[.int .u8 k, .int .u32 s, .int .u32 i, .int .u32 q] 24)) (w3.alloc (.cells #[.int .u8 k, .int .u32 s, .int .u32 i, .int .u32 q] 24)).heap.size A3 blk) := Lib.hid ((hr3.below (Below.alloc (Below.refl w3.heap.size w3) (Nat.le_refl _) _)).mono (by simp))
  have h0 := HH4.out.cell 0 (by simp)
  have h1 := HH4.out.cell 1 (by simp)
  have h2 := HH4.out.cell 2 (by simp)
  have h3 := HH4.out.cell 3 (by simp)
  have hne := same_neq k s i q
  have hgd := guard_head .neq (.inr rfl)
  clear hb hr3 hbel HB3 HH3 HP3
  go_wp2_with fail
  refine (same_self HR4.out ((HR.out.below HB4.out).mono HB4.out.size) HL.out HL.out (by rw [HL.out]; omega)).mono ?_
  rintro r w4 ⟨rfl, hb⟩
  have HB5 := Lib.hid (HB4.out.trans (hb.mono HB4.out.size))
  clear hb HB4 HH4 HV4 HR4 h0 h1 h2 h3 hne hgd
  go_wp2_with fail
  refine (hread_all ((HR2.out.below HB5.out).mono HB5.out.size) HX2.out HL2.out hc2).mono ?_
  rintro r w5 ⟨A6, m6, c6, rfl, hl6, hc6, hr6, hb⟩
  have hbk : ∀ u, Rd u u.heap.size A6 (readX ps) → Calls Tryd.prog 7 #[hV (readK ps) (readN ps 1) (readN ps 5) (readN ps 9), .slice A6 m6 c6] u fun r w' => ∃ A c, r = .returned (.tuple #[.slice A 33 c, .nilIface]) ∧ Rd w' w'.heap.size A ps ∧ Below u.heap.size u w' := fun u hu => bytes_back HX2.out he hl6 hc6 hu
  generalize readX ps = Y at *
  generalize readK ps = a0 at *
  generalize readN ps 1 = a1 at *
  generalize readN ps 5 = a2 at *
  generalize readN ps 9 = a3 at *
  rw [show errV (readE ps) = .nilIface by rw [he]; rfl]
  have HB6 := Lib.hid ((HB5.out.trans (hb.mono HB5.out.size)).alloc (Nat.le_trans HB5.out.size hb.size) (.cells #[.int .u8 a0, .int .u32 a1, .int .u32 a2, .int .u32 a3] 24))
  have HR6 : Hid (Rd (w5.alloc (.cells #[.int .u8 a0, .int .u32 a1, .int .u32 a2, .int .u32 a3] 24)) (w5.alloc (.cells #[.int .u8 a0, .int .u32 a1, .int .u32 a2, .int .u32 a3] 24)).heap.size A6 Y) := Lib.hid ((hr6.below (Below.alloc (Below.refl w5.heap.size w5) (Nat.le_refl _) _)).mono (by simp))
  clear hb hr6 HB5
  go_wp2_with fail
  refine (hbk _ HR6.out).mono ?_
  rintro r w7 ⟨A8, c8, rfl, hr8, hb⟩
  have HB7 := Lib.hid (HB6.out.trans (hb.mono HB6.out.size))
  have HR8 := Lib.hid hr8
  clear hb hr8 HB6 HR6 hbk
  go_wp2_with fail
  refine (same_self HR8.out ((HR2.out.below HB7.out).mono HB7.out.size) HL2.out HL2.out (by rw [HL2.out]; omega)).mono ?_
  rintro r w8 ⟨rfl, hb⟩
  have HB8 := Lib.hid (HB7.out.trans (hb.mono HB7.out.size))
  clear hb HB7
  go_wp2_with fail
  go_ret
  exact ⟨rfl, HB8.out⟩
set_option maxHeartbeats 2000000 in
set_option maxRecDepth 100000 in
theorem hback_ok_bad {w : World} (hg : Gl w) (A A2 : Option Addr) (blk ps : List Int) (n m c c2 : Nat) (k s i q : Int) (hr : Rd w w.heap.size A blk) (hr2 : Rd w w.heap.size A2 ps) (hx : Byt blk) (hx2 : Byt ps) (hl : blk.length = n) (hl2 : ps.length = m) (hc : n ≤ c) (hc2 : m ≤ c2)
    (hn : n ≤ 1000) (hm : m ≤ 1000) (s0 : 0 ≤ s ∧ s ≤ 4294967295) (i0 : 0 ≤ i ∧ i ≤ 4294967295) (q0 : 0 ≤ q ∧ q ≤ 4294967295) (hk : rightK k = true) (hn16 : n = 16) (he : readE ps ≠ 0) : Calls Tryd.prog 4 #[hV k s i q, .slice A n c, .slice A2 m c2] w (TrueB w) := by
  have HB1 := Lib.hid ((Below.refl w.heap.size w).alloc (Nat.le_refl _) (.cells #[.int .u8 k, .int .u32 s, .int .u32 i, .int .u32 q] 24))
  have HH1 : Hid (Blk (w.alloc (.cells #[.int .u8 k, .int .u32 s, .int .u32 i, .int .u32 q] 24)) w.heap.size 24 [.int .u8 k, .int .u32 s, .int .u32 i, .int .u32 q]) := Lib.hid (heap_alloc_new w _)
  have HG := Lib.hid hg
  have HR := Lib.hid hr
  have HR2 := Lib.hid hr2
  have HX := Lib.hid hx
  have HX2 := Lib.hid hx2
  have HL := Lib.hid hl
  have HL2 := Lib.hid hl2
  clear hg hr hr2 hx hx2 hl hl2
  subst hn16
  go_enter Tryd.func4, Tryd.ntmps4
  go_wp2_with fail
  refine (hawake_true (HG.out.below HB1.out)).mono ?_
  rintro r w1 ⟨rfl, hb⟩
  have HB2 := Lib.hid (HB1.out.trans (hb.mono HB1.out.size))
  have HH2 := Lib.hid (HH1.out.up hb (lt_of_block HH1.out))
  clear hb HB1 HH1
  have h0 := HH2.out.cell 0 (by simp)
  have h1 := HH2.out.cell 1 (by simp)
  have h2 := HH2.out.cell 2 (by simp)
  have h3 := HH2.out.cell 3 (by simp)
  go_wp2_with fail
  refine (bytes_ok k s i q A blk c _ ((HR.out.below HB2.out).mono HB2.out.size) HX.out HL.out hc hk s0 i0 q0).mono ?_
  rintro r w2 ⟨g, rfl, hB, _, hb⟩
  have HB3 := Lib.hid (HB2.out.trans (hb.mono HB2.out.size))
  have HH3 := Lib.hid (HH2.out.up hb (lt_of_block HH2.out))
  have HP3 := Lib.hid hB
  clear hb hB HB2 HH2 h0 h1 h2 h3
  go_wp2_with fail
  refine (back_page HP3.out HX.out hk HL.out s0 i0 q0).mono ?_
  rintro r w3 ⟨A3, c3, rfl, hr3, hb⟩
  have hbel : Below w2.heap.size w2 (w3.alloc (.cells #[.int .u8 k, .int .u32 s, .int .u32 i, .int .u32 q] 24)) := hb.alloc hb.size _
  have HB4 := Lib.hid (HB3.out.trans (hbel.mono HB3.out.size))
  have HH4 := Lib.hid (HH3.out.up hbel (lt_of_block HH3.out))
  have HV4 : Hid (Blk (w3.alloc (.cells #[.int .u8 k, .int .u32 s, .int .u32 i, .int .u32 q] 24)) w3.heap.size 24 [.int .u8 k, .int .u32 s, .int .u32 i, .int .u32 q]) := Lib.hid (heap_alloc_new w3 _)
  have HR4 : Hid (Rd (w3.alloc (.cells #[.int .u8 k, .int .u32 s, .int .u32 i, .int .u32 q] 24)) (w3.alloc (.cells #[.int .u8 k, .int .u32 s, .int .u32 i, .int .u32 q] 24)).heap.size A3 blk) := Lib.hid ((hr3.below (Below.alloc (Below.refl w3.heap.size w3) (Nat.le_refl _) _)).mono (by simp))
  have h0 := HH4.out.cell 0 (by simp)
  have h1 := HH4.out.cell 1 (by simp)
  have h2 := HH4.out.cell 2 (by simp)
  have h3 := HH4.out.cell 3 (by simp)
  have hne := same_neq k s i q
  have hgd := guard_head .neq (.inr rfl)
  clear hb hr3 hbel HB3 HH3 HP3
  go_wp2_with fail
  refine (same_self HR4.out ((HR.out.below HB4.out).mono HB4.out.size) HL.out HL.out (by rw [HL.out]; omega)).mono ?_
  rintro r w4 ⟨rfl, hb⟩
  have HB5 := Lib.hid (HB4.out.trans (hb.mono HB4.out.size))
  clear hb HB4 HH4 HV4 HR4 h0 h1 h2 h3 hne hgd
  go_wp2_with fail
  refine (read_bad ((HR2.out.below HB5.out).mono HB5.out.size) HX2.out HL2.out hc2 he).mono ?_
  rintro r w5 ⟨F, A6, c6, rfl, hb⟩
  have HB6 := Lib.hid ((HB5.out.trans (hb.mono HB5.out.size)).alloc (Nat.le_trans HB5.out.size hb.size) (.cells #[.int .u8 0, .int .u32 0, .int .u32 0, .int .u32 0] 24))
  have hze := zero_eql
  have hgd := guard_head .eql (.inl rfl)
  clear hb HB5
  go_wp2_with fail
  go_ret
  exact ⟨rfl, HB6.out⟩
set_option maxHeartbeats 2000000 in
set_option maxRecDepth 100000 in
theorem hback_arg_ok {w : World} (hg : Gl w) (A A2 : Option Addr) (blk ps : List Int) (n m c c2 : Nat) (k s i q : Int) (hr : Rd w w.heap.size A blk) (hr2 : Rd w w.heap.size A2 ps) (hx : Byt blk) (hx2 : Byt ps) (hl : blk.length = n) (hl2 : ps.length = m) (_hc : n ≤ c) (hc2 : m ≤ c2)
    (hn : n ≤ 1000) (hm : m ≤ 1000) (_s0 : 0 ≤ s ∧ s ≤ 4294967295) (_i0 : 0 ≤ i ∧ i ≤ 4294967295) (_q0 : 0 ≤ q ∧ q ≤ 4294967295) (hk : rightK k = false) (he : readE ps = 0) : Calls Tryd.prog 4 #[hV k s i q, .slice A n c, .slice A2 m c2] w (TrueB w) := by
  have hm33 : m = 33 := hl2.symm.trans (read_facts he).1
  subst hm33
  have HB1 := Lib.hid ((Below.refl w.heap.size w).alloc (Nat.le_refl _) (.cells #[.int .u8 k, .int .u32 s, .int .u32 i, .int .u32 q] 24))
  have HH1 : Hid (Blk (w.alloc (.cells #[.int .u8 k, .int .u32 s, .int .u32 i, .int .u32 q] 24)) w.heap.size 24 [.int .u8 k, .int .u32 s, .int .u32 i, .int .u32 q]) := Lib.hid (heap_alloc_new w _)
  have HG := Lib.hid hg
  have HR := Lib.hid hr
  have HR2 := Lib.hid hr2
  have HX := Lib.hid hx
  have HX2 := Lib.hid hx2
  have HL := Lib.hid hl
  have HL2 := Lib.hid hl2
  clear hg hr hr2 hx hx2 hl hl2
  go_enter Tryd.func4, Tryd.ntmps4
  go_wp2_with fail
  refine (hawake_true (HG.out.below HB1.out)).mono ?_
  rintro r w1 ⟨rfl, hb⟩
  have HB2 := Lib.hid (HB1.out.trans (hb.mono HB1.out.size))
  have HH2 := Lib.hid (HH1.out.up hb (lt_of_block HH1.out))
  clear hb HB1 HH1
  have h0 := HH2.out.cell 0 (by simp)
  have h1 := HH2.out.cell 1 (by simp)
  have h2 := HH2.out.cell 2 (by simp)
  have h3 := HH2.out.cell 3 (by simp)
  go_wp2_with fail
  refine (bytes_arg k s i q A n c _ hk).mono ?_
  rintro r w2 ⟨rfl, hb⟩
  have HB3 := Lib.hid (HB2.out.trans (hb.mono HB2.out.size))
  have HH3 := Lib.hid (HH2.out.up hb (lt_of_block HH2.out))
  clear hb HB2 HH2 h0 h1 h2 h3
  have h0 := HH3.out.cell 0 (by simp)
  have h1 := HH3.out.cell 1 (by simp)
  have h2 := HH3.out.cell 2 (by simp)
  have h3 := HH3.out.cell 3 (by simp)
  go_wp2_with fail
  refine (hright_is k s i q _).mono ?_
  rintro r w4 ⟨rfl, hb⟩
  rw [hk]
  have HB5 := Lib.hid (HB3.out.trans (hb.mono HB3.out.size))
  clear hb HB3 HH3 h0 h1 h2 h3
  go_wp2_with fail
  refine (hread_all ((HR2.out.below HB5.out).mono HB5.out.size) HX2.out HL2.out hc2).mono ?_
  rintro r w5 ⟨A6, m6, c6, rfl, hl6, hc6, hr6, hb⟩
  have hbk : ∀ u, Rd u u.heap.size A6 (readX ps) → Calls Tryd.prog 7 #[hV (readK ps) (readN ps 1) (readN ps 5) (readN ps 9), .slice A6 m6 c6] u fun r w' => ∃ A c, r = .returned (.tuple #[.slice A 33 c, .nilIface]) ∧ Rd w' w'.heap.size A ps ∧ Below u.heap.size u w' := fun u hu => bytes_back HX2.out he hl6 hc6 hu
  generalize readX ps = Y at *
  generalize readK ps = a0 at *
  generalize readN ps 1 = a1 at *
  generalize readN ps 5 = a2 at *
  generalize readN ps 9 = a3 at *
  rw [show errV (readE ps) = .nilIface by rw [he]; rfl]
  have HB6 := Lib.hid ((HB5.out.trans (hb.mono HB5.out.size)).alloc (Nat.le_trans HB5.out.size hb.size) (.cells #[.int .u8 a0, .int .u32 a1, .int .u32 a2, .int .u32 a3] 24))
  have HR6 : Hid (Rd (w5.alloc (.cells #[.int .u8 a0, .int .u32 a1, .int .u32 a2, .int .u32 a3] 24)) (w5.alloc (.cells #[.int .u8 a0, .int .u32 a1, .int .u32 a2, .int .u32 a3] 24)).heap.size A6 Y) := Lib.hid ((hr6.below (Below.alloc (Below.refl w5.heap.size w5) (Nat.le_refl _) _)).mono (by simp))
  clear hb hr6 HB5
  go_wp2_with fail
  refine (hbk _ HR6.out).mono ?_
  rintro r w7 ⟨A8, c8, rfl, hr8, hb⟩
  have HB7 := Lib.hid (HB6.out.trans (hb.mono HB6.out.size))
  have HR8 := Lib.hid hr8
  clear hb hr8 HB6 HR6 hbk
  go_wp2_with fail
  refine (same_self HR8.out ((HR2.out.below HB7.out).mono HB7.out.size) HL2.out HL2.out (by rw [HL2.out]; omega)).mono ?_
  rintro r w8 ⟨rfl, hb⟩
  have HB8 := Lib.hid (HB7.out.trans (hb.mono HB7.out.size))
  clear hb HB7
  go_wp2_with fail
  go_ret
  exact ⟨rfl, HB8.out⟩
set_option maxHeartbeats 2000000 in
set_option maxRecDepth 100000 in
theorem hback_arg_bad {w : World} (hg : Gl w) (A A2 : Option Addr) (blk ps : List Int) (n m c c2 : Nat) (k s i q : Int) (hr : Rd w w.heap.size A blk) (hr2 : Rd w w.heap.size A2 ps) (hx : Byt blk) (hx2 : Byt ps) (hl : blk.length = n) (hl2 : ps.length = m) (_hc : n ≤ c) (hc2 : m ≤ c2)
    (hn : n ≤ 1000) (hm : m ≤ 1000) (_s0 : 0 ≤ s ∧ s ≤ 4294967295) (_i0 : 0 ≤ i ∧ i ≤ 4294967295) (_q0 : 0 ≤ q ∧ q ≤ 4294967295) (hk : rightK k = false) (he : readE ps ≠ 0) : Calls Tryd.prog 4 #[hV k s i q, .slice A n c, .slice A2 m c2] w (TrueB w) := by
  have HB1 := Lib.hid ((Below.refl w.heap.size w).alloc (Nat.le_refl _) (.cells #[.int .u8 k, .int .u32 s, .int .u32 i, .int .u32 q] 24))
  have HH1 : Hid (Blk (w.alloc (.cells #[.int .u8 k, .int .u32 s, .int .u32 i, .int .u32 q] 24)) w.heap.size 24 [.int .u8 k, .int .u32 s, .int .u32 i, .int .u32 q]) := Lib.hid (heap_alloc_new w _)
  have HG := Lib.hid hg
  have HR := Lib.hid hr
  have HR2 := Lib.hid hr2
  have HX := Lib.hid hx
  have HX2 := Lib.hid hx2
  have HL := Lib.hid hl
  have HL2 := Lib.hid hl2
  clear hg hr hr2 hx hx2 hl hl2
  go_enter Tryd.func4, Tryd.ntmps4
  go_wp2_with fail
  refine (hawake_true (HG.out.below HB1.out)).mono ?_
  rintro r w1 ⟨rfl, hb⟩
  have HB2 := Lib.hid (HB1.out.trans (hb.mono HB1.out.size))
  have HH2 := Lib.hid (HH1.out.up hb (lt_of_block HH1.out))
  clear hb HB1 HH1
  have h0 := HH2.out.cell 0 (by simp)
  have h1 := HH2.out.cell 1 (by simp)
  have h2 := HH2.out.cell 2 (by simp)
  have h3 := HH2.out.cell 3 (by simp)
  go_wp2_with fail
  refine (bytes_arg k s i q A n c _ hk).mono ?_
  rintro r w2 ⟨rfl, hb⟩
  have HB3 := Lib.hid (HB2.out.trans (hb.mono HB2.out.size))
  have HH3 := Lib.hid (HH2.out.up hb (lt_of_block HH2.out))
  clear hb HB2 HH2 h0 h1 h2 h3
  have h0 := HH3.out.cell 0 (by simp)
  have h1 := HH3.out.cell 1 (by simp)
  have h2 := HH3.out.cell 2 (by simp)
  have h3 := HH3.out.cell 3 (by simp)
  go_wp2_with fail
  refine (hright_is k s i q _).mono ?_
  rintro r w4 ⟨rfl, hb⟩
  rw [hk]
  have HB5 := Lib.hid (HB3.out.trans (hb.mono HB3.out.size))
  clear hb HB3 HH3 h0 h1 h2 h3
  go_wp2_with fail
  refine (read_bad ((HR2.out.below HB5.out).mono HB5.out.size) HX2.out HL2.out hc2 he).mono ?_
  rintro r w5 ⟨F, A6, c6, rfl, hb⟩
  have HB6 := Lib.hid ((HB5.out.trans (hb.mono HB5.out.size)).alloc (Nat.le_trans HB5.out.size hb.size) (.cells #[.int .u8 0, .int .u32 0, .int .u32 0, .int .u32 0] 24))
  have hze := zero_eql
  have hgd := guard_head .eql (.inl rfl)
  clear hb HB5
  go_wp2_with fail
  go_ret
  exact ⟨rfl, HB6.out⟩
set_option maxHeartbeats 2000000 in
set_option maxRecDepth 100000 in
theorem hback_short_ok {w : World} (hg : Gl w) (A A2 : Option Addr) (blk ps : List Int) (n m c c2 : Nat) (k s i q : Int) (hr : Rd w w.heap.size A blk) (hr2 : Rd w w.heap.size A2 ps) (hx : Byt blk) (hx2 : Byt ps) (hl : blk.length = n) (hl2 : ps.length = m) (_hc : n ≤ c) (hc2 : m ≤ c2)
    (hn : n ≤ 1000) (hm : m ≤ 1000) (_s0 : 0 ≤ s ∧ s ≤ 4294967295) (_i0 : 0 ≤ i ∧ i ≤ 4294967295) (_q0 : 0 ≤ q ∧ q ≤ 4294967295) (hk : rightK k = true) (hn16 : n ≠ 16) (he : readE ps = 0) : Calls Tryd.prog 4 #[hV k s i q, .slice A n c, .slice A2 m c2] w (TrueB w) := by
  have hm33 : m = 33 := hl2.symm.trans (read_facts he).1
  subst hm33
  have HB1 := Lib.hid ((Below.refl w.heap.size w).alloc (Nat.le_refl _) (.cells #[.int .u8 k, .int .u32 s, .int .u32 i, .int .u32 q] 24))
  have HH1 : Hid (Blk (w.alloc (.cells #[.int .u8 k, .int .u32 s, .int .u32 i, .int .u32 q] 24)) w.heap.size 24 [.int .u8 k, .int .u32 s, .int .u32 i, .int .u32 q]) := Lib.hid (heap_alloc_new w _)
  have HG := Lib.hid hg
  have HR := Lib.hid hr
  have HR2 := Lib.hid hr2
  have HX := Lib.hid hx
  have HX2 := Lib.hid hx2
  have HL := Lib.hid hl
  have HL2 := Lib.hid hl2
  clear hg hr hr2 hx hx2 hl hl2
  have q9 : ((n : Int) == 16) = false := by simp; omega
  go_enter Tryd.func4, Tryd.ntmps4
  go_wp2_with fail
  refine (hawake_true (HG.out.below HB1.out)).mono ?_
  rintro r w1 ⟨rfl, hb⟩
  have HB2 := Lib.hid (HB1.out.trans (hb.mono HB1.out.size))
  have HH2 := Lib.hid (HH1.out.up hb (lt_of_block HH1.out))
  clear hb HB1 HH1
  have h0 := HH2.out.cell 0 (by simp)
  have h1 := HH2.out.cell 1 (by simp)
  have h2 := HH2.out.cell 2 (by simp)
  have h3 := HH2.out.cell 3 (by simp)
  go_wp2_with fail
  refine (bytes_short k s i q A n c _ hk hn16).mono ?_
  rintro r w2 ⟨rfl, hb⟩
  have HB3 := Lib.hid (HB2.out.trans (hb.mono HB2.out.size))
  have HH3 := Lib.hid (HH2.out.up hb (lt_of_block HH2.out))
  clear hb HB2 HH2 h0 h1 h2 h3
  have h0 := HH3.out.cell 0 (by simp)
  have h1 := HH3.out.cell 1 (by simp)
  have h2 := HH3.out.cell 2 (by simp)
  have h3 := HH3.out.cell 3 (by simp)
  go_wp2_with fail
  refine (hright_is k s i q _).mono ?_
  rintro r w4 ⟨rfl, hb⟩
  rw [hk]
  have HB5 := Lib.hid (HB3.out.trans (hb.mono HB3.out.size))
  clear hb HB3 HH3 h0 h1 h2 h3
  go_wp2_with fail
  refine (hread_all ((HR2.out.below HB5.out).mono HB5.out.size) HX2.out HL2.out hc2).mono ?_
  rintro r w5 ⟨A6, m6, c6, rfl, hl6, hc6, hr6, hb⟩
  have hbk : ∀ u, Rd u u.heap.size A6 (readX ps) → Calls Tryd.prog 7 #[hV (readK ps) (readN ps 1) (readN ps 5) (readN ps 9), .slice A6 m6 c6] u fun r w' => ∃ A c, r = .returned (.tuple #[.slice A 33 c, .nilIface]) ∧ Rd w' w'.heap.size A ps ∧ Below u.heap.size u w' := fun u hu => bytes_back HX2.out he hl6 hc6 hu
  generalize readX ps = Y at *
  generalize readK ps = a0 at *
  generalize readN ps 1 = a1 at *
  generalize readN ps 5 = a2 at *
  generalize readN ps 9 = a3 at *
  rw [show errV (readE ps) = .nilIface by rw [he]; rfl]
  have HB6 := Lib.hid ((HB5.out.trans (hb.mono HB5.out.size)).alloc (Nat.le_trans HB5.out.size hb.size) (.cells #[.int .u8 a0, .int .u32 a1, .int .u32 a2, .int .u32 a3] 24))
  have HR6 : Hid (Rd (w5.alloc (.cells #[.int .u8 a0, .int .u32 a1, .int .u32 a2, .int .u32 a3] 24)) (w5.alloc (.cells #[.int .u8 a0, .int .u32 a1, .int .u32 a2, .int .u32 a3] 24)).heap.size A6 Y) := Lib.hid ((hr6.below (Below.alloc (Below.refl w5.heap.size w5) (Nat.le_refl _) _)).mono (by simp))
  clear hb hr6 HB5
  go_wp2_with fail
  refine (hbk _ HR6.out).mono ?_
  rintro r w7 ⟨A8, c8, rfl, hr8, hb⟩
  have HB7 := Lib.hid (HB6.out.trans (hb.mono HB6.out.size))
  have HR8 := Lib.hid hr8
  clear hb hr8 HB6 HR6 hbk
  go_wp2_with fail
  refine (same_self HR8.out ((HR2.out.below HB7.out).mono HB7.out.size) HL2.out HL2.out (by rw [HL2.out]; omega)).mono ?_
  rintro r w8 ⟨rfl, hb⟩
  have HB8 := Lib.hid (HB7.out.trans (hb.mono HB7.out.size))
  clear hb HB7
  go_wp2_with fail
  go_ret
  exact ⟨rfl, HB8.out⟩
set_option maxHeartbeats 2000000 in
set_option maxRecDepth 100000 in
theorem hback_short_bad {w : World} (hg : Gl w) (A A2 : Option Addr) (blk ps : List Int) (n m c c2 : Nat) (k s i q : Int) (hr : Rd w w.heap.size A blk) (hr2 : Rd w w.heap.size A2 ps) (hx : Byt blk) (hx2 : Byt ps) (hl : blk.length = n) (hl2 : ps.length = m) (_hc : n ≤ c) (hc2 : m ≤ c2)
    (hn : n ≤ 1000) (hm : m ≤ 1000) (_s0 : 0 ≤ s ∧ s ≤ 4294967295) (_i0 : 0 ≤ i ∧ i ≤ 4294967295) (_q0 : 0 ≤ q ∧ q ≤ 4294967295) (hk : rightK k = true) (hn16 : n ≠ 16) (he : readE ps ≠ 0) : Calls Tryd.prog 4 #[hV k s i q, .slice A n c, .slice A2 m c2] w (TrueB w) := by
  have HB1 := Lib.hid ((Below.refl w.heap.size w).alloc (Nat.le_refl _) (.cells #[.int .u8 k, .int .u32 s, .int .u32 i, .int .u32 q] 24))
  have HH1 : Hid (Blk (w.alloc (.cells #[.int .u8 k, .int .u32 s, .int .u32 i, .int .u32 q] 24)) w.heap.size 24 [.int .u8 k, .int .u32 s, .int .u32 i, .int .u32 q]) := Lib.hid (heap_alloc_new w _)
  have HG := Lib.hid hg
  have HR := Lib.hid hr
  have HR2 := Lib.hid hr2
  have HX := Lib.hid hx
  have HX2 := Lib.hid hx2
  have HL := Lib.hid hl
  have HL2 := Lib.hid hl2
  clear hg hr hr2 hx hx2 hl hl2
  have q9 : ((n : Int) == 16) = false := by simp; omega
  go_enter Tryd.func4, Tryd.ntmps4
  go_wp2_with fail
  refine (hawake_true (HG.out.below HB1.out)).mono ?_
  rintro r w1 ⟨rfl, hb⟩
  have HB2 := Lib.hid (HB1.out.trans (hb.mono HB1.out.size))
  have HH2 := Lib.hid (HH1.out.up hb (lt_of_block HH1.out))
  clear hb HB1 HH1
  have h0 := HH2.out.cell 0 (by simp)
  have h1 := HH2.out.cell 1 (by simp)
  have h2 := HH2.out.cell 2 (by simp)
  have h3 := HH2.out.cell 3 (by simp)
  go_wp2_with fail
  refine (bytes_short k s i q A n c _ hk hn16).mono ?_
  rintro r w2 ⟨rfl, hb⟩
  have HB3 := Lib.hid (HB2.out.trans (hb.mono HB2.out.size))
  have HH3 := Lib.hid (HH2.out.up hb (lt_of_block HH2.out))
  clear hb HB2 HH2 h0 h1 h2 h3
  have h0 := HH3.out.cell 0 (by simp)
  have h1 := HH3.out.cell 1 (by simp)
  have h2 := HH3.out.cell 2 (by simp)
  have h3 := HH3.out.cell 3 (by simp)
  go_wp2_with fail
  refine (hright_is k s i q _).mono ?_
  rintro r w4 ⟨rfl, hb⟩
  rw [hk]
  have HB5 := Lib.hid (HB3.out.trans (hb.mono HB3.out.size))
  clear hb HB3 HH3 h0 h1 h2 h3
  go_wp2_with fail
  refine (read_bad ((HR2.out.below HB5.out).mono HB5.out.size) HX2.out HL2.out hc2 he).mono ?_
  rintro r w5 ⟨F, A6, c6, rfl, hb⟩
  have HB6 := Lib.hid ((HB5.out.trans (hb.mono HB5.out.size)).alloc (Nat.le_trans HB5.out.size hb.size) (.cells #[.int .u8 0, .int .u32 0, .int .u32 0, .int .u32 0] 24))
  have hze := zero_eql
  have hgd := guard_head .eql (.inl rfl)
  clear hb HB5
  go_wp2_with fail
  go_ret
  exact ⟨rfl, HB6.out⟩
theorem hback_true {w : World} (hg : Gl w) (A A2 : Option Addr) (blk ps : List Int) (n m c c2 : Nat) (k s i q : Int) (hr : Rd w w.heap.size A blk) (hr2 : Rd w w.heap.size A2 ps) (hx : Byt blk) (hx2 : Byt ps) (hl : blk.length = n) (hl2 : ps.length = m) (hc : n ≤ c) (hc2 : m ≤ c2)
    (hn : n ≤ 1000) (hm : m ≤ 1000) (s0 : 0 ≤ s ∧ s ≤ 4294967295) (i0 : 0 ≤ i ∧ i ≤ 4294967295) (q0 : 0 ≤ q ∧ q ≤ 4294967295) : Calls Tryd.prog 4 #[hV k s i q, .slice A n c, .slice A2 m c2] w (TrueB w) := by
  by_cases he : readE ps = 0
  · by_cases hk : rightK k = true
    · by_cases h16 : n = 16
      · exact hback_ok_ok hg A A2 blk ps n m c c2 k s i q hr hr2 hx hx2 hl hl2 hc hc2 hn hm s0 i0 q0 hk h16 he
      · exact hback_short_ok hg A A2 blk ps n m c c2 k s i q hr hr2 hx hx2 hl hl2 hc hc2 hn hm s0 i0 q0 hk h16 he
    · exact hback_arg_ok hg A A2 blk ps n m c c2 k s i q hr hr2 hx hx2 hl hl2 hc hc2 hn hm s0 i0 q0 (by simpa using hk) he
  · by_cases hk : rightK k = true
    · by_cases h16 : n = 16
      · exact hback_ok_bad hg A A2 blk ps n m c c2 k s i q hr hr2 hx hx2 hl hl2 hc hc2 hn hm s0 i0 q0 hk h16 he
      · exact hback_short_bad hg A A2 blk ps n m c c2 k s i q hr hr2 hx hx2 hl hl2 hc hc2 hn hm s0 i0 q0 hk h16 he
    · exact hback_arg_bad hg A A2 blk ps n m c c2 k s i q hr hr2 hx hx2 hl hl2 hc hc2 hn hm s0 i0 q0 (by simpa using hk) he
end Go.Proofs.YtnkkifnglkajfaaDoor
