/-
  platelayerlaw04.HeadChanged answers true.
-/
import Derived.Test.YtnkkifnglkajfaaDoorHeadN
namespace Go.Proofs.YtnkkifnglkajfaaDoor
open Go.RowKit

set_option maxHeartbeats 2000000 in
set_option maxRecDepth 100000 in
theorem changed_arg {w : World} (hg : Gl w) (A : Option Addr) (blk : List Int) (n c : Nat) (k s i q x : Int) (t : Int) (hr : Rd w w.heap.size A blk) (hx : Byt blk) (hl : blk.length = n) (_hc : n ≤ c)
    (_s0 : 0 ≤ s ∧ s ≤ 4294967295) (_i0 : 0 ≤ i ∧ i ≤ 4294967295) (_q0 : 0 ≤ q ∧ q ≤ 4294967295) (hk : rightK k = false) : Calls Tryd.prog 5 #[hV k s i q, .slice A n c, .int .i64 t, .int .u8 x] w (TrueB w) := by
  have HB1 := Lib.hid ((Below.refl w.heap.size w).alloc (Nat.le_refl _) (.cells #[.int .u8 k, .int .u32 s, .int .u32 i, .int .u32 q] 24))
  have HH1 : Hid (Blk (w.alloc (.cells #[.int .u8 k, .int .u32 s, .int .u32 i, .int .u32 q] 24)) w.heap.size 24 [.int .u8 k, .int .u32 s, .int .u32 i, .int .u32 q]) := Lib.hid (heap_alloc_new w _)
  have HG := Lib.hid hg
  have HR := Lib.hid hr
  have HX := Lib.hid hx
  have HL := Lib.hid hl
  clear hg hr hx hl
  go_enter Tryd.func5, Tryd.ntmps5
  go_wp2_with fail
  refine (hawake_true (HG.out.below HB1.out)).mono ?_
  rintro r w1 ⟨rfl, hb⟩
  have HB2 := Lib.hid (HB1.out.trans (hb.mono HB1.out.size))
  have HH2 := Lib.hid (HH1.out.up hb (lt_of_block HH1.out))
  clear hb HB1 HH1
  have h0 := HH2.out.cell 0 (by simp)
  have h1 := HH2.out.cell 1 (by simp)
  have h2 := HH2.out.cell 2 (by simp)
  have h3 := HH2.out.cell 3 (by simp)
  go_wp2_with fail
  refine (bytes_arg k s i q A n c _ hk).mono ?_
  rintro r w2 ⟨rfl, hb⟩
  have HB3 := Lib.hid (HB2.out.trans (hb.mono HB2.out.size))
  have HH3 := Lib.hid (HH2.out.up hb (lt_of_block HH2.out))
  clear hb HB2 HH2 h0 h1 h2 h3
  have h0 := HH3.out.cell 0 (by simp)
  have h1 := HH3.out.cell 1 (by simp)
  have h2 := HH3.out.cell 2 (by simp)
  have h3 := HH3.out.cell 3 (by simp)
  go_wp2_with fail
  refine (hright_is k s i q _).mono ?_
  rintro r w4 ⟨rfl, hb⟩
  rw [hk]
  have HB5 := Lib.hid (HB3.out.trans (hb.mono HB3.out.size))
  clear hb HB3 HH3 h0 h1 h2 h3
  go_wp2_with fail
  go_ret
  exact ⟨rfl, HB5.out⟩
set_option maxHeartbeats 2000000 in
set_option maxRecDepth 100000 in
theorem changed_short {w : World} (hg : Gl w) (A : Option Addr) (blk : List Int) (n c : Nat) (k s i q x : Int) (t : Int) (hr : Rd w w.heap.size A blk) (hx : Byt blk) (hl : blk.length = n) (_hc : n ≤ c)
    (_s0 : 0 ≤ s ∧ s ≤ 4294967295) (_i0 : 0 ≤ i ∧ i ≤ 4294967295) (_q0 : 0 ≤ q ∧ q ≤ 4294967295) (hk : rightK k = true) (hn16 : n ≠ 16) : Calls Tryd.prog 5 #[hV k s i q, .slice A n c, .int .i64 t, .int .u8 x] w (TrueB w) := by
  have HB1 := Lib.hid ((Below.refl w.heap.size w).alloc (Nat.le_refl _) (.cells #[.int .u8 k, .int .u32 s, .int .u32 i, .int .u32 q] 24))
  have HH1 : Hid (Blk (w.alloc (.cells #[.int .u8 k, .int .u32 s, .int .u32 i, .int .u32 q] 24)) w.heap.size 24 [.int .u8 k, .int .u32 s, .int .u32 i, .int .u32 q]) := Lib.hid (heap_alloc_new w _)
  have HG := Lib.hid hg
  have HR := Lib.hid hr
  have HX := Lib.hid hx
  have HL := Lib.hid hl
  clear hg hr hx hl
  have q9 : ((n : Int) == 16) = false := by simp; omega
  have q10 : ((n : Int) != 16) = true := by simp; omega
  go_enter Tryd.func5, Tryd.ntmps5
  go_wp2_with fail
  refine (hawake_true (HG.out.below HB1.out)).mono ?_
  rintro r w1 ⟨rfl, hb⟩
  have HB2 := Lib.hid (HB1.out.trans (hb.mono HB1.out.size))
  have HH2 := Lib.hid (HH1.out.up hb (lt_of_block HH1.out))
  clear hb HB1 HH1
  have h0 := HH2.out.cell 0 (by simp)
  have h1 := HH2.out.cell 1 (by simp)
  have h2 := HH2.out.cell 2 (by simp)
  have h3 := HH2.out.cell 3 (by simp)
  go_wp2_with fail
  refine (bytes_short k s i q A n c _ hk hn16).mono ?_
  rintro r w2 ⟨rfl, hb⟩
  have HB3 := Lib.hid (HB2.out.trans (hb.mono HB2.out.size))
  have HH3 := Lib.hid (HH2.out.up hb (lt_of_block HH2.out))
  clear hb HB2 HH2 h0 h1 h2 h3
  have h0 := HH3.out.cell 0 (by simp)
  have h1 := HH3.out.cell 1 (by simp)
  have h2 := HH3.out.cell 2 (by simp)
  have h3 := HH3.out.cell 3 (by simp)
  go_wp2_with fail
  refine (hright_is k s i q _).mono ?_
  rintro r w4 ⟨rfl, hb⟩
  rw [hk]
  have HB5 := Lib.hid (HB3.out.trans (hb.mono HB3.out.size))
  clear hb HB3 HH3 h0 h1 h2 h3
  go_wp2_with fail
  go_ret
  exact ⟨rfl, HB5.out⟩
set_option maxHeartbeats 2000000 in
set_option maxRecDepth 100000 in
theorem changed_low {w : World} (hg : Gl w) (A : Option Addr) (blk : List Int) (n c : Nat) (k s i q x : Int) (t : Int) (hr : Rd w w.heap.size A blk) (hx : Byt blk) (hl : blk.length = n) (hc : n ≤ c)
    (s0 : 0 ≤ s ∧ s ≤ 4294967295) (i0 : 0 ≤ i ∧ i ≤ 4294967295) (q0 : 0 ≤ q ∧ q ≤ 4294967295) (hk : rightK k = true) (hn16 : n = 16) (ht : t < 0) : Calls Tryd.prog 5 #[hV k s i q, .slice A n c, .int .i64 t, .int .u8 x] w (TrueB w) := by
  have HB1 := Lib.hid ((Below.refl w.heap.size w).alloc (Nat.le_refl _) (.cells #[.int .u8 k, .int .u32 s, .int .u32 i, .int .u32 q] 24))
  have HH1 : Hid (Blk (w.alloc (.cells #[.int .u8 k, .int .u32 s, .int .u32 i, .int .u32 q] 24)) w.heap.size 24 [.int .u8 k, .int .u32 s, .int .u32 i, .int .u32 q]) := Lib.hid (heap_alloc_new w _)
  have HG := Lib.hid hg
  have HR := Lib.hid hr
  have HX := Lib.hid hx
  have HL := Lib.hid hl
  clear hg hr hx hl
  subst hn16
  go_enter Tryd.func5, Tryd.ntmps5
  go_wp2_with fail
  refine (hawake_true (HG.out.below HB1.out)).mono ?_
  rintro r w1 ⟨rfl, hb⟩
  have HB2 := Lib.hid (HB1.out.trans (hb.mono HB1.out.size))
  have HH2 := Lib.hid (HH1.out.up hb (lt_of_block HH1.out))
  clear hb HB1 HH1
  have h0 := HH2.out.cell 0 (by simp)
  have h1 := HH2.out.cell 1 (by simp)
  have h2 := HH2.out.cell 2 (by simp)
  have h3 := HH2.out.cell 3 (by simp)
  go_wp2_with fail
  refine (bytes_ok k s i q A blk c _ ((HR.out.below HB2.out).mono HB2.out.size) HX.out HL.out hc hk s0 i0 q0).mono ?_
  rintro r w2 ⟨g, rfl, hB, hgw, hb⟩
  have hgw2 : w.heap.size ≤ g := Nat.le_trans HB2.out.size hgw
  have HB3 := Lib.hid (HB2.out.trans (hb.mono HB2.out.size))
  have HP3 := Lib.hid hB
  clear hb hB HB2 HH2 h0 h1 h2 h3
  go_wp2_with fail
  go_ret
  exact ⟨rfl, HB3.out⟩
set_option maxHeartbeats 2000000 in
set_option maxRecDepth 100000 in
theorem changed_high {w : World} (hg : Gl w) (A : Option Addr) (blk : List Int) (n c : Nat) (k s i q x : Int) (t : Int) (hr : Rd w w.heap.size A blk) (hx : Byt blk) (hl : blk.length = n) (hc : n ≤ c)
    (s0 : 0 ≤ s ∧ s ≤ 4294967295) (i0 : 0 ≤ i ∧ i ≤ 4294967295) (q0 : 0 ≤ q ∧ q ≤ 4294967295) (hk : rightK k = true) (hn16 : n = 16) (ht : 33 ≤ t) : Calls Tryd.prog 5 #[hV k s i q, .slice A n c, .int .i64 t, .int .u8 x] w (TrueB w) := by
  have HB1 := Lib.hid ((Below.refl w.heap.size w).alloc (Nat.le_refl _) (.cells #[.int .u8 k, .int .u32 s, .int .u32 i, .int .u32 q] 24))
  have HH1 : Hid (Blk (w.alloc (.cells #[.int .u8 k, .int .u32 s, .int .u32 i, .int .u32 q] 24)) w.heap.size 24 [.int .u8 k, .int .u32 s, .int .u32 i, .int .u32 q]) := Lib.hid (heap_alloc_new w _)
  have HG := Lib.hid hg
  have HR := Lib.hid hr
  have HX := Lib.hid hx
  have HL := Lib.hid hl
  clear hg hr hx hl
  subst hn16
  have ht2 : ¬ t < 0 := by omega
  go_enter Tryd.func5, Tryd.ntmps5
  go_wp2_with fail
  refine (hawake_true (HG.out.below HB1.out)).mono ?_
  rintro r w1 ⟨rfl, hb⟩
  have HB2 := Lib.hid (HB1.out.trans (hb.mono HB1.out.size))
  have HH2 := Lib.hid (HH1.out.up hb (lt_of_block HH1.out))
  clear hb HB1 HH1
  have h0 := HH2.out.cell 0 (by simp)
  have h1 := HH2.out.cell 1 (by simp)
  have h2 := HH2.out.cell 2 (by simp)
  have h3 := HH2.out.cell 3 (by simp)
  go_wp2_with fail
  refine (bytes_ok k s i q A blk c _ ((HR.out.below HB2.out).mono HB2.out.size) HX.out HL.out hc hk s0 i0 q0).mono ?_
  rintro r w2 ⟨g, rfl, hB, hgw, hb⟩
  have hgw2 : w.heap.size ≤ g := Nat.le_trans HB2.out.size hgw
  have HB3 := Lib.hid (HB2.out.trans (hb.mono HB2.out.size))
  have HP3 := Lib.hid hB
  clear hb hB HB2 HH2 h0 h1 h2 h3
  go_wp2_with fail
  go_ret
  exact ⟨rfl, HB3.out⟩
set_option maxHeartbeats 2000000 in
set_option maxRecDepth 100000 in
theorem changed_same {w : World} (hg : Gl w) (A : Option Addr) (blk : List Int) (n c : Nat) (k s i q x : Int) (t : Nat) (hr : Rd w w.heap.size A blk) (hx : Byt blk) (hl : blk.length = n) (hc : n ≤ c)
    (s0 : 0 ≤ s ∧ s ≤ 4294967295) (i0 : 0 ≤ i ∧ i ≤ 4294967295) (q0 : 0 ≤ q ∧ q ≤ 4294967295) (hk : rightK k = true) (hn16 : n = 16) (ht : t < 33) (hsame : (pageB k s i q blk)[t]? = some x) : Calls Tryd.prog 5 #[hV k s i q, .slice A n c, .int .i64 (t : Int), .int .u8 x] w (TrueB w) := by
  have HB1 := Lib.hid ((Below.refl w.heap.size w).alloc (Nat.le_refl _) (.cells #[.int .u8 k, .int .u32 s, .int .u32 i, .int .u32 q] 24))
  have HH1 : Hid (Blk (w.alloc (.cells #[.int .u8 k, .int .u32 s, .int .u32 i, .int .u32 q] 24)) w.heap.size 24 [.int .u8 k, .int .u32 s, .int .u32 i, .int .u32 q]) := Lib.hid (heap_alloc_new w _)
  have HG := Lib.hid hg
  have HR := Lib.hid hr
  have HX := Lib.hid hx
  have HL := Lib.hid hl
  clear hg hr hx hl
  subst hn16
  go_enter Tryd.func5, Tryd.ntmps5
  go_wp2_with fail
  refine (hawake_true (HG.out.below HB1.out)).mono ?_
  rintro r w1 ⟨rfl, hb⟩
  have HB2 := Lib.hid (HB1.out.trans (hb.mono HB1.out.size))
  have HH2 := Lib.hid (HH1.out.up hb (lt_of_block HH1.out))
  clear hb HB1 HH1
  have h0 := HH2.out.cell 0 (by simp)
  have h1 := HH2.out.cell 1 (by simp)
  have h2 := HH2.out.cell 2 (by simp)
  have h3 := HH2.out.cell 3 (by simp)
  go_wp2_with fail
  refine (bytes_ok k s i q A blk c _ ((HR.out.below HB2.out).mono HB2.out.size) HX.out HL.out hc hk s0 i0 q0).mono ?_
  rintro r w2 ⟨g, rfl, hB, hgw, hb⟩
  have hgw2 : w.heap.size ≤ g := Nat.le_trans HB2.out.size hgw
  have HB3 := Lib.hid (HB2.out.trans (hb.mono HB2.out.size))
  have HP3 := Lib.hid hB
  clear hb hB HB2 HH2 h0 h1 h2 h3
  have hlen : (pageB k s i q blk).length = 33 := by rw [pageB_len, HL.out]
  have c0 := Blk.cell HP3.out t (by rw [cells8_len, hlen]; omega)
  have c1 := Blk.free HP3.out t
  have ec : (cellsOf8 (pageB k s i q blk))[t]'(by rw [cells8_len, hlen]; omega) = .int .u8 ((pageB k s i q blk)[t]'(by rw [hlen]; omega)) := by simp [cellsOf8]
  rw [ec] at c0
  have e2 : (pageB k s i q blk)[t]'(by rw [hlen]; omega) = x := by
    rw [List.getElem?_eq_getElem (by rw [hlen]; omega)] at hsame
    exact Option.some.inj hsame
  rw [e2] at c0
  have q1 : (x == x) = true := by simp
  clear ec e2 hsame hlen c1
  go_wp2_with fail
  go_ret
  exact ⟨rfl, HB3.out⟩
set_option maxHeartbeats 2000000 in
set_option maxRecDepth 100000 in
theorem changed_main {w : World} (hg : Gl w) (A : Option Addr) (blk : List Int) (n c : Nat) (k s i q x : Int) (t : Nat) (hr : Rd w w.heap.size A blk) (hx : Byt blk) (hl : blk.length = n) (hc : n ≤ c)
    (s0 : 0 ≤ s ∧ s ≤ 4294967295) (i0 : 0 ≤ i ∧ i ≤ 4294967295) (q0 : 0 ≤ q ∧ q ≤ 4294967295) (hk : rightK k = true) (hn16 : n = 16) (ht : t < 33) (x0 : 0 ≤ x ∧ x ≤ 255) (hdiff : (pageB k s i q blk)[t]? ≠ some x) : Calls Tryd.prog 5 #[hV k s i q, .slice A n c, .int .i64 (t : Int), .int .u8 x] w (TrueB w) := by
  have HB1 := Lib.hid ((Below.refl w.heap.size w).alloc (Nat.le_refl _) (.cells #[.int .u8 k, .int .u32 s, .int .u32 i, .int .u32 q] 24))
  have HH1 : Hid (Blk (w.alloc (.cells #[.int .u8 k, .int .u32 s, .int .u32 i, .int .u32 q] 24)) w.heap.size 24 [.int .u8 k, .int .u32 s, .int .u32 i, .int .u32 q]) := Lib.hid (heap_alloc_new w _)
  have HG := Lib.hid hg
  have HR := Lib.hid hr
  have HX := Lib.hid hx
  have HL := Lib.hid hl
  clear hg hr hx hl
  subst hn16
  go_enter Tryd.func5, Tryd.ntmps5
  go_wp2_with fail
  refine (hawake_true (HG.out.below HB1.out)).mono ?_
  rintro r w1 ⟨rfl, hb⟩
  have HB2 := Lib.hid (HB1.out.trans (hb.mono HB1.out.size))
  have HH2 := Lib.hid (HH1.out.up hb (lt_of_block HH1.out))
  clear hb HB1 HH1
  have h0 := HH2.out.cell 0 (by simp)
  have h1 := HH2.out.cell 1 (by simp)
  have h2 := HH2.out.cell 2 (by simp)
  have h3 := HH2.out.cell 3 (by simp)
  go_wp2_with fail
  refine (bytes_ok k s i q A blk c _ ((HR.out.below HB2.out).mono HB2.out.size) HX.out HL.out hc hk s0 i0 q0).mono ?_
  rintro r w2 ⟨g, rfl, hB, hgw, hb⟩
  have hgw2 : w.heap.size ≤ g := Nat.le_trans HB2.out.size hgw
  have HB3 := Lib.hid (HB2.out.trans (hb.mono HB2.out.size))
  have HP3 := Lib.hid hB
  clear hb hB HB2 HH2 h0 h1 h2 h3
  have hlen : (pageB k s i q blk).length = 33 := by rw [pageB_len, HL.out]
  have c0 := Blk.cell HP3.out t (by rw [cells8_len, hlen]; omega)
  have c1 := Blk.free HP3.out t
  have ec : (cellsOf8 (pageB k s i q blk))[t]'(by rw [cells8_len, hlen]; omega) = .int .u8 ((pageB k s i q blk)[t]'(by rw [hlen]; omega)) := by simp [cellsOf8]
  rw [ec] at c0
  obtain ⟨y, hy⟩ : ∃ y, (pageB k s i q blk)[t]'(by rw [hlen]; omega) = y := ⟨_, rfl⟩
  rw [hy] at c0
  have hyx : x ≠ y := by
    rintro rfl
    exact hdiff (by rw [List.getElem?_eq_getElem (by rw [hlen]; omega), hy])
  have q1 : (y == x) = false := by simp; omega
  have hp := right_pos hk
  have hne : bk ((pageB k s i q blk).set t x) 13 ≠ tot ((pageB k s i q blk).set t x) := page_changed (by omega) (by omega) HX.out HL.out (by rw [hlen]; omega) x0.1 x0.2 (by rw [hy]; exact hyx)
  have HP4 := Lib.hid (Blk8.put HP3.out t x)
  have HB4 := Lib.hid (HB3.out.setCell (p := ⟨g, t, none⟩) hgw2 (.int .u8 x))
  have HBY : Hid (Byt ((pageB k s i q blk).set t x)) := Lib.hid (by
    intro z hz
    rcases List.mem_or_eq_of_mem_set hz with hz | rfl
    · exact byt_page s i q (by omega) (by omega) HX.out z hz
    · exact x0)
  have HLN : Hid (((pageB k s i q blk).set t x).length = 33) := Lib.hid (by rw [List.length_set, hlen])
  have HNE := Lib.hid hne
  clear ec hy hdiff hlen hne HB3 HP3
  generalize (pageB k s i q blk).set t x = ps at *
  go_wp2_with fail
  refine (read_sum g 0 33 ps _ (show Rd _ _ (some ⟨g, 0, none⟩) ps from HP4.out.rd 0) HBY.out HLN.out (by omega) HNE.out).mono ?_
  rintro r w5 ⟨rfl, hb⟩
  have HB6 := Lib.hid ((HB4.out.trans (hb.mono HB4.out.size)).alloc (Nat.le_trans HB4.out.size hb.size) (.cells #[.int .u8 0, .int .u32 0, .int .u32 0, .int .u32 0] 24))
  have HV6 : Hid (Blk (w5.alloc (.cells #[.int .u8 0, .int .u32 0, .int .u32 0, .int .u32 0] 24)) w5.heap.size 24 [.int .u8 0, .int .u32 0, .int .u32 0, .int .u32 0]) := Lib.hid (heap_alloc_new w5 _)
  clear hb HB4 HP4 c0 c1 q1
  go_wp2_with fail
  refine (code_errno 4 (HG.out.below HB6.out)).mono ?_
  rintro r w7 ⟨rfl, hb⟩
  have HB7 := Lib.hid (HB6.out.trans (hb.mono HB6.out.size))
  have HV7 := Lib.hid (HV6.out.up hb (lt_of_block HV6.out))
  clear hb HB6 HV6
  have v0 := HV7.out.cell 0 (by simp)
  have v1 := HV7.out.cell 1 (by simp)
  have v2 := HV7.out.cell 2 (by simp)
  have v3 := HV7.out.cell 3 (by simp)
  have hze := zero_eql
  have hgd := guard_head .eql (.inl rfl)
  go_wp2_with fail
  go_ret
  exact ⟨rfl, HB7.out⟩
theorem changed_all {w : World} (hg : Gl w) (A : Option Addr) (blk : List Int) (n c : Nat) (k s i q x t : Int) (hr : Rd w w.heap.size A blk) (hx : Byt blk) (hl : blk.length = n) (hc : n ≤ c)
    (s0 : 0 ≤ s ∧ s ≤ 4294967295) (i0 : 0 ≤ i ∧ i ≤ 4294967295) (q0 : 0 ≤ q ∧ q ≤ 4294967295) (x0 : 0 ≤ x ∧ x ≤ 255) : Calls Tryd.prog 5 #[hV k s i q, .slice A n c, .int .i64 t, .int .u8 x] w (TrueB w) := by
  by_cases hk : rightK k = true
  · by_cases h16 : n = 16
    · by_cases h1 : t < 0
      · exact changed_low hg A blk n c k s i q x t hr hx hl hc s0 i0 q0 hk h16 h1
      · by_cases h2 : 33 ≤ t
        · exact changed_high hg A blk n c k s i q x t hr hx hl hc s0 i0 q0 hk h16 h2
        · obtain ⟨u, rfl⟩ : ∃ u : Nat, t = (u : Int) := ⟨t.toNat, by omega⟩
          by_cases h3 : (pageB k s i q blk)[u]? = some x
          · exact changed_same hg A blk n c k s i q x u hr hx hl hc s0 i0 q0 hk h16 (by omega) h3
          · exact changed_main hg A blk n c k s i q x u hr hx hl hc s0 i0 q0 hk h16 (by omega) x0 h3
    · exact changed_short hg A blk n c k s i q x t hr hx hl hc s0 i0 q0 hk h16
  · exact changed_arg hg A blk n c k s i q x t hr hx hl hc s0 i0 q0 (by simpa using hk)
end Go.Proofs.YtnkkifnglkajfaaDoor
