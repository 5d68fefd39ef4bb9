/-
  platelayerlaw04.awake answers true.
-/
import Derived.Test.YtnkkifnglkajfaaDoorHeadK
import Derived.Deep.RegionWith
namespace Go.Proofs.YtnkkifnglkajfaaDoor
open Go.RowKit

theorem make16 (w : World) : (Instr.makeSlice 25 (.int .i64 16) (.int .i64 16)).run Tryd.prog w = .ok (.slice (some ⟨w.heap.size, 0, none⟩) 16 16) (w.alloc (zerosObj 16)) := make_zeros 16 (by omega) w
def zs16 : List Int := List.replicate 16 0
theorem zs16_len : zs16.length = 16 := rfl
theorem byt_zs16 : Byt zs16 := byt_of rfl
/-- The page of the document's example, and its first 13 bytes. -/
def exPage : List Int := pageB 1 1 2 258 zs16
def exHead : List Int := [1, 1, 0, 0, 0, 2, 0, 0, 0, 2, 1, 0, 0]
theorem ex_head : exPage.take 13 = exHead := by
  unfold exPage
  rw [page_take]
  decide
theorem ex_len : exPage.length = 33 := by unfold exPage; rw [pageB_len]; rfl
theorem byt_ex : Byt exPage := byt_page 1 2 258 (by omega) (by omega) byt_zs16
theorem ex_read : readE exPage = 0 := by
  unfold readE
  rw [if_neg (by rw [ex_len]; omega), if_neg (by unfold exPage; rw [page_bk13, page_tot]; simp), if_neg (by unfold exPage; rw [page_kind]; decide)]
theorem ex_k : readK exPage = 1 := by unfold readK; rw [if_pos ex_read]; rfl
theorem ex_1 : readN exPage 1 = 1 := by unfold readN; rw [if_pos ex_read]; exact page_bk1 (by omega) (by omega)
theorem ex_5 : readN exPage 5 = 2 := by unfold readN; rw [if_pos ex_read]; exact page_bk5 (by omega) (by omega)
theorem ex_9 : readN exPage 9 = 258 := by unfold readN; rw [if_pos ex_read]; exact page_bk9 (by omega) (by omega)
theorem ex_x : readX exPage = zs16 := by unfold readX; rw [if_pos ex_read]; rfl
theorem ex_read_is {g : Nat} {w : World} (h : Blk8 w g exPage) : Calls Tryd.prog 9 #[.slice (some ⟨g, 0, none⟩) 33 33] w fun r w' => ∃ A c, r = .returned (.tuple #[hV 1 1 2 258, .slice A 16 c, .nilIface]) ∧ Below w.heap.size w w' := by
  refine (hread_all (show Rd w w.heap.size (some ⟨g, 0, none⟩) exPage from h.rd 0) byt_ex ex_len (Nat.le_refl _)).mono ?_
  rintro r w' ⟨A, m, c, rfl, hl, _, _, hw⟩
  rw [ex_x, zs16_len] at hl
  subst hl
  rw [ex_k, ex_1, ex_5, ex_9, ex_read]
  exact ⟨A, c, rfl, hw⟩
theorem ex_lit (w : World) : Rd (w.alloc (.cells #[.int .u8 1, .int .u8 1, .int .u8 0, .int .u8 0, .int .u8 0, .int .u8 2, .int .u8 0, .int .u8 0, .int .u8 0, .int .u8 2, .int .u8 1, .int .u8 0, .int .u8 0] 5)) (w.heap.size + 1) (some ⟨w.heap.size, 0, none⟩) exHead := by
  intro _
  refine ⟨w.heap.size, 0, rfl, by omega, fun i hi => ?_⟩
  have hi' : i < 13 := hi
  rcases i with _ | _ | _ | _ | _ | _ | _ | _ | _ | _ | _ | _ | _ | i
  all_goals first | omega | simp [exHead]
theorem ex_same {A A2 : Option Addr} {w : World} (h1 : Rd w w.heap.size A exHead) (h2 : Rd w w.heap.size A2 exHead) : Calls Tryd.prog 11 #[.slice A 13 33, .slice A2 13 13] w (BoolB true w) := same_is h1 h2 rfl rfl (by omega)
theorem ex_right (w : World) : Calls Tryd.prog 13 #[hV 1 1 2 258] w (BoolB true w) := hright_is 1 1 2 258 w
theorem no_right (w : World) : Calls Tryd.prog 13 #[hV 0 0 0 0] w (BoolB false w) := hright_is 0 0 0 0 w
theorem ex_eql (w : World) : (binOp .eql 24 (hV 1 1 2 258) (hV 1 1 2 258)).run Tryd.prog w = .ok (.bool true) w := eql_head 1 1 2 258 1 1 2 258 w
theorem ex_bytes (u : World) (b : Nat) (w : World) (hu : Rd w w.heap.size (some ⟨b, 0, none⟩) zs16) (h : u = w) : Calls Tryd.prog 7 #[hV 1 1 2 258, .slice (some ⟨b, 0, none⟩) 16 16] u fun r w' => ∃ g, r = .returned (.tuple #[.slice (some ⟨g, 0, none⟩) 33 33, .nilIface]) ∧ Blk8 w' g exPage ∧ Below u.heap.size u w' := by
  subst h
  refine (bytes_ok 1 1 2 258 (some ⟨b, 0, none⟩) zs16 16 u hu byt_zs16 zs16_len (by omega) (by decide) (by omega) (by omega) (by omega)).mono ?_
  rintro r w' ⟨g, h1, h2, _, h3⟩
  exact ⟨g, h1, h2, h3⟩

set_option maxHeartbeats 2000000 in
set_option maxRecDepth 100000 in
theorem hawake_true {w : World} (hg : Gl w) : Calls Tryd.prog 6 #[] w (TrueB w) := by
  have HG := Lib.hid hg
  have HB1 := Lib.hid ((Below.refl w.heap.size w).alloc (Nat.le_refl _) (.cells #[.int .u8 1, .int .u32 1, .int .u32 2, .int .u32 258] 24))
  have HH1 : Hid (Blk (w.alloc (.cells #[.int .u8 1, .int .u32 1, .int .u32 2, .int .u32 258] 24)) w.heap.size 24 [.int .u8 1, .int .u32 1, .int .u32 2, .int .u32 258]) := Lib.hid (heap_alloc_new w _)
  have hmk := make16
  clear hg
  go_enter Tryd.func6, Tryd.ntmps6
  go_wp2_with fail
  obtain ⟨w1, hw1⟩ : ∃ w1 : World, w1 = w.alloc (.cells #[.int .u8 1, .int .u32 1, .int .u32 2, .int .u32 258] 24) := ⟨_, rfl⟩
  rw [← hw1] at HB1 HH1 ⊢
  clear hw1
  have h0 := HH1.out.cell 0 (by simp)
  have h1 := HH1.out.cell 1 (by simp)
  have h2 := HH1.out.cell 2 (by simp)
  have h3 := HH1.out.cell 3 (by simp)
  have hR1 := lt_of_block HH1.out
  have HZ : Hid (Rd (w1.alloc (zerosObj 16)).drew (w1.alloc (zerosObj 16)).drew.heap.size (some ⟨w1.heap.size, 0, none⟩) zs16) := Lib.hid ((blk_zeros w1 16).rd 0)
  have HB2 : Hid (Below w.heap.size w (w1.alloc (zerosObj 16)).drew) := Lib.hid (HB1.out.alloc HB1.out.size _).drew
  have HH2 : Hid (Blk (w1.alloc (zerosObj 16)).drew w.heap.size 24 [.int .u8 1, .int .u32 1, .int .u32 2, .int .u32 258]) := Lib.hid (HH1.out.up (Below.alloc (Below.refl w1.heap.size w1) (Nat.le_refl _) (zerosObj 16)).drew hR1)
  go_region_with (first | (go_at_call 7; refine (ex_bytes _ _ _ HZ.out rfl).mono ?_; rintro r w3 ⟨g, rfl, hz, hb⟩; have HP3 := Lib.hid hz; have HB3 := Lib.hid (HB2.out.trans (hb.mono HB2.out.size)); have HH3 := Lib.hid (HH2.out.up hb (lt_of_block HH2.out)); clear hz hb))
  all_goals (
    clear HZ HB2 HH2 h0 h1 h2 h3 hR1 HH1 HB1
    go_wp2_with fail
    refine (code_nil _).mono ?_
    rintro r w4 ⟨rfl, hb⟩
    have HB4 := Lib.hid (HB3.out.trans (hb.mono HB3.out.size))
    have HH4 := Lib.hid (HH3.out.up hb (lt_of_block HH3.out))
    have HP4 : Hid (Blk8 w4 g exPage) := Lib.hid (Blk.up HP3.out hb (lt_of_block HP3.out))
    clear hb HB3 HH3 HP3
    go_wp2_with fail
    refine (ex_read_is HP4.out).mono ?_
    rintro r w5 ⟨A5, c5, rfl, hb⟩
    have HB5 := Lib.hid ((HB4.out.trans (hb.mono HB4.out.size)).alloc (Nat.le_trans HB4.out.size hb.size) (.cells #[.int .u8 1, .int .u32 1, .int .u32 2, .int .u32 258] 24))
    have HV5 : Hid (Blk (w5.alloc (.cells #[.int .u8 1, .int .u32 1, .int .u32 2, .int .u32 258] 24)) w5.heap.size 24 [.int .u8 1, .int .u32 1, .int .u32 2, .int .u32 258]) := Lib.hid (heap_alloc_new w5 _)
    have hb5 : Below w4.heap.size w4 (w5.alloc (.cells #[.int .u8 1, .int .u32 1, .int .u32 2, .int .u32 258] 24)) := hb.alloc hb.size _
    have HH5 := Lib.hid (HH4.out.up hb5 (lt_of_block HH4.out))
    have HP5 : Hid (Blk8 (w5.alloc (.cells #[.int .u8 1, .int .u32 1, .int .u32 2, .int .u32 258] 24)) g exPage) := Lib.hid (Blk.up HP4.out hb5 (lt_of_block HP4.out))
    clear hb hb5 HB4 HH4 HP4
    go_wp2_with fail
    refine (read_short (some ⟨g, 1, none⟩) 32 32 _ (by omega)).mono ?_
    rintro r w6 ⟨rfl, hb⟩
    have hs6 := Nat.le_trans HB5.out.size hb.size
    have hb6 : Below (w5.alloc (.cells #[.int .u8 1, .int .u32 1, .int .u32 2, .int .u32 258] 24)).heap.size (w5.alloc (.cells #[.int .u8 1, .int .u32 1, .int .u32 2, .int .u32 258] 24)) ((w6.alloc (.cells #[.int .u8 0, .int .u32 0, .int .u32 0, .int .u32 0] 24)).alloc (.cells #[.int .u8 1, .int .u8 1, .int .u8 0, .int .u8 0, .int .u8 0, .int .u8 2, .int .u8 0, .int .u8 0, .int .u8 0, .int .u8 2, .int .u8 1, .int .u8 0, .int .u8 0] 5)) := (hb.alloc hb.size _).alloc (by have := hb.size; simp at this ⊢; omega) _
    have HB6 := Lib.hid (HB5.out.trans (hb6.mono HB5.out.size))
    have HH6 := Lib.hid (HH5.out.up hb6 (lt_of_block HH5.out))
    have HV6 := Lib.hid (HV5.out.up hb6 (lt_of_block HV5.out))
    have HP6 : Hid (Blk8 ((w6.alloc (.cells #[.int .u8 0, .int .u32 0, .int .u32 0, .int .u32 0] 24)).alloc (.cells #[.int .u8 1, .int .u8 1, .int .u8 0, .int .u8 0, .int .u8 0, .int .u8 2, .int .u8 0, .int .u8 0, .int .u8 0, .int .u8 2, .int .u8 1, .int .u8 0, .int .u8 0] 5)) g exPage) := Lib.hid (Blk.up HP5.out hb6 (lt_of_block HP5.out))
    have hl := ex_lit (w6.alloc (.cells #[.int .u8 0, .int .u32 0, .int .u32 0, .int .u32 0] 24))
    rw [World.size_alloc] at hl
    have HL6 := Lib.hid hl
    clear hl hb hb6 HB5 HH5 HV5 HP5
    go_wp2_with fail
    refine (ex_same (by have := (HP6.out.rd 0).take 13; rwa [show (exPage.drop 0).take 13 = exHead from ex_head] at this) (HL6.out.mono (by simp))).mono ?_
    rintro r w7 ⟨rfl, hb⟩
    have HB7 := Lib.hid (HB6.out.trans (hb.mono HB6.out.size))
    have HH7 := Lib.hid (HH6.out.up hb (lt_of_block HH6.out))
    have HV7 := Lib.hid (HV6.out.up hb (lt_of_block HV6.out))
    clear hb HB6 HH6 HV6 HP6 HL6
    have h0 := HH7.out.cell 0 (by simp)
    have h1 := HH7.out.cell 1 (by simp)
    have h2 := HH7.out.cell 2 (by simp)
    have h3 := HH7.out.cell 3 (by simp)
    have v0 := HV7.out.cell 0 (by simp)
    have v1 := HV7.out.cell 1 (by simp)
    have v2 := HV7.out.cell 2 (by simp)
    have v3 := HV7.out.cell 3 (by simp)
    have he := ex_eql
    have hgd := guard_head .eql (.inl rfl)
    go_wp2_with fail
    refine (code_nil _).mono ?_
    rintro r w8 ⟨rfl, hb⟩
    have HB8 := Lib.hid (HB7.out.trans (hb.mono HB7.out.size))
    have HH8 := Lib.hid (HH7.out.up hb (lt_of_block HH7.out))
    clear hb HB7 HH7 h0 h1 h2 h3 v0 v1 v2 v3
    go_wp2_with fail
    refine (code_errno 3 (HG.out.below HB8.out)).mono ?_
    rintro r w9 ⟨rfl, hb⟩
    have HB9 := Lib.hid (HB8.out.trans (hb.mono HB8.out.size))
    have HH9 := Lib.hid (HH8.out.up hb (lt_of_block HH8.out))
    clear hb HB8 HH8
    have h0 := HH9.out.cell 0 (by simp)
    have h1 := HH9.out.cell 1 (by simp)
    have h2 := HH9.out.cell 2 (by simp)
    have h3 := HH9.out.cell 3 (by simp)
    go_wp2_with fail
    refine (ex_right _).mono ?_
    rintro r w10 ⟨rfl, hb⟩
    have HB10 := Lib.hid (HB9.out.trans (hb.mono HB9.out.size))
    clear hb HB9 HH9 h0 h1 h2 h3
    go_wp2_with fail
    refine (no_right _).mono ?_
    rintro r w11 ⟨rfl, hb⟩
    have HB11 := Lib.hid (HB10.out.trans (hb.mono HB10.out.size))
    clear hb HB10
    go_wp2_with fail
    go_ret
    exact ⟨rfl, HB11.out⟩)
end Go.Proofs.YtnkkifnglkajfaaDoor
