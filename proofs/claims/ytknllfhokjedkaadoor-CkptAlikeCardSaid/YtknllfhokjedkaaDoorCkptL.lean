/-
  platelayerlaw06.awake answers true.
-/
import Derived.Test.YtknllfhokjedkaaDoorCkptK
namespace Go.Proofs.YtknllfhokjedkaaDoor
open Go.RowKit

theorem words4 {ns : List Int} (h : Words ns) : Words4 ns := h
theorem ex_right : rightC 11 4 6 2 = true := by decide
theorem no_right : rightC 0 0 0 0 = false := by decide
theorem ex_words : Words [1, 2, 3, 4, 0] := by
  intro n hn
  simp only [List.mem_cons, List.not_mem_nil, or_false] at hn
  rcases hn with rfl | rfl | rfl | rfl | rfl <;> exact ⟨by omega, by omega⟩
def exBlocks : List (List Int) := blocksC 1 2 3 11 4 6 [4, 0]
theorem ex_len : exBlocks.length = 3 := by
  have := blocksC_len (nu := 1) (se := 2) (sq := 3) (z := 11) (p := 4) (b := 6) (dir := [4, 0]) ex_right
  have e : manyC 6 = 3 := by decide
  rw [e] at this
  unfold exBlocks
  omega
theorem ex_read : readGE exBlocks = 0 := read_blocks ex_right (words4 ex_words)
theorem ex_dir : rdD exBlocks = [4, 0] := by
  unfold rdD
  rw [if_pos ex_read]
  exact read_dir ex_right (words4 ex_words)
theorem ex_num (i : Nat) (hi : i < 8) : rdN exBlocks i = (numsC 1 2 3 11 4 6 [4, 0])[i]'(by simp [numsC]; omega) := by
  unfold rdN
  rw [if_pos ex_read]
  exact blocksC_num ex_right (words4 ex_words) i (by simpa using hi)
theorem wide_of {n : Int} (h : (decide (-9223372036854775808 ≤ n) && decide (n ≤ 9223372036854775807)) = true) : Wide n := by
  simp only [Bool.and_eq_true, decide_eq_true_eq] at h
  exact h
theorem read_nil : readGE [] = 3 := by decide
theorem nums_len {w : World} {v : Value} {ns : List Int} {n : Nat} (h : NumsAt w v ns) (hn : ns.length = n) : ∃ A c, v = .slice A n c ∧ n ≤ c ∧ RdV w w.heap.size A (u32s ns) := by
  subst hn
  exact h
theorem rows_len' {w : World} {v : Value} {l : List (List Int)} {n : Nat} (h : RowsAt w v l) (hn : l.length = n) : ∃ A c, v = .slice A n c ∧ n ≤ c ∧ RowsAt w (.slice A n c) l := by
  obtain ⟨A, c, vs, rfl, hc, hv, hr⟩ := h
  subst hn
  exact ⟨A, c, rfl, hc, ⟨A, c, vs, rfl, hc, hv, hr⟩⟩

set_option maxHeartbeats 2000000 in
set_option maxRecDepth 100000 in
theorem kawake_true {w : World} (hg : Gl w) : Calls Tryd.prog 7 #[] w (TrueB w) := by
  have HG := Lib.hid hg
  clear hg
  have W11 : Hid (Wide 11 ∧ Wide 4 ∧ Wide 6 ∧ Wide 0) := Lib.hid ⟨wide_of rfl, wide_of rfl, wide_of rfl, wide_of rfl⟩
  have HO := Lib.hid (OwnG.new w w.heap.size 22 (u32s [4, 0]) (Nat.le_refl _) (by simp [u32s]))
  have HB0 := Lib.hid ((Below.refl w.heap.size w).alloc (Nat.le_refl _) (.cells (u32s [4, 0]).toArray 22))
  go_enter Tryd.func7, Tryd.ntmps7
  go_wp2_with fail
  obtain ⟨w0, hw0⟩ : ∃ w0 : World, w0 = w.alloc (.cells #[.int .u32 4, .int .u32 0] 22) := ⟨_, rfl⟩
  have hz0 : w0.heap.size = w.heap.size + 1 := by rw [hw0]; simp
  rw [show w.alloc (.cells (u32s [4, 0]).toArray 22) = w0 from hw0.symm] at HO HB0
  rw [← hw0]
  clear hw0
  have HC1 := Lib.hid (blk_new w0 (kList 1 2 3 11 4 6 (.slice (some ⟨w.heap.size, 0, none⟩) 2 2)) 27)
  have hal : Below w0.heap.size w0 (w0.alloc (.cells (kList 1 2 3 11 4 6 (.slice (some ⟨w.heap.size, 0, none⟩) 2 2)).toArray 27)) := Below.alloc (Below.refl w0.heap.size w0) (Nat.le_refl _) _
  have HR1 := Lib.hid (HO.out.rdV.up hal)
  have HB1 := Lib.hid (HB0.out.trans (hal.mono HB0.out.size))
  rw [hz0] at HC1
  clear hal hz0 HO HB0
  obtain ⟨w1, hw1⟩ : ∃ w1 : World, w1 = w0.alloc (.cells #[.int .u32 1, .int .u32 2, .int .u32 3, .int .i64 11, .int .i64 4, .int .i64 6, .slice (some ⟨w.heap.size, 0, none⟩) 2 2] 27) := ⟨_, rfl⟩
  rw [show w0.alloc (.cells (kList 1 2 3 11 4 6 (.slice (some ⟨w.heap.size, 0, none⟩) 2 2)).toArray 27) = w1 from hw1.symm] at HC1 HR1 HB1
  rw [← hw1]
  clear hw1
  have hkb := kblocks_all (c := 2) 1 2 3 11 4 6 HR1.out (show ([4, 0] : List Int).length = 2 from rfl) ex_words W11.out.1 W11.out.2.1 W11.out.2.2.1
  rw [if_pos ex_right, if_pos ex_right, show errV 0 = Value.nilIface from if_pos rfl] at hkb
  rw [show blocksC 1 2 3 11 4 6 [4, 0] = exBlocks from rfl] at hkb
  refine hkb.mono ?_
  rintro r w2 ⟨v, rfl, hv, hb⟩
  obtain ⟨AL, cl, rfl, hcl, hv⟩ := rows_len' hv ex_len
  have HV2 := Lib.hid hv
  have HB2 := Lib.hid (HB1.out.trans (hb.mono HB1.out.size))
  have HR2 := Lib.hid (HR1.out.up hb)
  have HC2 := Lib.hid (HC1.out.up hb (lt_of_block HC1.out))
  clear hkb hb hv HB1 HR1 HC1
  go_wp2_with fail
  have hkr := kread_all HV2.out (fun x hx => blocksC_byt x hx) (by rw [ex_len]; omega) (fun x hx => by rw [blocksC_16 x hx]; omega)
  unfold ReadIs at hkr
  rw [ex_read, show errV 0 = Value.nilIface from if_pos rfl, ex_num 0 (by omega), ex_num 1 (by omega), ex_num 2 (by omega), ex_num 3 (by omega), ex_num 4 (by omega), ex_num 5 (by omega), ex_dir] at hkr
  simp only [numsC, List.getElem_cons_succ, List.getElem_cons_zero] at hkr
  refine hkr.mono ?_
  rintro r w3 ⟨S, rfl, hS, hb⟩
  obtain ⟨AS, cs, rfl, hcs, hS⟩ := nums_len hS (show ([4, 0] : List Int).length = 2 from rfl)
  have hb3 : Below w2.heap.size w2 (w3.alloc (.cells (kCells 1 2 3 11 4 6 (.slice AS 2 cs)) 27)) := hb.alloc hb.size _
  have HV3 := Lib.hid (HV2.out.up hb3)
  have HB3 := Lib.hid (HB2.out.trans (hb3.mono HB2.out.size))
  have HR3 := Lib.hid (HR2.out.up hb3)
  have HC3 := Lib.hid (HC2.out.up hb3 (lt_of_block HC2.out))
  have HD3 := Lib.hid (blk_new w3 (kList 1 2 3 11 4 6 (.slice AS 2 cs)) 27)
  have HS3 := Lib.hid (hS.up (Below.alloc (Below.refl w3.heap.size w3) (Nat.le_refl _) (.cells (kCells 1 2 3 11 4 6 (.slice AS 2 cs)) 27)))
  clear hb hb3 hS hkr HV2 HB2 HR2 HC2
  go_wp2_with fail
  obtain ⟨D, hD⟩ : ∃ D, w3.heap.size = D := ⟨_, rfl⟩
  obtain ⟨w4, hw4⟩ : ∃ w4 : World, w4 = w3.alloc (.cells (kCells 1 2 3 11 4 6 (.slice AS 2 cs)) 27) := ⟨_, rfl⟩
  rw [show w3.alloc (.cells (kList 1 2 3 11 4 6 (.slice AS 2 cs)).toArray 27) = w4 from hw4.symm, hD] at HD3
  rw [← hw4] at HV3 HB3 HR3 HC3 HS3 ⊢
  rw [hD]
  clear hw4 hD
  have hkn := kread_all (RowsAt.nil w4) (fun x hx => by cases hx) (by simp) (fun x hx => by cases hx)
  unfold ReadIs rdN rdD at hkn
  rw [read_nil] at hkn
  simp only [show ((3 : Int) = 0) = False by simp, if_false] at hkn
  rw [show errV 3 = Value.iface 35 (.int .i64 3) from if_neg (by omega)] at hkn
  refine hkn.mono ?_
  rintro r w5 ⟨S0, rfl, hS0, hb⟩
  obtain ⟨A0, c0, rfl, _, _⟩ := nums_len hS0 (show ([] : List Int).length = 0 from rfl)
  have hb5 : Below w4.heap.size w4 (w5.alloc (.cells (kCells 0 0 0 0 0 0 (.slice A0 0 c0)) 27)) := hb.alloc hb.size _
  have HB5 := Lib.hid (HB3.out.trans (hb5.mono HB3.out.size))
  have HR5 := Lib.hid (HR3.out.up hb5)
  have HC5 := Lib.hid (HC3.out.up hb5 (lt_of_block HC3.out))
  have HD5 := Lib.hid (HD3.out.up hb5 (lt_of_block HD3.out))
  have HS5 := Lib.hid (HS3.out.up hb5)
  clear hb hb5 hS0 hkn HV3 HB3 HR3 HC3 HD3 HS3
  go_wp2_with fail
  obtain ⟨w6, hw6⟩ : ∃ w6 : World, w6 = w5.alloc (.cells (kCells 0 0 0 0 0 0 (.slice A0 0 c0)) 27) := ⟨_, rfl⟩
  rw [← hw6] at HB5 HR5 HC5 HD5 HS5 ⊢
  clear hw6
  refine (kmany_is 6 w6 (by omega) (by omega)).mono ?_
  rw [show manyC 6 = 3 by decide]
  rintro r w7 ⟨rfl, hb⟩
  have HB7 := Lib.hid (HB5.out.trans (hb.mono HB5.out.size))
  have HR7 := Lib.hid (HR5.out.up hb)
  have HC7 := Lib.hid (HC5.out.up hb (lt_of_block HC5.out))
  have HD7 := Lib.hid (HD5.out.up hb (lt_of_block HD5.out))
  have HS7 := Lib.hid (HS5.out.up hb)
  clear hb HB5 HR5 HC5 HD5 HS5
  have a0 : w7.cell? ⟨w.heap.size + 1, 0, none⟩ = some (.int .u32 1) := HC7.out.cell 0 (by simp)
  have a1 : w7.cell? ⟨w.heap.size + 1, 1, none⟩ = some (.int .u32 2) := HC7.out.cell 1 (by simp)
  have a2 : w7.cell? ⟨w.heap.size + 1, 2, none⟩ = some (.int .u32 3) := HC7.out.cell 2 (by simp)
  have a3 : w7.cell? ⟨w.heap.size + 1, 3, none⟩ = some (.int .i64 11) := HC7.out.cell 3 (by simp)
  have a4 : w7.cell? ⟨w.heap.size + 1, 4, none⟩ = some (.int .i64 4) := HC7.out.cell 4 (by simp)
  have a5 : w7.cell? ⟨w.heap.size + 1, 5, none⟩ = some (.int .i64 6) := HC7.out.cell 5 (by simp)
  have a6 : w7.cell? ⟨w.heap.size + 1, 6, none⟩ = some (.slice (some ⟨w.heap.size, 0, none⟩) 2 2) := HC7.out.cell 6 (by simp)
  have b0 : w7.cell? ⟨D, 0, none⟩ = some (.int .u32 1) := HD7.out.cell 0 (by simp)
  have b1 : w7.cell? ⟨D, 1, none⟩ = some (.int .u32 2) := HD7.out.cell 1 (by simp)
  have b2 : w7.cell? ⟨D, 2, none⟩ = some (.int .u32 3) := HD7.out.cell 2 (by simp)
  have b3 : w7.cell? ⟨D, 3, none⟩ = some (.int .i64 11) := HD7.out.cell 3 (by simp)
  have b4 : w7.cell? ⟨D, 4, none⟩ = some (.int .i64 4) := HD7.out.cell 4 (by simp)
  have b5 : w7.cell? ⟨D, 5, none⟩ = some (.int .i64 6) := HD7.out.cell 5 (by simp)
  have b6 : w7.cell? ⟨D, 6, none⟩ = some (.slice AS 2 cs) := HD7.out.cell 6 (by simp)
  go_wp2_with fail
  refine (ksame_is 1 2 3 11 4 6 1 2 3 11 4 6 HR7.out HS7.out (show ([4, 0] : List Int).length = 2 from rfl) (show ([4, 0] : List Int).length = 2 from rfl) (by omega) (by omega)).mono ?_
  rw [show sameC 1 2 3 11 4 6 [4, 0] 1 2 3 11 4 6 [4, 0] = true from rfl]
  rintro r w8 ⟨rfl, hb⟩
  have HB8 := Lib.hid (HB7.out.trans (hb.mono HB7.out.size))
  have HC8 := Lib.hid (HC7.out.up hb (lt_of_block HC7.out))
  clear hb HB7 HR7 HC7 HD7 HS7 a0 a1 a2 a3 a4 a5 a6 b0 b1 b2 b3 b4 b5 b6
  have a0 : w8.cell? ⟨w.heap.size + 1, 0, none⟩ = some (.int .u32 1) := HC8.out.cell 0 (by simp)
  have a1 : w8.cell? ⟨w.heap.size + 1, 1, none⟩ = some (.int .u32 2) := HC8.out.cell 1 (by simp)
  have a2 : w8.cell? ⟨w.heap.size + 1, 2, none⟩ = some (.int .u32 3) := HC8.out.cell 2 (by simp)
  have a3 : w8.cell? ⟨w.heap.size + 1, 3, none⟩ = some (.int .i64 11) := HC8.out.cell 3 (by simp)
  have a4 : w8.cell? ⟨w.heap.size + 1, 4, none⟩ = some (.int .i64 4) := HC8.out.cell 4 (by simp)
  have a5 : w8.cell? ⟨w.heap.size + 1, 5, none⟩ = some (.int .i64 6) := HC8.out.cell 5 (by simp)
  have a6 : w8.cell? ⟨w.heap.size + 1, 6, none⟩ = some (.slice (some ⟨w.heap.size, 0, none⟩) 2 2) := HC8.out.cell 6 (by simp)
  go_wp2_with fail
  refine (kright_is 1 2 3 11 4 6 _ 2 2 w8 W11.out.1 W11.out.2.1 W11.out.2.2.1).mono ?_
  rw [ex_right]
  rintro r w9 ⟨rfl, hb⟩
  have HB9 := Lib.hid (HB8.out.trans (hb.mono HB8.out.size))
  clear hb HB8 HC8 a0 a1 a2 a3 a4 a5 a6
  go_wp2_with fail
  refine (kright_is 0 0 0 0 0 0 _ 0 0 w9 W11.out.2.2.2 W11.out.2.2.2 W11.out.2.2.2).mono ?_
  rw [no_right]
  rintro r w10 ⟨rfl, hb⟩
  have HB10 := Lib.hid (HB9.out.trans (hb.mono HB9.out.size))
  clear hb HB9
  go_wp2_with fail
  refine (code_errno 3 (HG.out.below HB10.out)).mono ?_
  rintro r w11 ⟨rfl, hb⟩
  have HB11 := Lib.hid (HB10.out.trans (hb.mono HB10.out.size))
  clear hb HB10
  go_wp2_with fail
  go_ret
  exact ⟨rfl, HB11.out⟩
end Go.Proofs.YtknllfhokjedkaaDoor
