/-
  platelayerlaw06.CkptTells answers true.
-/
import Derived.Test.YtknllfhokjedkaaDoorCkptL
namespace Go.Proofs.YtknllfhokjedkaaDoor
open Go.RowKit

/-- What the last line reads. -/
def KeptT (w : World) (B3 B4 : Nat) (cc cd cx cy : List Value) (A A2 A3 A4 : Option Addr) (dir dir2 dirR : List Int) (v1 v2 : Value) (L1 : List (List Int)) (u : World) : Prop :=
  Below w.heap.size w u ∧ Blk u w.heap.size 27 cc ∧ Blk u (w.heap.size + 1) 27 cd ∧ Blk u B3 27 cx ∧ Blk u B4 40 cy ∧
  RdV u u.heap.size A (u32s dir) ∧ RdV u u.heap.size A2 (u32s dir2) ∧ RdV u u.heap.size A3 (u32s dirR) ∧ RdV u u.heap.size A4 (u32s dirR) ∧ RowsAt u v1 L1 ∧ RowsAt u v2 L1
theorem KeptT.up {w : World} {B3 B4 : Nat} {cc cd cx cy : List Value} {A A2 A3 A4 : Option Addr} {dir dir2 dirR : List Int} {v1 v2 : Value} {L1 : List (List Int)} {a u : World} (h : KeptT w B3 B4 cc cd cx cy A A2 A3 A4 dir dir2 dirR v1 v2 L1 a) (hb : Below a.heap.size a u) : KeptT w B3 B4 cc cd cx cy A A2 A3 A4 dir dir2 dirR v1 v2 L1 u := by
  obtain ⟨h1, h2, h3, h4, h5, h6, h7, h8, h9, h10, h11⟩ := h
  exact ⟨below_all h1 hb, h2.up hb (lt_of_block h2), h3.up hb (lt_of_block h3), h4.up hb (lt_of_block h4), h5.up hb (lt_of_block h5), h6.up hb, h7.up hb, h8.up hb, h9.up hb, h10.up hb, h11.up hb⟩
theorem sameC_self (nu se sq z p b : Int) (dir : List Int) : sameC nu se sq z p b dir nu se sq z p b dir = true := by simp [sameC]
theorem large_bd {l : List (List Int)} (h : largeB l = false) : l.length ≤ 40 ∧ ∀ x ∈ l, x.length ≤ 100 := by
  unfold largeB at h
  simp only [Bool.or_eq_false_iff, decide_eq_false_iff_not, List.any_eq_false] at h
  exact ⟨by omega, fun x hx => by have := h.2 x hx; simpa using this⟩
theorem blocks_bd (nu se sq z p b : Int) (dir : List Int) : (if rightC z p b dir.length = true then blocksC nu se sq z p b dir else []).length ≤ 1000 ∧ ∀ x ∈ (if rightC z p b dir.length = true then blocksC nu se sq z p b dir else []), x.length ≤ 20000 := by
  split
  · rename_i h
    have h1 := blocksC_len (nu := nu) (se := se) (sq := sq) h
    have h2 := rightB_bd (right_parts h).1
    unfold manyC at h1
    exact ⟨by omega, fun x hx => by rw [blocksC_16 x hx]; omega⟩
  · exact ⟨by simp, fun x hx => by cases hx⟩
theorem readDir_len {l : List (List Int)} : (rdD l).length ≤ 100 := by
  unfold rdD
  split
  · rename_i h
    obtain ⟨_, hr, _⟩ := read_parts h
    have := rightB_bd hr
    simp only [readDir, List.length_map, List.length_range]
    omega
  · simp

theorem ktells_large {w : World} (hg : Gl w) {A A2 : Option Addr} {n cc n2 cc2 : Nat} {v : Value} {l : List (List Int)} (nu se sq z p b nu2 se2 sq2 z2 p2 b2 : Int) (hv : RowsAt w v l) (h : largeB l = true ∨ 100 < n ∨ 100 < n2) :
    Calls Tryd.prog 3 #[kV nu se sq z p b (.slice A n cc), kV nu2 se2 sq2 z2 p2 b2 (.slice A2 n2 cc2), v] w (TrueB w) := by
  have hal := ((Below.refl w.heap.size w).alloc (Nat.le_refl _) (.cells (kCells nu se sq z p b (.slice A n cc)) 27)).alloc (by simp) (.cells (kCells nu2 se2 sq2 z2 p2 b2 (.slice A2 n2 cc2)) 27)
  have HC1 : Hid (Blk ((w.alloc (.cells (kCells nu se sq z p b (.slice A n cc)) 27)).alloc (.cells (kCells nu2 se2 sq2 z2 p2 b2 (.slice A2 n2 cc2)) 27)) w.heap.size 27 (kList nu se sq z p b (.slice A n cc))) := Lib.hid ((blk_new w (kList nu se sq z p b (.slice A n cc)) 27).up (Below.alloc (Below.refl _ _) (Nat.le_refl _) _) (by simp))
  have HD1 : Hid (Blk ((w.alloc (.cells (kCells nu se sq z p b (.slice A n cc)) 27)).alloc (.cells (kCells nu2 se2 sq2 z2 p2 b2 (.slice A2 n2 cc2)) 27)) (w.heap.size + 1) 27 (kList nu2 se2 sq2 z2 p2 b2 (.slice A2 n2 cc2))) := Lib.hid (by
    have := blk_new (w.alloc (.cells (kCells nu se sq z p b (.slice A n cc)) 27)) (kList nu2 se2 sq2 z2 p2 b2 (.slice A2 n2 cc2)) 27
    rwa [World.size_alloc] at this)
  have HB1 := Lib.hid hal
  have HG := Lib.hid (hg.below hal)
  have HV1 := Lib.hid (hv.up hal)
  clear hg hv hal
  go_enter Tryd.func3, Tryd.ntmps3
  go_wp2_with fail
  refine (kawake_true HG.out).mono ?_
  rintro r w1 ⟨rfl, hb⟩
  have HB2 := Lib.hid (HB1.out.trans (hb.mono HB1.out.size))
  have HV2 := Lib.hid (HV1.out.up hb)
  have HC2 := Lib.hid (HC1.out.up hb (lt_of_block HC1.out))
  have HD2 := Lib.hid (HD1.out.up hb (lt_of_block HD1.out))
  clear hb HB1 HV1 HC1 HD1
  go_wp2_with fail
  refine (large_is HV2.out).mono ?_
  rintro r w2 ⟨rfl, hb⟩
  have HB3 := Lib.hid (HB2.out.trans (hb.mono HB2.out.size))
  have HC3 := Lib.hid (HC2.out.up hb (lt_of_block HC2.out))
  have HD3 := Lib.hid (HD2.out.up hb (lt_of_block HD2.out))
  clear hb HB2 HV2 HC2 HD2
  have a6 : w2.cell? ⟨w.heap.size, 6, none⟩ = some (.slice A n cc) := HC3.out.cell 6 (by simp)
  have b6 : w2.cell? ⟨w.heap.size + 1, 6, none⟩ = some (.slice A2 n2 cc2) := HD3.out.cell 6 (by simp)
  cases hl : largeB l
  · rw [hl] at h
    by_cases h1 : 100 < n
    · clear h
      go_wp2_with fail
      go_ret
      exact ⟨rfl, HB3.out⟩
    · have h2 : 100 < n2 := by simpa [h1] using h
      clear h
      go_wp2_with fail
      go_ret
      exact ⟨rfl, HB3.out⟩
  · clear h
    go_wp2_with fail
    go_ret
    exact ⟨rfl, HB3.out⟩

set_option maxHeartbeats 4000000 in
set_option maxRecDepth 100000 in
theorem ktells_true {w : World} (hg : Gl w) {A A2 AV : Option Addr} {dir dir2 : List Int} {n cc n2 cc2 nv cv : Nat} {vs : List Value} {l : List (List Int)} (nu se sq z p b nu2 se2 sq2 z2 p2 b2 : Int)
    (hr : RdV w w.heap.size A (u32s dir)) (hl : dir.length = n) (hw : Words (nu :: se :: sq :: dir)) (hz : Wide z) (hp : Wide p) (hb : Wide b) (hr2 : RdV w w.heap.size A2 (u32s dir2)) (hl2 : dir2.length = n2)
    (hvl : l.length = nv) (hvc : nv ≤ cv) (hv : RdV w w.heap.size AV vs) (hvr : RdR w vs l) (hx : ∀ x ∈ l, Byt x) (hlarge : largeB l = false) (hn : n ≤ 100) (hn2 : n2 ≤ 100) :
    Calls Tryd.prog 3 #[kV nu se sq z p b (.slice A n cc), kV nu2 se2 sq2 z2 p2 b2 (.slice A2 n2 cc2), .slice AV nv cv] w (TrueB w) := by
  have hbd := large_bd hlarge
  have HLG := Lib.hid hlarge
  have HWD := Lib.hid (And.intro hz (And.intro hp hb))
  have HW := Lib.hid hw
  have HL := Lib.hid hl
  have HL2 := Lib.hid hl2
  have HVL := Lib.hid hvl
  have HX := Lib.hid hx
  have HBD := Lib.hid hbd
  have hal := ((Below.refl w.heap.size w).alloc (Nat.le_refl _) (.cells (kCells nu se sq z p b (.slice A n cc)) 27)).alloc (by simp) (.cells (kCells nu2 se2 sq2 z2 p2 b2 (.slice A2 n2 cc2)) 27)
  have HC1 : Hid (Blk ((w.alloc (.cells (kCells nu se sq z p b (.slice A n cc)) 27)).alloc (.cells (kCells nu2 se2 sq2 z2 p2 b2 (.slice A2 n2 cc2)) 27)) w.heap.size 27 (kList nu se sq z p b (.slice A n cc))) := Lib.hid ((blk_new w (kList nu se sq z p b (.slice A n cc)) 27).up (Below.alloc (Below.refl _ _) (Nat.le_refl _) _) (by simp))
  have HD1 : Hid (Blk ((w.alloc (.cells (kCells nu se sq z p b (.slice A n cc)) 27)).alloc (.cells (kCells nu2 se2 sq2 z2 p2 b2 (.slice A2 n2 cc2)) 27)) (w.heap.size + 1) 27 (kList nu2 se2 sq2 z2 p2 b2 (.slice A2 n2 cc2))) := Lib.hid (by
    have := blk_new (w.alloc (.cells (kCells nu se sq z p b (.slice A n cc)) 27)) (kList nu2 se2 sq2 z2 p2 b2 (.slice A2 n2 cc2)) 27
    rwa [World.size_alloc] at this)
  have HB1 := Lib.hid hal
  have HG := Lib.hid hg
  have HVV := Lib.hid (And.intro hv hvr)
  have HRR := Lib.hid (And.intro hr hr2)
  clear hg hv hvr hal hr hr2 hx hbd hlarge hz hp hb hw hl hl2 hvl
  go_enter Tryd.func3, Tryd.ntmps3
  go_wp2_with fail
  refine (kawake_true (HG.out.below HB1.out)).mono ?_
  rintro r w1 ⟨rfl, hb⟩
  have HB2 := Lib.hid (HB1.out.trans (hb.mono HB1.out.size))
  have HC2 := Lib.hid (HC1.out.up hb (lt_of_block HC1.out))
  have HD2 := Lib.hid (HD1.out.up hb (lt_of_block HD1.out))
  clear hb HB1 HC1 HD1
  go_wp2_with fail
  have hrows : ∀ u, Below w.heap.size w u → RowsAt u (.slice AV nv cv) l := fun u hu => ⟨AV, cv, vs, by rw [HVL.out], by rw [HVL.out]; exact hvc, HVV.out.1.up hu, HVV.out.2.up hu⟩
  have HROW := Lib.hid hrows
  clear hrows
  refine (large_is (HROW.out _ HB2.out)).mono ?_
  rw [HLG.out]
  rintro r w2 ⟨rfl, hb⟩
  have HB3 := Lib.hid (HB2.out.trans (hb.mono HB2.out.size))
  have HC3 := Lib.hid (HC2.out.up hb (lt_of_block HC2.out))
  have HD3 := Lib.hid (HD2.out.up hb (lt_of_block HD2.out))
  clear hb HB2 HC2 HD2
  have a0 : w2.cell? ⟨w.heap.size, 0, none⟩ = some (.int .u32 nu) := HC3.out.cell 0 (by simp)
  have a1 : w2.cell? ⟨w.heap.size, 1, none⟩ = some (.int .u32 se) := HC3.out.cell 1 (by simp)
  have a2 : w2.cell? ⟨w.heap.size, 2, none⟩ = some (.int .u32 sq) := HC3.out.cell 2 (by simp)
  have a3 : w2.cell? ⟨w.heap.size, 3, none⟩ = some (.int .i64 z) := HC3.out.cell 3 (by simp)
  have a4 : w2.cell? ⟨w.heap.size, 4, none⟩ = some (.int .i64 p) := HC3.out.cell 4 (by simp)
  have a5 : w2.cell? ⟨w.heap.size, 5, none⟩ = some (.int .i64 b) := HC3.out.cell 5 (by simp)
  have a6 : w2.cell? ⟨w.heap.size, 6, none⟩ = some (.slice A n cc) := HC3.out.cell 6 (by simp)
  have b6 : w2.cell? ⟨w.heap.size + 1, 6, none⟩ = some (.slice A2 n2 cc2) := HD3.out.cell 6 (by simp)
  go_wp2_with fail
  have hbl := blocks_bd nu se sq z p b dir
  rw [HL.out] at hbl
  have hkb := kblocks_all (c := cc) nu se sq z p b (HRR.out.1.up HB3.out) HL.out HW.out HWD.out.1 HWD.out.2.1 HWD.out.2.2
  have HRB : Hid (∀ u, Below w.heap.size w u → Calls Tryd.prog 10 #[kV nu se sq z p b (.slice A n cc)] u (BlocksIs (.int .i64 (if rightC z p b n = true then 0 else 1)) (if rightC z p b n = true then blocksC nu se sq z p b dir else []) u)) := Lib.hid (fun u hu => rkblocks_all nu se sq z p b (HRR.out.1.up hu) HL.out HW.out)
  obtain ⟨E1, e1⟩ : ∃ E : Int, (if rightC z p b n = true then 0 else 1) = E := ⟨_, rfl⟩
  obtain ⟨L1, e2⟩ : ∃ L, (if rightC z p b n = true then blocksC nu se sq z p b dir else []) = L := ⟨_, rfl⟩
  rw [e1, e2] at hkb HRB
  rw [e2] at hbl
  have HBL := Lib.hid hbl
  clear e1 e2 hbl
  refine hkb.mono ?_
  rintro r w3 ⟨v1, rfl, hv1, hb⟩
  obtain ⟨A5, c5, rfl, _, hv1⟩ := rows_len' hv1 rfl
  have HV1 := Lib.hid hv1
  have HB4 := Lib.hid (HB3.out.trans (hb.mono HB3.out.size))
  have HC4 := Lib.hid (HC3.out.up hb (lt_of_block HC3.out))
  have HD4 := Lib.hid (HD3.out.up hb (lt_of_block HD3.out))
  clear hb hv1 hkb HB3 HC3 HD3 b6 a0 a1 a2 a3 a4 a5 a6
  obtain ⟨n5, hn5⟩ : ∃ n5, L1.length = n5 := ⟨_, rfl⟩
  have HN5 := Lib.hid hn5
  rw [hn5] at HV1 ⊢
  clear hn5
  have a0 : w3.cell? ⟨w.heap.size, 0, none⟩ = some (.int .u32 nu) := HC4.out.cell 0 (by simp)
  have a1 : w3.cell? ⟨w.heap.size, 1, none⟩ = some (.int .u32 se) := HC4.out.cell 1 (by simp)
  have a2 : w3.cell? ⟨w.heap.size, 2, none⟩ = some (.int .u32 sq) := HC4.out.cell 2 (by simp)
  have a3 : w3.cell? ⟨w.heap.size, 3, none⟩ = some (.int .i64 z) := HC4.out.cell 3 (by simp)
  have a4 : w3.cell? ⟨w.heap.size, 4, none⟩ = some (.int .i64 p) := HC4.out.cell 4 (by simp)
  have a5 : w3.cell? ⟨w.heap.size, 5, none⟩ = some (.int .i64 b) := HC4.out.cell 5 (by simp)
  have a6 : w3.cell? ⟨w.heap.size, 6, none⟩ = some (.slice A n cc) := HC4.out.cell 6 (by simp)
  go_wp2_with fail
  refine (own_is nu se sq z p b A n cc w3).mono ?_
  rintro r w4 ⟨rfl, hb⟩
  have HB5 := Lib.hid (HB4.out.trans (hb.mono HB4.out.size))
  have HC5 := Lib.hid (HC4.out.up hb (lt_of_block HC4.out))
  have HD5 := Lib.hid (HD4.out.up hb (lt_of_block HD4.out))
  have HV15 := Lib.hid (HV1.out.up hb)
  clear hb HB4 HC4 HD4 HV1 a0 a1 a2 a3 a4 a5 a6
  go_wp2_with fail
  refine (HRB.out w4 HB5.out).mono ?_
  rintro r w5 ⟨v2, rfl, hv2, hb⟩
  obtain ⟨A6, c6, rfl, _, hv2⟩ := rows_len' hv2 HN5.out
  have HV2 := Lib.hid hv2
  have HB6 := Lib.hid (HB5.out.trans (hb.mono HB5.out.size))
  have HC6 := Lib.hid (HC5.out.up hb (lt_of_block HC5.out))
  have HD6 := Lib.hid (HD5.out.up hb (lt_of_block HD5.out))
  have HV16 := Lib.hid (HV15.out.up hb)
  clear hb hv2 HB5 HC5 HD5 HV15 HRB
  go_wp2_with fail
  have hkr := kread_all (HROW.out _ HB6.out) HX.out (by have := HBD.out.1; omega) (fun x hx => by have := HBD.out.2 x hx; omega)
  have HRD : Hid (∀ u, Below w.heap.size w u → Calls Tryd.prog 13 #[.slice AV nv cv] u (ReadIs (.int .i64 (readGE l)) l u)) := Lib.hid (fun u hu => rkread_all HVL.out (HVV.out.1.up hu) (HVV.out.2.up hu) HX.out (by have := HBD.out.1; have := HVL.out; omega))
  unfold ReadIs at hkr HRD
  have hdl := readDir_len (l := l)
  obtain ⟨r0, e0⟩ : ∃ x, rdN l 0 = x := ⟨_, rfl⟩
  obtain ⟨r1, e1⟩ : ∃ x, rdN l 1 = x := ⟨_, rfl⟩
  obtain ⟨r2, e2⟩ : ∃ x, rdN l 2 = x := ⟨_, rfl⟩
  obtain ⟨r3, e3⟩ : ∃ x, rdN l 3 = x := ⟨_, rfl⟩
  obtain ⟨r4, e4⟩ : ∃ x, rdN l 4 = x := ⟨_, rfl⟩
  obtain ⟨r5, e5⟩ : ∃ x, rdN l 5 = x := ⟨_, rfl⟩
  obtain ⟨dirR, e6⟩ : ∃ x, rdD l = x := ⟨_, rfl⟩
  obtain ⟨E2, e7⟩ : ∃ x, readGE l = x := ⟨_, rfl⟩
  rw [e0, e1, e2, e3, e4, e5, e6, e7] at hkr HRD
  rw [e6] at hdl
  clear e0 e1 e2 e3 e4 e5 e6 e7
  obtain ⟨k, hk⟩ : ∃ k, dirR.length = k := ⟨_, rfl⟩
  have HKL := Lib.hid hk
  rw [hk] at hdl
  clear hk
  refine hkr.mono ?_
  rintro r w6 ⟨S3, rfl, hS, hb⟩
  obtain ⟨A3, c3, rfl, _, hS⟩ := nums_len hS HKL.out
  have hb6 : Below w5.heap.size w5 (w6.alloc (.cells (kCells r0 r1 r2 r3 r4 r5 (.slice A3 k c3)) 27)) := hb.alloc hb.size _
  have HB7 := Lib.hid (HB6.out.trans (hb6.mono HB6.out.size))
  have HC7 := Lib.hid (HC6.out.up hb6 (lt_of_block HC6.out))
  have HD7 := Lib.hid (HD6.out.up hb6 (lt_of_block HD6.out))
  have HV17 := Lib.hid (HV16.out.up hb6)
  have HV27 := Lib.hid (HV2.out.up hb6)
  have HS7 := Lib.hid (hS.up (Below.alloc (Below.refl w6.heap.size w6) (Nat.le_refl _) (.cells (kCells r0 r1 r2 r3 r4 r5 (.slice A3 k c3)) 27)))
  have HX7 := Lib.hid (blk_new w6 (kList r0 r1 r2 r3 r4 r5 (.slice A3 k c3)) 27)
  clear hb hb6 hS hkr HB6 HC6 HD6 HV16 HV2
  go_wp2_with fail
  obtain ⟨B3, hB3⟩ : ∃ B, w6.heap.size = B := ⟨_, rfl⟩
  obtain ⟨w7, hw7⟩ : ∃ w7 : World, w7 = w6.alloc (.cells (kCells r0 r1 r2 r3 r4 r5 (.slice A3 k c3)) 27) := ⟨_, rfl⟩
  rw [show w6.alloc (.cells (kList r0 r1 r2 r3 r4 r5 (.slice A3 k c3)).toArray 27) = w7 from hw7.symm, hB3] at HX7
  rw [← hw7] at HB7 HC7 HD7 HV17 HV27 HS7 ⊢
  rw [hB3]
  clear hw7 hB3
  refine (HRD.out w7 HB7.out).mono ?_
  rintro r w8 ⟨S4, rfl, hS, hb⟩
  obtain ⟨A4, c4, rfl, _, hS⟩ := nums_len hS HKL.out
  have hb8 : Below w7.heap.size w7 (w8.alloc (.cells (kCells r0 r1 r2 r3 r4 r5 (.slice A4 k c4)) 40)) := hb.alloc hb.size _
  have HB9 := Lib.hid (HB7.out.trans (hb8.mono HB7.out.size))
  have HC9 := Lib.hid (HC7.out.up hb8 (lt_of_block HC7.out))
  have HD9 := Lib.hid (HD7.out.up hb8 (lt_of_block HD7.out))
  have HV19 := Lib.hid (HV17.out.up hb8)
  have HV29 := Lib.hid (HV27.out.up hb8)
  have HS9 := Lib.hid (HS7.out.up hb8)
  have HX9 := Lib.hid (HX7.out.up hb8 (lt_of_block HX7.out))
  have HT9 := Lib.hid (hS.up (Below.alloc (Below.refl w8.heap.size w8) (Nat.le_refl _) (.cells (kCells r0 r1 r2 r3 r4 r5 (.slice A4 k c4)) 40)))
  have HY9 := Lib.hid (blk_new w8 (kList r0 r1 r2 r3 r4 r5 (.slice A4 k c4)) 40)
  clear hb hb8 hS HB7 HC7 HD7 HV17 HV27 HS7 HX7 HRD
  obtain ⟨B4, hB4⟩ : ∃ B, w8.heap.size = B := ⟨_, rfl⟩
  obtain ⟨v1, hv1⟩ : ∃ v : Value, .slice A5 n5 c5 = v := ⟨_, rfl⟩
  obtain ⟨v2, hv2⟩ : ∃ v : Value, .slice A6 n5 c6 = v := ⟨_, rfl⟩
  rw [hv1] at HV19 ⊢
  rw [hv2] at HV29 ⊢
  clear hv1 hv2
  obtain ⟨w9, hw9⟩ : ∃ w9 : World, w9 = w8.alloc (.cells (kCells r0 r1 r2 r3 r4 r5 (.slice A4 k c4)) 40) := ⟨_, rfl⟩
  rw [show w8.alloc (.cells (kList r0 r1 r2 r3 r4 r5 (.slice A4 k c4)).toArray 40) = w9 from hw9.symm, hB4] at HY9
  rw [← hw9] at HB9 HC9 HD9 HV19 HV29 HS9 HX9 HT9
  have HK9 : Hid (KeptT w B3 B4 (kList nu se sq z p b (.slice A n cc)) (kList nu2 se2 sq2 z2 p2 b2 (.slice A2 n2 cc2)) (kList r0 r1 r2 r3 r4 r5 (.slice A3 k c3)) (kList r0 r1 r2 r3 r4 r5 (.slice A4 k c4)) A A2 A3 A4 dir dir2 dirR v1 v2 L1 w9) := Lib.hid ⟨HB9.out, HC9.out, HD9.out, HX9.out, HY9.out, HRR.out.1.up HB9.out, HRR.out.2.up HB9.out, HS9.out, HT9.out, HV19.out, HV29.out⟩
  clear HB9 HC9 HD9 HV19 HV29 HS9 HX9 HT9 HY9
  have gb : w9.cell? ⟨w.heap.size, 5, none⟩ = some (.int .i64 b) := HK9.out.2.1.cell 5 (by simp)
  rw [hw9] at gb
  by_cases hb1 : 1 ≤ b
  · by_cases hb2 : b ≤ 64
    · go_wp2_with fail
      rw [← hw9, hB4] at *
      refine (kmany_is b w9 hb1 hb2).mono ?_
      rintro r w10 ⟨rfl, hb⟩
      have HKT := Lib.hid (HK9.out.up hb)
      clear hb gb HK9
      go_wp2_with fail
      refine (rmany_is b w10 (by omega) (by omega)).mono ?_
      rintro r w' ⟨rfl, rfl⟩
      obtain ⟨mc, hmc⟩ : ∃ mc, manyC b = mc := ⟨_, rfl⟩
      rw [hmc]
      clear hmc
      go_wp2_with fail
      refine wp_region_in (KeptT w B3 B4 (kList nu se sq z p b (.slice A n cc)) (kList nu2 se2 sq2 z2 p2 b2 (.slice A2 n2 cc2)) (kList r0 r1 r2 r3 r4 r5 (.slice A3 k c3)) (kList r0 r1 r2 r3 r4 r5 (.slice A4 k c4)) A A2 A3 A4 dir dir2 dirR v1 v2 L1) (KeptT.up HKT.out (Below.refl _ _).drew) (by kernel_rfl) (by kernel_rfl) (fun ne => ?_)
      have a0 : ∀ q : In (KeptT w B3 B4 (kList nu se sq z p b (.slice A n cc)) (kList nu2 se2 sq2 z2 p2 b2 (.slice A2 n2 cc2)) (kList r0 r1 r2 r3 r4 r5 (.slice A3 k c3)) (kList r0 r1 r2 r3 r4 r5 (.slice A4 k c4)) A A2 A3 A4 dir dir2 dirR v1 v2 L1), q.w.cell? ⟨w.heap.size, 0, none⟩ = some (.int .u32 nu) := fun q => q.ok.2.1.cell 0 (by simp)
      have a1 : ∀ q : In (KeptT w B3 B4 (kList nu se sq z p b (.slice A n cc)) (kList nu2 se2 sq2 z2 p2 b2 (.slice A2 n2 cc2)) (kList r0 r1 r2 r3 r4 r5 (.slice A3 k c3)) (kList r0 r1 r2 r3 r4 r5 (.slice A4 k c4)) A A2 A3 A4 dir dir2 dirR v1 v2 L1), q.w.cell? ⟨w.heap.size, 1, none⟩ = some (.int .u32 se) := fun q => q.ok.2.1.cell 1 (by simp)
      have a2 : ∀ q : In (KeptT w B3 B4 (kList nu se sq z p b (.slice A n cc)) (kList nu2 se2 sq2 z2 p2 b2 (.slice A2 n2 cc2)) (kList r0 r1 r2 r3 r4 r5 (.slice A3 k c3)) (kList r0 r1 r2 r3 r4 r5 (.slice A4 k c4)) A A2 A3 A4 dir dir2 dirR v1 v2 L1), q.w.cell? ⟨w.heap.size, 2, none⟩ = some (.int .u32 sq) := fun q => q.ok.2.1.cell 2 (by simp)
      have a3 : ∀ q : In (KeptT w B3 B4 (kList nu se sq z p b (.slice A n cc)) (kList nu2 se2 sq2 z2 p2 b2 (.slice A2 n2 cc2)) (kList r0 r1 r2 r3 r4 r5 (.slice A3 k c3)) (kList r0 r1 r2 r3 r4 r5 (.slice A4 k c4)) A A2 A3 A4 dir dir2 dirR v1 v2 L1), q.w.cell? ⟨w.heap.size, 3, none⟩ = some (.int .i64 z) := fun q => q.ok.2.1.cell 3 (by simp)
      have a4 : ∀ q : In (KeptT w B3 B4 (kList nu se sq z p b (.slice A n cc)) (kList nu2 se2 sq2 z2 p2 b2 (.slice A2 n2 cc2)) (kList r0 r1 r2 r3 r4 r5 (.slice A3 k c3)) (kList r0 r1 r2 r3 r4 r5 (.slice A4 k c4)) A A2 A3 A4 dir dir2 dirR v1 v2 L1), q.w.cell? ⟨w.heap.size, 4, none⟩ = some (.int .i64 p) := fun q => q.ok.2.1.cell 4 (by simp)
      have a5 : ∀ q : In (KeptT w B3 B4 (kList nu se sq z p b (.slice A n cc)) (kList nu2 se2 sq2 z2 p2 b2 (.slice A2 n2 cc2)) (kList r0 r1 r2 r3 r4 r5 (.slice A3 k c3)) (kList r0 r1 r2 r3 r4 r5 (.slice A4 k c4)) A A2 A3 A4 dir dir2 dirR v1 v2 L1), q.w.cell? ⟨w.heap.size, 5, none⟩ = some (.int .i64 b) := fun q => q.ok.2.1.cell 5 (by simp)
      have a6 : ∀ q : In (KeptT w B3 B4 (kList nu se sq z p b (.slice A n cc)) (kList nu2 se2 sq2 z2 p2 b2 (.slice A2 n2 cc2)) (kList r0 r1 r2 r3 r4 r5 (.slice A3 k c3)) (kList r0 r1 r2 r3 r4 r5 (.slice A4 k c4)) A A2 A3 A4 dir dir2 dirR v1 v2 L1), q.w.cell? ⟨w.heap.size, 6, none⟩ = some (.slice A n cc) := fun q => q.ok.2.1.cell 6 (by simp)
      have d0 : ∀ q : In (KeptT w B3 B4 (kList nu se sq z p b (.slice A n cc)) (kList nu2 se2 sq2 z2 p2 b2 (.slice A2 n2 cc2)) (kList r0 r1 r2 r3 r4 r5 (.slice A3 k c3)) (kList r0 r1 r2 r3 r4 r5 (.slice A4 k c4)) A A2 A3 A4 dir dir2 dirR v1 v2 L1), q.w.cell? ⟨w.heap.size + 1, 0, none⟩ = some (.int .u32 nu2) := fun q => q.ok.2.2.1.cell 0 (by simp)
      have d1 : ∀ q : In (KeptT w B3 B4 (kList nu se sq z p b (.slice A n cc)) (kList nu2 se2 sq2 z2 p2 b2 (.slice A2 n2 cc2)) (kList r0 r1 r2 r3 r4 r5 (.slice A3 k c3)) (kList r0 r1 r2 r3 r4 r5 (.slice A4 k c4)) A A2 A3 A4 dir dir2 dirR v1 v2 L1), q.w.cell? ⟨w.heap.size + 1, 1, none⟩ = some (.int .u32 se2) := fun q => q.ok.2.2.1.cell 1 (by simp)
      have d2 : ∀ q : In (KeptT w B3 B4 (kList nu se sq z p b (.slice A n cc)) (kList nu2 se2 sq2 z2 p2 b2 (.slice A2 n2 cc2)) (kList r0 r1 r2 r3 r4 r5 (.slice A3 k c3)) (kList r0 r1 r2 r3 r4 r5 (.slice A4 k c4)) A A2 A3 A4 dir dir2 dirR v1 v2 L1), q.w.cell? ⟨w.heap.size + 1, 2, none⟩ = some (.int .u32 sq2) := fun q => q.ok.2.2.1.cell 2 (by simp)
      have d3 : ∀ q : In (KeptT w B3 B4 (kList nu se sq z p b (.slice A n cc)) (kList nu2 se2 sq2 z2 p2 b2 (.slice A2 n2 cc2)) (kList r0 r1 r2 r3 r4 r5 (.slice A3 k c3)) (kList r0 r1 r2 r3 r4 r5 (.slice A4 k c4)) A A2 A3 A4 dir dir2 dirR v1 v2 L1), q.w.cell? ⟨w.heap.size + 1, 3, none⟩ = some (.int .i64 z2) := fun q => q.ok.2.2.1.cell 3 (by simp)
      have d4 : ∀ q : In (KeptT w B3 B4 (kList nu se sq z p b (.slice A n cc)) (kList nu2 se2 sq2 z2 p2 b2 (.slice A2 n2 cc2)) (kList r0 r1 r2 r3 r4 r5 (.slice A3 k c3)) (kList r0 r1 r2 r3 r4 r5 (.slice A4 k c4)) A A2 A3 A4 dir dir2 dirR v1 v2 L1), q.w.cell? ⟨w.heap.size + 1, 4, none⟩ = some (.int .i64 p2) := fun q => q.ok.2.2.1.cell 4 (by simp)
      have d5 : ∀ q : In (KeptT w B3 B4 (kList nu se sq z p b (.slice A n cc)) (kList nu2 se2 sq2 z2 p2 b2 (.slice A2 n2 cc2)) (kList r0 r1 r2 r3 r4 r5 (.slice A3 k c3)) (kList r0 r1 r2 r3 r4 r5 (.slice A4 k c4)) A A2 A3 A4 dir dir2 dirR v1 v2 L1), q.w.cell? ⟨w.heap.size + 1, 5, none⟩ = some (.int .i64 b2) := fun q => q.ok.2.2.1.cell 5 (by simp)
      have d6 : ∀ q : In (KeptT w B3 B4 (kList nu se sq z p b (.slice A n cc)) (kList nu2 se2 sq2 z2 p2 b2 (.slice A2 n2 cc2)) (kList r0 r1 r2 r3 r4 r5 (.slice A3 k c3)) (kList r0 r1 r2 r3 r4 r5 (.slice A4 k c4)) A A2 A3 A4 dir dir2 dirR v1 v2 L1), q.w.cell? ⟨w.heap.size + 1, 6, none⟩ = some (.slice A2 n2 cc2) := fun q => q.ok.2.2.1.cell 6 (by simp)
      have x0 : ∀ q : In (KeptT w B3 B4 (kList nu se sq z p b (.slice A n cc)) (kList nu2 se2 sq2 z2 p2 b2 (.slice A2 n2 cc2)) (kList r0 r1 r2 r3 r4 r5 (.slice A3 k c3)) (kList r0 r1 r2 r3 r4 r5 (.slice A4 k c4)) A A2 A3 A4 dir dir2 dirR v1 v2 L1), q.w.cell? ⟨B3, 0, none⟩ = some (.int .u32 r0) := fun q => q.ok.2.2.2.1.cell 0 (by simp)
      have x1 : ∀ q : In (KeptT w B3 B4 (kList nu se sq z p b (.slice A n cc)) (kList nu2 se2 sq2 z2 p2 b2 (.slice A2 n2 cc2)) (kList r0 r1 r2 r3 r4 r5 (.slice A3 k c3)) (kList r0 r1 r2 r3 r4 r5 (.slice A4 k c4)) A A2 A3 A4 dir dir2 dirR v1 v2 L1), q.w.cell? ⟨B3, 1, none⟩ = some (.int .u32 r1) := fun q => q.ok.2.2.2.1.cell 1 (by simp)
      have x2 : ∀ q : In (KeptT w B3 B4 (kList nu se sq z p b (.slice A n cc)) (kList nu2 se2 sq2 z2 p2 b2 (.slice A2 n2 cc2)) (kList r0 r1 r2 r3 r4 r5 (.slice A3 k c3)) (kList r0 r1 r2 r3 r4 r5 (.slice A4 k c4)) A A2 A3 A4 dir dir2 dirR v1 v2 L1), q.w.cell? ⟨B3, 2, none⟩ = some (.int .u32 r2) := fun q => q.ok.2.2.2.1.cell 2 (by simp)
      have x3 : ∀ q : In (KeptT w B3 B4 (kList nu se sq z p b (.slice A n cc)) (kList nu2 se2 sq2 z2 p2 b2 (.slice A2 n2 cc2)) (kList r0 r1 r2 r3 r4 r5 (.slice A3 k c3)) (kList r0 r1 r2 r3 r4 r5 (.slice A4 k c4)) A A2 A3 A4 dir dir2 dirR v1 v2 L1), q.w.cell? ⟨B3, 3, none⟩ = some (.int .i64 r3) := fun q => q.ok.2.2.2.1.cell 3 (by simp)
      have x4 : ∀ q : In (KeptT w B3 B4 (kList nu se sq z p b (.slice A n cc)) (kList nu2 se2 sq2 z2 p2 b2 (.slice A2 n2 cc2)) (kList r0 r1 r2 r3 r4 r5 (.slice A3 k c3)) (kList r0 r1 r2 r3 r4 r5 (.slice A4 k c4)) A A2 A3 A4 dir dir2 dirR v1 v2 L1), q.w.cell? ⟨B3, 4, none⟩ = some (.int .i64 r4) := fun q => q.ok.2.2.2.1.cell 4 (by simp)
      have x5 : ∀ q : In (KeptT w B3 B4 (kList nu se sq z p b (.slice A n cc)) (kList nu2 se2 sq2 z2 p2 b2 (.slice A2 n2 cc2)) (kList r0 r1 r2 r3 r4 r5 (.slice A3 k c3)) (kList r0 r1 r2 r3 r4 r5 (.slice A4 k c4)) A A2 A3 A4 dir dir2 dirR v1 v2 L1), q.w.cell? ⟨B3, 5, none⟩ = some (.int .i64 r5) := fun q => q.ok.2.2.2.1.cell 5 (by simp)
      have x6 : ∀ q : In (KeptT w B3 B4 (kList nu se sq z p b (.slice A n cc)) (kList nu2 se2 sq2 z2 p2 b2 (.slice A2 n2 cc2)) (kList r0 r1 r2 r3 r4 r5 (.slice A3 k c3)) (kList r0 r1 r2 r3 r4 r5 (.slice A4 k c4)) A A2 A3 A4 dir dir2 dirR v1 v2 L1), q.w.cell? ⟨B3, 6, none⟩ = some (.slice A3 k c3) := fun q => q.ok.2.2.2.1.cell 6 (by simp)
      have y0 : ∀ q : In (KeptT w B3 B4 (kList nu se sq z p b (.slice A n cc)) (kList nu2 se2 sq2 z2 p2 b2 (.slice A2 n2 cc2)) (kList r0 r1 r2 r3 r4 r5 (.slice A3 k c3)) (kList r0 r1 r2 r3 r4 r5 (.slice A4 k c4)) A A2 A3 A4 dir dir2 dirR v1 v2 L1), q.w.cell? ⟨B4, 0, none⟩ = some (.int .u32 r0) := fun q => q.ok.2.2.2.2.1.cell 0 (by simp)
      have y1 : ∀ q : In (KeptT w B3 B4 (kList nu se sq z p b (.slice A n cc)) (kList nu2 se2 sq2 z2 p2 b2 (.slice A2 n2 cc2)) (kList r0 r1 r2 r3 r4 r5 (.slice A3 k c3)) (kList r0 r1 r2 r3 r4 r5 (.slice A4 k c4)) A A2 A3 A4 dir dir2 dirR v1 v2 L1), q.w.cell? ⟨B4, 1, none⟩ = some (.int .u32 r1) := fun q => q.ok.2.2.2.2.1.cell 1 (by simp)
      have y2 : ∀ q : In (KeptT w B3 B4 (kList nu se sq z p b (.slice A n cc)) (kList nu2 se2 sq2 z2 p2 b2 (.slice A2 n2 cc2)) (kList r0 r1 r2 r3 r4 r5 (.slice A3 k c3)) (kList r0 r1 r2 r3 r4 r5 (.slice A4 k c4)) A A2 A3 A4 dir dir2 dirR v1 v2 L1), q.w.cell? ⟨B4, 2, none⟩ = some (.int .u32 r2) := fun q => q.ok.2.2.2.2.1.cell 2 (by simp)
      have y3 : ∀ q : In (KeptT w B3 B4 (kList nu se sq z p b (.slice A n cc)) (kList nu2 se2 sq2 z2 p2 b2 (.slice A2 n2 cc2)) (kList r0 r1 r2 r3 r4 r5 (.slice A3 k c3)) (kList r0 r1 r2 r3 r4 r5 (.slice A4 k c4)) A A2 A3 A4 dir dir2 dirR v1 v2 L1), q.w.cell? ⟨B4, 3, none⟩ = some (.int .i64 r3) := fun q => q.ok.2.2.2.2.1.cell 3 (by simp)
      have y4 : ∀ q : In (KeptT w B3 B4 (kList nu se sq z p b (.slice A n cc)) (kList nu2 se2 sq2 z2 p2 b2 (.slice A2 n2 cc2)) (kList r0 r1 r2 r3 r4 r5 (.slice A3 k c3)) (kList r0 r1 r2 r3 r4 r5 (.slice A4 k c4)) A A2 A3 A4 dir dir2 dirR v1 v2 L1), q.w.cell? ⟨B4, 4, none⟩ = some (.int .i64 r4) := fun q => q.ok.2.2.2.2.1.cell 4 (by simp)
      have y5 : ∀ q : In (KeptT w B3 B4 (kList nu se sq z p b (.slice A n cc)) (kList nu2 se2 sq2 z2 p2 b2 (.slice A2 n2 cc2)) (kList r0 r1 r2 r3 r4 r5 (.slice A3 k c3)) (kList r0 r1 r2 r3 r4 r5 (.slice A4 k c4)) A A2 A3 A4 dir dir2 dirR v1 v2 L1), q.w.cell? ⟨B4, 5, none⟩ = some (.int .i64 r5) := fun q => q.ok.2.2.2.2.1.cell 5 (by simp)
      have y6 : ∀ q : In (KeptT w B3 B4 (kList nu se sq z p b (.slice A n cc)) (kList nu2 se2 sq2 z2 p2 b2 (.slice A2 n2 cc2)) (kList r0 r1 r2 r3 r4 r5 (.slice A3 k c3)) (kList r0 r1 r2 r3 r4 r5 (.slice A4 k c4)) A A2 A3 A4 dir dir2 dirR v1 v2 L1), q.w.cell? ⟨B4, 6, none⟩ = some (.slice A4 k c4) := fun q => q.ok.2.2.2.2.1.cell 6 (by simp)
      have sX : ∀ q : In (KeptT w B3 B4 (kList nu se sq z p b (.slice A n cc)) (kList nu2 se2 sq2 z2 p2 b2 (.slice A2 n2 cc2)) (kList r0 r1 r2 r3 r4 r5 (.slice A3 k c3)) (kList r0 r1 r2 r3 r4 r5 (.slice A4 k c4)) A A2 A3 A4 dir dir2 dirR v1 v2 L1), Calls Tryd.prog 16 #[v1, v2] q.w (BoolB true q.w) := fun q => by have := rows_same q.ok.2.2.2.2.2.2.2.2.2.1 q.ok.2.2.2.2.2.2.2.2.2.2 (by have := HBL.out.1; omega) HBL.out.2; rwa [decide_eq_true (rfl : L1 = L1)] at this
      have cE1 : ∀ q : In (KeptT w B3 B4 (kList nu se sq z p b (.slice A n cc)) (kList nu2 se2 sq2 z2 p2 b2 (.slice A2 n2 cc2)) (kList r0 r1 r2 r3 r4 r5 (.slice A3 k c3)) (kList r0 r1 r2 r3 r4 r5 (.slice A4 k c4)) A A2 A3 A4 dir dir2 dirR v1 v2 L1), Calls Tryd.prog 17 #[errV E1] q.w (CodeIs q.w E1) := fun q => code_is E1 (HG.out.below q.ok.1)
      have cE2 : ∀ q : In (KeptT w B3 B4 (kList nu se sq z p b (.slice A n cc)) (kList nu2 se2 sq2 z2 p2 b2 (.slice A2 n2 cc2)) (kList r0 r1 r2 r3 r4 r5 (.slice A3 k c3)) (kList r0 r1 r2 r3 r4 r5 (.slice A4 k c4)) A A2 A3 A4 dir dir2 dirR v1 v2 L1), Calls Tryd.prog 17 #[errV E2] q.w (CodeIs q.w E2) := fun q => code_is E2 (HG.out.below q.ok.1)
      have ow1 := fun q : In (KeptT w B3 B4 (kList nu se sq z p b (.slice A n cc)) (kList nu2 se2 sq2 z2 p2 b2 (.slice A2 n2 cc2)) (kList r0 r1 r2 r3 r4 r5 (.slice A3 k c3)) (kList r0 r1 r2 r3 r4 r5 (.slice A4 k c4)) A A2 A3 A4 dir dir2 dirR v1 v2 L1) => own_is nu se sq z p b A n cc q.w
      have ow2 := fun q : In (KeptT w B3 B4 (kList nu se sq z p b (.slice A n cc)) (kList nu2 se2 sq2 z2 p2 b2 (.slice A2 n2 cc2)) (kList r0 r1 r2 r3 r4 r5 (.slice A3 k c3)) (kList r0 r1 r2 r3 r4 r5 (.slice A4 k c4)) A A2 A3 A4 dir dir2 dirR v1 v2 L1) => own_is nu2 se2 sq2 z2 p2 b2 A2 n2 cc2 q.w
      have ow3 := fun q : In (KeptT w B3 B4 (kList nu se sq z p b (.slice A n cc)) (kList nu2 se2 sq2 z2 p2 b2 (.slice A2 n2 cc2)) (kList r0 r1 r2 r3 r4 r5 (.slice A3 k c3)) (kList r0 r1 r2 r3 r4 r5 (.slice A4 k c4)) A A2 A3 A4 dir dir2 dirR v1 v2 L1) => own_is r0 r1 r2 r3 r4 r5 A3 k c3 q.w
      have sR : ∀ q : In (KeptT w B3 B4 (kList nu se sq z p b (.slice A n cc)) (kList nu2 se2 sq2 z2 p2 b2 (.slice A2 n2 cc2)) (kList r0 r1 r2 r3 r4 r5 (.slice A3 k c3)) (kList r0 r1 r2 r3 r4 r5 (.slice A4 k c4)) A A2 A3 A4 dir dir2 dirR v1 v2 L1), Calls Tryd.prog 18 #[kV r0 r1 r2 r3 r4 r5 (.slice A3 k c3), kV r0 r1 r2 r3 r4 r5 (.slice A4 k c4)] q.w (BoolB true q.w) := fun q => by have := rksame_is (c := c3) (c2 := c4) r0 r1 r2 r3 r4 r5 r0 r1 r2 r3 r4 r5 q.ok.2.2.2.2.2.2.2.1 q.ok.2.2.2.2.2.2.2.2.1 HKL.out HKL.out (by omega); rwa [sameC_self] at this
      have sK := fun q : In (KeptT w B3 B4 (kList nu se sq z p b (.slice A n cc)) (kList nu2 se2 sq2 z2 p2 b2 (.slice A2 n2 cc2)) (kList r0 r1 r2 r3 r4 r5 (.slice A3 k c3)) (kList r0 r1 r2 r3 r4 r5 (.slice A4 k c4)) A A2 A3 A4 dir dir2 dirR v1 v2 L1) => ksame_is (c := cc) (c2 := cc2) nu se sq z p b nu2 se2 sq2 z2 p2 b2 q.ok.2.2.2.2.2.1 q.ok.2.2.2.2.2.2.1 HL.out HL2.out (by omega) (by omega)
      have sN := fun q : In (KeptT w B3 B4 (kList nu se sq z p b (.slice A n cc)) (kList nu2 se2 sq2 z2 p2 b2 (.slice A2 n2 cc2)) (kList r0 r1 r2 r3 r4 r5 (.slice A3 k c3)) (kList r0 r1 r2 r3 r4 r5 (.slice A4 k c4)) A A2 A3 A4 dir dir2 dirR v1 v2 L1) => rksame_is (c := cc) (c2 := cc2) nu se sq z p b nu2 se2 sq2 z2 p2 b2 q.ok.2.2.2.2.2.1 q.ok.2.2.2.2.2.2.1 HL.out HL2.out (by omega)
      have rK := fun q : In (KeptT w B3 B4 (kList nu se sq z p b (.slice A n cc)) (kList nu2 se2 sq2 z2 p2 b2 (.slice A2 n2 cc2)) (kList r0 r1 r2 r3 r4 r5 (.slice A3 k c3)) (kList r0 r1 r2 r3 r4 r5 (.slice A4 k c4)) A A2 A3 A4 dir dir2 dirR v1 v2 L1) => kright_is nu se sq z p b A n cc q.w HWD.out.1 HWD.out.2.1 HWD.out.2.2
      have rN := fun q : In (KeptT w B3 B4 (kList nu se sq z p b (.slice A n cc)) (kList nu2 se2 sq2 z2 p2 b2 (.slice A2 n2 cc2)) (kList r0 r1 r2 r3 r4 r5 (.slice A3 k c3)) (kList r0 r1 r2 r3 r4 r5 (.slice A4 k c4)) A A2 A3 A4 dir dir2 dirR v1 v2 L1) => rkright_is nu se sq z p b A n cc q.w
      obtain ⟨t, ht⟩ : ∃ t, rightC z p b n = t := ⟨_, rfl⟩
      rw [ht] at rK rN
      obtain ⟨t2, ht2⟩ : ∃ t2, sameC nu se sq z p b dir nu2 se2 sq2 z2 p2 b2 dir2 = t2 := ⟨_, rfl⟩
      rw [ht2] at sK sN
      clear ht ht2
      have q1 : (E1 == E1) = true := by simp
      have q2 : (E2 == E2) = true := by simp
      have q3 : (t == t) = true := by simp
      have q4 : (t2 == t2) = true := by simp
      repeat (go_big_quiet_step (first
        | (go_at_call 16; with_reducible exact In.more KeptT.up (sX _))
        | (go_at_call 17; with_reducible exact In.more KeptT.up (cE1 _))
        | (go_at_call 17; with_reducible exact In.more KeptT.up (cE2 _))
        | (go_at_call 11; with_reducible exact In.more KeptT.up (ow1 _))
        | (go_at_call 11; with_reducible exact In.more KeptT.up (ow2 _))
        | (go_at_call 11; with_reducible exact In.more KeptT.up (ow3 _))
        | (go_at_call 18; with_reducible exact In.more KeptT.up (sR _))
        | (go_at_call 18; with_reducible exact In.more KeptT.up (sN _))
        | (go_at_call 21; with_reducible exact In.more KeptT.up (sK _))
        | (go_at_call 19; with_reducible exact In.more KeptT.up (rK _))
        | (go_at_call 20; with_reducible exact In.more KeptT.up (rN _))))
      refine wpQuiet_nil ?_
      intro nq
      have HBN := Lib.hid nq.ok.1
      clear a0 a1 a2 a3 a4 a5 a6 d0 d1 d2 d3 d4 d5 d6 x0 x1 x2 x3 x4 x5 x6 y0 y1 y2 y3 y4 y5 y6 sX cE1 cE2 ow1 ow2 ow3 sR sK sN rK rN
      go_wp2_with fail
      go_ret
      exact ⟨rfl, HBN.out⟩
    · go_wp2_with fail
      rw [← hw9, hB4] at *
      have HKT := Lib.hid HK9.out
      clear gb HK9
      refine wp_region_in (KeptT w B3 B4 (kList nu se sq z p b (.slice A n cc)) (kList nu2 se2 sq2 z2 p2 b2 (.slice A2 n2 cc2)) (kList r0 r1 r2 r3 r4 r5 (.slice A3 k c3)) (kList r0 r1 r2 r3 r4 r5 (.slice A4 k c4)) A A2 A3 A4 dir dir2 dirR v1 v2 L1) (KeptT.up HKT.out (Below.refl _ _).drew) (by kernel_rfl) (by kernel_rfl) (fun ne => ?_)
      have a0 : ∀ q : In (KeptT w B3 B4 (kList nu se sq z p b (.slice A n cc)) (kList nu2 se2 sq2 z2 p2 b2 (.slice A2 n2 cc2)) (kList r0 r1 r2 r3 r4 r5 (.slice A3 k c3)) (kList r0 r1 r2 r3 r4 r5 (.slice A4 k c4)) A A2 A3 A4 dir dir2 dirR v1 v2 L1), q.w.cell? ⟨w.heap.size, 0, none⟩ = some (.int .u32 nu) := fun q => q.ok.2.1.cell 0 (by simp)
      have a1 : ∀ q : In (KeptT w B3 B4 (kList nu se sq z p b (.slice A n cc)) (kList nu2 se2 sq2 z2 p2 b2 (.slice A2 n2 cc2)) (kList r0 r1 r2 r3 r4 r5 (.slice A3 k c3)) (kList r0 r1 r2 r3 r4 r5 (.slice A4 k c4)) A A2 A3 A4 dir dir2 dirR v1 v2 L1), q.w.cell? ⟨w.heap.size, 1, none⟩ = some (.int .u32 se) := fun q => q.ok.2.1.cell 1 (by simp)
      have a2 : ∀ q : In (KeptT w B3 B4 (kList nu se sq z p b (.slice A n cc)) (kList nu2 se2 sq2 z2 p2 b2 (.slice A2 n2 cc2)) (kList r0 r1 r2 r3 r4 r5 (.slice A3 k c3)) (kList r0 r1 r2 r3 r4 r5 (.slice A4 k c4)) A A2 A3 A4 dir dir2 dirR v1 v2 L1), q.w.cell? ⟨w.heap.size, 2, none⟩ = some (.int .u32 sq) := fun q => q.ok.2.1.cell 2 (by simp)
      have a3 : ∀ q : In (KeptT w B3 B4 (kList nu se sq z p b (.slice A n cc)) (kList nu2 se2 sq2 z2 p2 b2 (.slice A2 n2 cc2)) (kList r0 r1 r2 r3 r4 r5 (.slice A3 k c3)) (kList r0 r1 r2 r3 r4 r5 (.slice A4 k c4)) A A2 A3 A4 dir dir2 dirR v1 v2 L1), q.w.cell? ⟨w.heap.size, 3, none⟩ = some (.int .i64 z) := fun q => q.ok.2.1.cell 3 (by simp)
      have a4 : ∀ q : In (KeptT w B3 B4 (kList nu se sq z p b (.slice A n cc)) (kList nu2 se2 sq2 z2 p2 b2 (.slice A2 n2 cc2)) (kList r0 r1 r2 r3 r4 r5 (.slice A3 k c3)) (kList r0 r1 r2 r3 r4 r5 (.slice A4 k c4)) A A2 A3 A4 dir dir2 dirR v1 v2 L1), q.w.cell? ⟨w.heap.size, 4, none⟩ = some (.int .i64 p) := fun q => q.ok.2.1.cell 4 (by simp)
      have a5 : ∀ q : In (KeptT w B3 B4 (kList nu se sq z p b (.slice A n cc)) (kList nu2 se2 sq2 z2 p2 b2 (.slice A2 n2 cc2)) (kList r0 r1 r2 r3 r4 r5 (.slice A3 k c3)) (kList r0 r1 r2 r3 r4 r5 (.slice A4 k c4)) A A2 A3 A4 dir dir2 dirR v1 v2 L1), q.w.cell? ⟨w.heap.size, 5, none⟩ = some (.int .i64 b) := fun q => q.ok.2.1.cell 5 (by simp)
      have a6 : ∀ q : In (KeptT w B3 B4 (kList nu se sq z p b (.slice A n cc)) (kList nu2 se2 sq2 z2 p2 b2 (.slice A2 n2 cc2)) (kList r0 r1 r2 r3 r4 r5 (.slice A3 k c3)) (kList r0 r1 r2 r3 r4 r5 (.slice A4 k c4)) A A2 A3 A4 dir dir2 dirR v1 v2 L1), q.w.cell? ⟨w.heap.size, 6, none⟩ = some (.slice A n cc) := fun q => q.ok.2.1.cell 6 (by simp)
      have d0 : ∀ q : In (KeptT w B3 B4 (kList nu se sq z p b (.slice A n cc)) (kList nu2 se2 sq2 z2 p2 b2 (.slice A2 n2 cc2)) (kList r0 r1 r2 r3 r4 r5 (.slice A3 k c3)) (kList r0 r1 r2 r3 r4 r5 (.slice A4 k c4)) A A2 A3 A4 dir dir2 dirR v1 v2 L1), q.w.cell? ⟨w.heap.size + 1, 0, none⟩ = some (.int .u32 nu2) := fun q => q.ok.2.2.1.cell 0 (by simp)
      have d1 : ∀ q : In (KeptT w B3 B4 (kList nu se sq z p b (.slice A n cc)) (kList nu2 se2 sq2 z2 p2 b2 (.slice A2 n2 cc2)) (kList r0 r1 r2 r3 r4 r5 (.slice A3 k c3)) (kList r0 r1 r2 r3 r4 r5 (.slice A4 k c4)) A A2 A3 A4 dir dir2 dirR v1 v2 L1), q.w.cell? ⟨w.heap.size + 1, 1, none⟩ = some (.int .u32 se2) := fun q => q.ok.2.2.1.cell 1 (by simp)
      have d2 : ∀ q : In (KeptT w B3 B4 (kList nu se sq z p b (.slice A n cc)) (kList nu2 se2 sq2 z2 p2 b2 (.slice A2 n2 cc2)) (kList r0 r1 r2 r3 r4 r5 (.slice A3 k c3)) (kList r0 r1 r2 r3 r4 r5 (.slice A4 k c4)) A A2 A3 A4 dir dir2 dirR v1 v2 L1), q.w.cell? ⟨w.heap.size + 1, 2, none⟩ = some (.int .u32 sq2) := fun q => q.ok.2.2.1.cell 2 (by simp)
      have d3 : ∀ q : In (KeptT w B3 B4 (kList nu se sq z p b (.slice A n cc)) (kList nu2 se2 sq2 z2 p2 b2 (.slice A2 n2 cc2)) (kList r0 r1 r2 r3 r4 r5 (.slice A3 k c3)) (kList r0 r1 r2 r3 r4 r5 (.slice A4 k c4)) A A2 A3 A4 dir dir2 dirR v1 v2 L1), q.w.cell? ⟨w.heap.size + 1, 3, none⟩ = some (.int .i64 z2) := fun q => q.ok.2.2.1.cell 3 (by simp)
      have d4 : ∀ q : In (KeptT w B3 B4 (kList nu se sq z p b (.slice A n cc)) (kList nu2 se2 sq2 z2 p2 b2 (.slice A2 n2 cc2)) (kList r0 r1 r2 r3 r4 r5 (.slice A3 k c3)) (kList r0 r1 r2 r3 r4 r5 (.slice A4 k c4)) A A2 A3 A4 dir dir2 dirR v1 v2 L1), q.w.cell? ⟨w.heap.size + 1, 4, none⟩ = some (.int .i64 p2) := fun q => q.ok.2.2.1.cell 4 (by simp)
      have d5 : ∀ q : In (KeptT w B3 B4 (kList nu se sq z p b (.slice A n cc)) (kList nu2 se2 sq2 z2 p2 b2 (.slice A2 n2 cc2)) (kList r0 r1 r2 r3 r4 r5 (.slice A3 k c3)) (kList r0 r1 r2 r3 r4 r5 (.slice A4 k c4)) A A2 A3 A4 dir dir2 dirR v1 v2 L1), q.w.cell? ⟨w.heap.size + 1, 5, none⟩ = some (.int .i64 b2) := fun q => q.ok.2.2.1.cell 5 (by simp)
      have d6 : ∀ q : In (KeptT w B3 B4 (kList nu se sq z p b (.slice A n cc)) (kList nu2 se2 sq2 z2 p2 b2 (.slice A2 n2 cc2)) (kList r0 r1 r2 r3 r4 r5 (.slice A3 k c3)) (kList r0 r1 r2 r3 r4 r5 (.slice A4 k c4)) A A2 A3 A4 dir dir2 dirR v1 v2 L1), q.w.cell? ⟨w.heap.size + 1, 6, none⟩ = some (.slice A2 n2 cc2) := fun q => q.ok.2.2.1.cell 6 (by simp)
      have x0 : ∀ q : In (KeptT w B3 B4 (kList nu se sq z p b (.slice A n cc)) (kList nu2 se2 sq2 z2 p2 b2 (.slice A2 n2 cc2)) (kList r0 r1 r2 r3 r4 r5 (.slice A3 k c3)) (kList r0 r1 r2 r3 r4 r5 (.slice A4 k c4)) A A2 A3 A4 dir dir2 dirR v1 v2 L1), q.w.cell? ⟨B3, 0, none⟩ = some (.int .u32 r0) := fun q => q.ok.2.2.2.1.cell 0 (by simp)
      have x1 : ∀ q : In (KeptT w B3 B4 (kList nu se sq z p b (.slice A n cc)) (kList nu2 se2 sq2 z2 p2 b2 (.slice A2 n2 cc2)) (kList r0 r1 r2 r3 r4 r5 (.slice A3 k c3)) (kList r0 r1 r2 r3 r4 r5 (.slice A4 k c4)) A A2 A3 A4 dir dir2 dirR v1 v2 L1), q.w.cell? ⟨B3, 1, none⟩ = some (.int .u32 r1) := fun q => q.ok.2.2.2.1.cell 1 (by simp)
      have x2 : ∀ q : In (KeptT w B3 B4 (kList nu se sq z p b (.slice A n cc)) (kList nu2 se2 sq2 z2 p2 b2 (.slice A2 n2 cc2)) (kList r0 r1 r2 r3 r4 r5 (.slice A3 k c3)) (kList r0 r1 r2 r3 r4 r5 (.slice A4 k c4)) A A2 A3 A4 dir dir2 dirR v1 v2 L1), q.w.cell? ⟨B3, 2, none⟩ = some (.int .u32 r2) := fun q => q.ok.2.2.2.1.cell 2 (by simp)
      have x3 : ∀ q : In (KeptT w B3 B4 (kList nu se sq z p b (.slice A n cc)) (kList nu2 se2 sq2 z2 p2 b2 (.slice A2 n2 cc2)) (kList r0 r1 r2 r3 r4 r5 (.slice A3 k c3)) (kList r0 r1 r2 r3 r4 r5 (.slice A4 k c4)) A A2 A3 A4 dir dir2 dirR v1 v2 L1), q.w.cell? ⟨B3, 3, none⟩ = some (.int .i64 r3) := fun q => q.ok.2.2.2.1.cell 3 (by simp)
      have x4 : ∀ q : In (KeptT w B3 B4 (kList nu se sq z p b (.slice A n cc)) (kList nu2 se2 sq2 z2 p2 b2 (.slice A2 n2 cc2)) (kList r0 r1 r2 r3 r4 r5 (.slice A3 k c3)) (kList r0 r1 r2 r3 r4 r5 (.slice A4 k c4)) A A2 A3 A4 dir dir2 dirR v1 v2 L1), q.w.cell? ⟨B3, 4, none⟩ = some (.int .i64 r4) := fun q => q.ok.2.2.2.1.cell 4 (by simp)
      have x5 : ∀ q : In (KeptT w B3 B4 (kList nu se sq z p b (.slice A n cc)) (kList nu2 se2 sq2 z2 p2 b2 (.slice A2 n2 cc2)) (kList r0 r1 r2 r3 r4 r5 (.slice A3 k c3)) (kList r0 r1 r2 r3 r4 r5 (.slice A4 k c4)) A A2 A3 A4 dir dir2 dirR v1 v2 L1), q.w.cell? ⟨B3, 5, none⟩ = some (.int .i64 r5) := fun q => q.ok.2.2.2.1.cell 5 (by simp)
      have x6 : ∀ q : In (KeptT w B3 B4 (kList nu se sq z p b (.slice A n cc)) (kList nu2 se2 sq2 z2 p2 b2 (.slice A2 n2 cc2)) (kList r0 r1 r2 r3 r4 r5 (.slice A3 k c3)) (kList r0 r1 r2 r3 r4 r5 (.slice A4 k c4)) A A2 A3 A4 dir dir2 dirR v1 v2 L1), q.w.cell? ⟨B3, 6, none⟩ = some (.slice A3 k c3) := fun q => q.ok.2.2.2.1.cell 6 (by simp)
      have y0 : ∀ q : In (KeptT w B3 B4 (kList nu se sq z p b (.slice A n cc)) (kList nu2 se2 sq2 z2 p2 b2 (.slice A2 n2 cc2)) (kList r0 r1 r2 r3 r4 r5 (.slice A3 k c3)) (kList r0 r1 r2 r3 r4 r5 (.slice A4 k c4)) A A2 A3 A4 dir dir2 dirR v1 v2 L1), q.w.cell? ⟨B4, 0, none⟩ = some (.int .u32 r0) := fun q => q.ok.2.2.2.2.1.cell 0 (by simp)
      have y1 : ∀ q : In (KeptT w B3 B4 (kList nu se sq z p b (.slice A n cc)) (kList nu2 se2 sq2 z2 p2 b2 (.slice A2 n2 cc2)) (kList r0 r1 r2 r3 r4 r5 (.slice A3 k c3)) (kList r0 r1 r2 r3 r4 r5 (.slice A4 k c4)) A A2 A3 A4 dir dir2 dirR v1 v2 L1), q.w.cell? ⟨B4, 1, none⟩ = some (.int .u32 r1) := fun q => q.ok.2.2.2.2.1.cell 1 (by simp)
      have y2 : ∀ q : In (KeptT w B3 B4 (kList nu se sq z p b (.slice A n cc)) (kList nu2 se2 sq2 z2 p2 b2 (.slice A2 n2 cc2)) (kList r0 r1 r2 r3 r4 r5 (.slice A3 k c3)) (kList r0 r1 r2 r3 r4 r5 (.slice A4 k c4)) A A2 A3 A4 dir dir2 dirR v1 v2 L1), q.w.cell? ⟨B4, 2, none⟩ = some (.int .u32 r2) := fun q => q.ok.2.2.2.2.1.cell 2 (by simp)
      have y3 : ∀ q : In (KeptT w B3 B4 (kList nu se sq z p b (.slice A n cc)) (kList nu2 se2 sq2 z2 p2 b2 (.slice A2 n2 cc2)) (kList r0 r1 r2 r3 r4 r5 (.slice A3 k c3)) (kList r0 r1 r2 r3 r4 r5 (.slice A4 k c4)) A A2 A3 A4 dir dir2 dirR v1 v2 L1), q.w.cell? ⟨B4, 3, none⟩ = some (.int .i64 r3) := fun q => q.ok.2.2.2.2.1.cell 3 (by simp)
      have y4 : ∀ q : In (KeptT w B3 B4 (kList nu se sq z p b (.slice A n cc)) (kList nu2 se2 sq2 z2 p2 b2 (.slice A2 n2 cc2)) (kList r0 r1 r2 r3 r4 r5 (.slice A3 k c3)) (kList r0 r1 r2 r3 r4 r5 (.slice A4 k c4)) A A2 A3 A4 dir dir2 dirR v1 v2 L1), q.w.cell? ⟨B4, 4, none⟩ = some (.int .i64 r4) := fun q => q.ok.2.2.2.2.1.cell 4 (by simp)
      have y5 : ∀ q : In (KeptT w B3 B4 (kList nu se sq z p b (.slice A n cc)) (kList nu2 se2 sq2 z2 p2 b2 (.slice A2 n2 cc2)) (kList r0 r1 r2 r3 r4 r5 (.slice A3 k c3)) (kList r0 r1 r2 r3 r4 r5 (.slice A4 k c4)) A A2 A3 A4 dir dir2 dirR v1 v2 L1), q.w.cell? ⟨B4, 5, none⟩ = some (.int .i64 r5) := fun q => q.ok.2.2.2.2.1.cell 5 (by simp)
      have y6 : ∀ q : In (KeptT w B3 B4 (kList nu se sq z p b (.slice A n cc)) (kList nu2 se2 sq2 z2 p2 b2 (.slice A2 n2 cc2)) (kList r0 r1 r2 r3 r4 r5 (.slice A3 k c3)) (kList r0 r1 r2 r3 r4 r5 (.slice A4 k c4)) A A2 A3 A4 dir dir2 dirR v1 v2 L1), q.w.cell? ⟨B4, 6, none⟩ = some (.slice A4 k c4) := fun q => q.ok.2.2.2.2.1.cell 6 (by simp)
      have sX : ∀ q : In (KeptT w B3 B4 (kList nu se sq z p b (.slice A n cc)) (kList nu2 se2 sq2 z2 p2 b2 (.slice A2 n2 cc2)) (kList r0 r1 r2 r3 r4 r5 (.slice A3 k c3)) (kList r0 r1 r2 r3 r4 r5 (.slice A4 k c4)) A A2 A3 A4 dir dir2 dirR v1 v2 L1), Calls Tryd.prog 16 #[v1, v2] q.w (BoolB true q.w) := fun q => by have := rows_same q.ok.2.2.2.2.2.2.2.2.2.1 q.ok.2.2.2.2.2.2.2.2.2.2 (by have := HBL.out.1; omega) HBL.out.2; rwa [decide_eq_true (rfl : L1 = L1)] at this
      have cE1 : ∀ q : In (KeptT w B3 B4 (kList nu se sq z p b (.slice A n cc)) (kList nu2 se2 sq2 z2 p2 b2 (.slice A2 n2 cc2)) (kList r0 r1 r2 r3 r4 r5 (.slice A3 k c3)) (kList r0 r1 r2 r3 r4 r5 (.slice A4 k c4)) A A2 A3 A4 dir dir2 dirR v1 v2 L1), Calls Tryd.prog 17 #[errV E1] q.w (CodeIs q.w E1) := fun q => code_is E1 (HG.out.below q.ok.1)
      have cE2 : ∀ q : In (KeptT w B3 B4 (kList nu se sq z p b (.slice A n cc)) (kList nu2 se2 sq2 z2 p2 b2 (.slice A2 n2 cc2)) (kList r0 r1 r2 r3 r4 r5 (.slice A3 k c3)) (kList r0 r1 r2 r3 r4 r5 (.slice A4 k c4)) A A2 A3 A4 dir dir2 dirR v1 v2 L1), Calls Tryd.prog 17 #[errV E2] q.w (CodeIs q.w E2) := fun q => code_is E2 (HG.out.below q.ok.1)
      have ow1 := fun q : In (KeptT w B3 B4 (kList nu se sq z p b (.slice A n cc)) (kList nu2 se2 sq2 z2 p2 b2 (.slice A2 n2 cc2)) (kList r0 r1 r2 r3 r4 r5 (.slice A3 k c3)) (kList r0 r1 r2 r3 r4 r5 (.slice A4 k c4)) A A2 A3 A4 dir dir2 dirR v1 v2 L1) => own_is nu se sq z p b A n cc q.w
      have ow2 := fun q : In (KeptT w B3 B4 (kList nu se sq z p b (.slice A n cc)) (kList nu2 se2 sq2 z2 p2 b2 (.slice A2 n2 cc2)) (kList r0 r1 r2 r3 r4 r5 (.slice A3 k c3)) (kList r0 r1 r2 r3 r4 r5 (.slice A4 k c4)) A A2 A3 A4 dir dir2 dirR v1 v2 L1) => own_is nu2 se2 sq2 z2 p2 b2 A2 n2 cc2 q.w
      have ow3 := fun q : In (KeptT w B3 B4 (kList nu se sq z p b (.slice A n cc)) (kList nu2 se2 sq2 z2 p2 b2 (.slice A2 n2 cc2)) (kList r0 r1 r2 r3 r4 r5 (.slice A3 k c3)) (kList r0 r1 r2 r3 r4 r5 (.slice A4 k c4)) A A2 A3 A4 dir dir2 dirR v1 v2 L1) => own_is r0 r1 r2 r3 r4 r5 A3 k c3 q.w
      have sR : ∀ q : In (KeptT w B3 B4 (kList nu se sq z p b (.slice A n cc)) (kList nu2 se2 sq2 z2 p2 b2 (.slice A2 n2 cc2)) (kList r0 r1 r2 r3 r4 r5 (.slice A3 k c3)) (kList r0 r1 r2 r3 r4 r5 (.slice A4 k c4)) A A2 A3 A4 dir dir2 dirR v1 v2 L1), Calls Tryd.prog 18 #[kV r0 r1 r2 r3 r4 r5 (.slice A3 k c3), kV r0 r1 r2 r3 r4 r5 (.slice A4 k c4)] q.w (BoolB true q.w) := fun q => by have := rksame_is (c := c3) (c2 := c4) r0 r1 r2 r3 r4 r5 r0 r1 r2 r3 r4 r5 q.ok.2.2.2.2.2.2.2.1 q.ok.2.2.2.2.2.2.2.2.1 HKL.out HKL.out (by omega); rwa [sameC_self] at this
      have sK := fun q : In (KeptT w B3 B4 (kList nu se sq z p b (.slice A n cc)) (kList nu2 se2 sq2 z2 p2 b2 (.slice A2 n2 cc2)) (kList r0 r1 r2 r3 r4 r5 (.slice A3 k c3)) (kList r0 r1 r2 r3 r4 r5 (.slice A4 k c4)) A A2 A3 A4 dir dir2 dirR v1 v2 L1) => ksame_is (c := cc) (c2 := cc2) nu se sq z p b nu2 se2 sq2 z2 p2 b2 q.ok.2.2.2.2.2.1 q.ok.2.2.2.2.2.2.1 HL.out HL2.out (by omega) (by omega)
      have sN := fun q : In (KeptT w B3 B4 (kList nu se sq z p b (.slice A n cc)) (kList nu2 se2 sq2 z2 p2 b2 (.slice A2 n2 cc2)) (kList r0 r1 r2 r3 r4 r5 (.slice A3 k c3)) (kList r0 r1 r2 r3 r4 r5 (.slice A4 k c4)) A A2 A3 A4 dir dir2 dirR v1 v2 L1) => rksame_is (c := cc) (c2 := cc2) nu se sq z p b nu2 se2 sq2 z2 p2 b2 q.ok.2.2.2.2.2.1 q.ok.2.2.2.2.2.2.1 HL.out HL2.out (by omega)
      have rK := fun q : In (KeptT w B3 B4 (kList nu se sq z p b (.slice A n cc)) (kList nu2 se2 sq2 z2 p2 b2 (.slice A2 n2 cc2)) (kList r0 r1 r2 r3 r4 r5 (.slice A3 k c3)) (kList r0 r1 r2 r3 r4 r5 (.slice A4 k c4)) A A2 A3 A4 dir dir2 dirR v1 v2 L1) => kright_is nu se sq z p b A n cc q.w HWD.out.1 HWD.out.2.1 HWD.out.2.2
      have rN := fun q : In (KeptT w B3 B4 (kList nu se sq z p b (.slice A n cc)) (kList nu2 se2 sq2 z2 p2 b2 (.slice A2 n2 cc2)) (kList r0 r1 r2 r3 r4 r5 (.slice A3 k c3)) (kList r0 r1 r2 r3 r4 r5 (.slice A4 k c4)) A A2 A3 A4 dir dir2 dirR v1 v2 L1) => rkright_is nu se sq z p b A n cc q.w
      obtain ⟨t, ht⟩ : ∃ t, rightC z p b n = t := ⟨_, rfl⟩
      rw [ht] at rK rN
      obtain ⟨t2, ht2⟩ : ∃ t2, sameC nu se sq z p b dir nu2 se2 sq2 z2 p2 b2 dir2 = t2 := ⟨_, rfl⟩
      rw [ht2] at sK sN
      clear ht ht2
      have q1 : (E1 == E1) = true := by simp
      have q2 : (E2 == E2) = true := by simp
      have q3 : (t == t) = true := by simp
      have q4 : (t2 == t2) = true := by simp
      repeat (go_big_quiet_step (first
        | (go_at_call 16; with_reducible exact In.more KeptT.up (sX _))
        | (go_at_call 17; with_reducible exact In.more KeptT.up (cE1 _))
        | (go_at_call 17; with_reducible exact In.more KeptT.up (cE2 _))
        | (go_at_call 11; with_reducible exact In.more KeptT.up (ow1 _))
        | (go_at_call 11; with_reducible exact In.more KeptT.up (ow2 _))
        | (go_at_call 11; with_reducible exact In.more KeptT.up (ow3 _))
        | (go_at_call 18; with_reducible exact In.more KeptT.up (sR _))
        | (go_at_call 18; with_reducible exact In.more KeptT.up (sN _))
        | (go_at_call 21; with_reducible exact In.more KeptT.up (sK _))
        | (go_at_call 19; with_reducible exact In.more KeptT.up (rK _))
        | (go_at_call 20; with_reducible exact In.more KeptT.up (rN _))))
      refine wpQuiet_nil ?_
      intro nq
      have HBN := Lib.hid nq.ok.1
      clear a0 a1 a2 a3 a4 a5 a6 d0 d1 d2 d3 d4 d5 d6 x0 x1 x2 x3 x4 x5 x6 y0 y1 y2 y3 y4 y5 y6 sX cE1 cE2 ow1 ow2 ow3 sR sK sN rK rN
      go_wp2_with fail
      go_ret
      exact ⟨rfl, HBN.out⟩
  · go_wp2_with fail
    rw [← hw9, hB4] at *
    have HKT := Lib.hid HK9.out
    clear gb HK9
    refine wp_region_in (KeptT w B3 B4 (kList nu se sq z p b (.slice A n cc)) (kList nu2 se2 sq2 z2 p2 b2 (.slice A2 n2 cc2)) (kList r0 r1 r2 r3 r4 r5 (.slice A3 k c3)) (kList r0 r1 r2 r3 r4 r5 (.slice A4 k c4)) A A2 A3 A4 dir dir2 dirR v1 v2 L1) (KeptT.up HKT.out (Below.refl _ _).drew) (by kernel_rfl) (by kernel_rfl) (fun ne => ?_)
    have a0 : ∀ q : In (KeptT w B3 B4 (kList nu se sq z p b (.slice A n cc)) (kList nu2 se2 sq2 z2 p2 b2 (.slice A2 n2 cc2)) (kList r0 r1 r2 r3 r4 r5 (.slice A3 k c3)) (kList r0 r1 r2 r3 r4 r5 (.slice A4 k c4)) A A2 A3 A4 dir dir2 dirR v1 v2 L1), q.w.cell? ⟨w.heap.size, 0, none⟩ = some (.int .u32 nu) := fun q => q.ok.2.1.cell 0 (by simp)
    have a1 : ∀ q : In (KeptT w B3 B4 (kList nu se sq z p b (.slice A n cc)) (kList nu2 se2 sq2 z2 p2 b2 (.slice A2 n2 cc2)) (kList r0 r1 r2 r3 r4 r5 (.slice A3 k c3)) (kList r0 r1 r2 r3 r4 r5 (.slice A4 k c4)) A A2 A3 A4 dir dir2 dirR v1 v2 L1), q.w.cell? ⟨w.heap.size, 1, none⟩ = some (.int .u32 se) := fun q => q.ok.2.1.cell 1 (by simp)
    have a2 : ∀ q : In (KeptT w B3 B4 (kList nu se sq z p b (.slice A n cc)) (kList nu2 se2 sq2 z2 p2 b2 (.slice A2 n2 cc2)) (kList r0 r1 r2 r3 r4 r5 (.slice A3 k c3)) (kList r0 r1 r2 r3 r4 r5 (.slice A4 k c4)) A A2 A3 A4 dir dir2 dirR v1 v2 L1), q.w.cell? ⟨w.heap.size, 2, none⟩ = some (.int .u32 sq) := fun q => q.ok.2.1.cell 2 (by simp)
    have a3 : ∀ q : In (KeptT w B3 B4 (kList nu se sq z p b (.slice A n cc)) (kList nu2 se2 sq2 z2 p2 b2 (.slice A2 n2 cc2)) (kList r0 r1 r2 r3 r4 r5 (.slice A3 k c3)) (kList r0 r1 r2 r3 r4 r5 (.slice A4 k c4)) A A2 A3 A4 dir dir2 dirR v1 v2 L1), q.w.cell? ⟨w.heap.size, 3, none⟩ = some (.int .i64 z) := fun q => q.ok.2.1.cell 3 (by simp)
    have a4 : ∀ q : In (KeptT w B3 B4 (kList nu se sq z p b (.slice A n cc)) (kList nu2 se2 sq2 z2 p2 b2 (.slice A2 n2 cc2)) (kList r0 r1 r2 r3 r4 r5 (.slice A3 k c3)) (kList r0 r1 r2 r3 r4 r5 (.slice A4 k c4)) A A2 A3 A4 dir dir2 dirR v1 v2 L1), q.w.cell? ⟨w.heap.size, 4, none⟩ = some (.int .i64 p) := fun q => q.ok.2.1.cell 4 (by simp)
    have a5 : ∀ q : In (KeptT w B3 B4 (kList nu se sq z p b (.slice A n cc)) (kList nu2 se2 sq2 z2 p2 b2 (.slice A2 n2 cc2)) (kList r0 r1 r2 r3 r4 r5 (.slice A3 k c3)) (kList r0 r1 r2 r3 r4 r5 (.slice A4 k c4)) A A2 A3 A4 dir dir2 dirR v1 v2 L1), q.w.cell? ⟨w.heap.size, 5, none⟩ = some (.int .i64 b) := fun q => q.ok.2.1.cell 5 (by simp)
    have a6 : ∀ q : In (KeptT w B3 B4 (kList nu se sq z p b (.slice A n cc)) (kList nu2 se2 sq2 z2 p2 b2 (.slice A2 n2 cc2)) (kList r0 r1 r2 r3 r4 r5 (.slice A3 k c3)) (kList r0 r1 r2 r3 r4 r5 (.slice A4 k c4)) A A2 A3 A4 dir dir2 dirR v1 v2 L1), q.w.cell? ⟨w.heap.size, 6, none⟩ = some (.slice A n cc) := fun q => q.ok.2.1.cell 6 (by simp)
    have d0 : ∀ q : In (KeptT w B3 B4 (kList nu se sq z p b (.slice A n cc)) (kList nu2 se2 sq2 z2 p2 b2 (.slice A2 n2 cc2)) (kList r0 r1 r2 r3 r4 r5 (.slice A3 k c3)) (kList r0 r1 r2 r3 r4 r5 (.slice A4 k c4)) A A2 A3 A4 dir dir2 dirR v1 v2 L1), q.w.cell? ⟨w.heap.size + 1, 0, none⟩ = some (.int .u32 nu2) := fun q => q.ok.2.2.1.cell 0 (by simp)
    have d1 : ∀ q : In (KeptT w B3 B4 (kList nu se sq z p b (.slice A n cc)) (kList nu2 se2 sq2 z2 p2 b2 (.slice A2 n2 cc2)) (kList r0 r1 r2 r3 r4 r5 (.slice A3 k c3)) (kList r0 r1 r2 r3 r4 r5 (.slice A4 k c4)) A A2 A3 A4 dir dir2 dirR v1 v2 L1), q.w.cell? ⟨w.heap.size + 1, 1, none⟩ = some (.int .u32 se2) := fun q => q.ok.2.2.1.cell 1 (by simp)
    have d2 : ∀ q : In (KeptT w B3 B4 (kList nu se sq z p b (.slice A n cc)) (kList nu2 se2 sq2 z2 p2 b2 (.slice A2 n2 cc2)) (kList r0 r1 r2 r3 r4 r5 (.slice A3 k c3)) (kList r0 r1 r2 r3 r4 r5 (.slice A4 k c4)) A A2 A3 A4 dir dir2 dirR v1 v2 L1), q.w.cell? ⟨w.heap.size + 1, 2, none⟩ = some (.int .u32 sq2) := fun q => q.ok.2.2.1.cell 2 (by simp)
    have d3 : ∀ q : In (KeptT w B3 B4 (kList nu se sq z p b (.slice A n cc)) (kList nu2 se2 sq2 z2 p2 b2 (.slice A2 n2 cc2)) (kList r0 r1 r2 r3 r4 r5 (.slice A3 k c3)) (kList r0 r1 r2 r3 r4 r5 (.slice A4 k c4)) A A2 A3 A4 dir dir2 dirR v1 v2 L1), q.w.cell? ⟨w.heap.size + 1, 3, none⟩ = some (.int .i64 z2) := fun q => q.ok.2.2.1.cell 3 (by simp)
    have d4 : ∀ q : In (KeptT w B3 B4 (kList nu se sq z p b (.slice A n cc)) (kList nu2 se2 sq2 z2 p2 b2 (.slice A2 n2 cc2)) (kList r0 r1 r2 r3 r4 r5 (.slice A3 k c3)) (kList r0 r1 r2 r3 r4 r5 (.slice A4 k c4)) A A2 A3 A4 dir dir2 dirR v1 v2 L1), q.w.cell? ⟨w.heap.size + 1, 4, none⟩ = some (.int .i64 p2) := fun q => q.ok.2.2.1.cell 4 (by simp)
    have d5 : ∀ q : In (KeptT w B3 B4 (kList nu se sq z p b (.slice A n cc)) (kList nu2 se2 sq2 z2 p2 b2 (.slice A2 n2 cc2)) (kList r0 r1 r2 r3 r4 r5 (.slice A3 k c3)) (kList r0 r1 r2 r3 r4 r5 (.slice A4 k c4)) A A2 A3 A4 dir dir2 dirR v1 v2 L1), q.w.cell? ⟨w.heap.size + 1, 5, none⟩ = some (.int .i64 b2) := fun q => q.ok.2.2.1.cell 5 (by simp)
    have d6 : ∀ q : In (KeptT w B3 B4 (kList nu se sq z p b (.slice A n cc)) (kList nu2 se2 sq2 z2 p2 b2 (.slice A2 n2 cc2)) (kList r0 r1 r2 r3 r4 r5 (.slice A3 k c3)) (kList r0 r1 r2 r3 r4 r5 (.slice A4 k c4)) A A2 A3 A4 dir dir2 dirR v1 v2 L1), q.w.cell? ⟨w.heap.size + 1, 6, none⟩ = some (.slice A2 n2 cc2) := fun q => q.ok.2.2.1.cell 6 (by simp)
    have x0 : ∀ q : In (KeptT w B3 B4 (kList nu se sq z p b (.slice A n cc)) (kList nu2 se2 sq2 z2 p2 b2 (.slice A2 n2 cc2)) (kList r0 r1 r2 r3 r4 r5 (.slice A3 k c3)) (kList r0 r1 r2 r3 r4 r5 (.slice A4 k c4)) A A2 A3 A4 dir dir2 dirR v1 v2 L1), q.w.cell? ⟨B3, 0, none⟩ = some (.int .u32 r0) := fun q => q.ok.2.2.2.1.cell 0 (by simp)
    have x1 : ∀ q : In (KeptT w B3 B4 (kList nu se sq z p b (.slice A n cc)) (kList nu2 se2 sq2 z2 p2 b2 (.slice A2 n2 cc2)) (kList r0 r1 r2 r3 r4 r5 (.slice A3 k c3)) (kList r0 r1 r2 r3 r4 r5 (.slice A4 k c4)) A A2 A3 A4 dir dir2 dirR v1 v2 L1), q.w.cell? ⟨B3, 1, none⟩ = some (.int .u32 r1) := fun q => q.ok.2.2.2.1.cell 1 (by simp)
    have x2 : ∀ q : In (KeptT w B3 B4 (kList nu se sq z p b (.slice A n cc)) (kList nu2 se2 sq2 z2 p2 b2 (.slice A2 n2 cc2)) (kList r0 r1 r2 r3 r4 r5 (.slice A3 k c3)) (kList r0 r1 r2 r3 r4 r5 (.slice A4 k c4)) A A2 A3 A4 dir dir2 dirR v1 v2 L1), q.w.cell? ⟨B3, 2, none⟩ = some (.int .u32 r2) := fun q => q.ok.2.2.2.1.cell 2 (by simp)
    have x3 : ∀ q : In (KeptT w B3 B4 (kList nu se sq z p b (.slice A n cc)) (kList nu2 se2 sq2 z2 p2 b2 (.slice A2 n2 cc2)) (kList r0 r1 r2 r3 r4 r5 (.slice A3 k c3)) (kList r0 r1 r2 r3 r4 r5 (.slice A4 k c4)) A A2 A3 A4 dir dir2 dirR v1 v2 L1), q.w.cell? ⟨B3, 3, none⟩ = some (.int .i64 r3) := fun q => q.ok.2.2.2.1.cell 3 (by simp)
    have x4 : ∀ q : In (KeptT w B3 B4 (kList nu se sq z p b (.slice A n cc)) (kList nu2 se2 sq2 z2 p2 b2 (.slice A2 n2 cc2)) (kList r0 r1 r2 r3 r4 r5 (.slice A3 k c3)) (kList r0 r1 r2 r3 r4 r5 (.slice A4 k c4)) A A2 A3 A4 dir dir2 dirR v1 v2 L1), q.w.cell? ⟨B3, 4, none⟩ = some (.int .i64 r4) := fun q => q.ok.2.2.2.1.cell 4 (by simp)
    have x5 : ∀ q : In (KeptT w B3 B4 (kList nu se sq z p b (.slice A n cc)) (kList nu2 se2 sq2 z2 p2 b2 (.slice A2 n2 cc2)) (kList r0 r1 r2 r3 r4 r5 (.slice A3 k c3)) (kList r0 r1 r2 r3 r4 r5 (.slice A4 k c4)) A A2 A3 A4 dir dir2 dirR v1 v2 L1), q.w.cell? ⟨B3, 5, none⟩ = some (.int .i64 r5) := fun q => q.ok.2.2.2.1.cell 5 (by simp)
    have x6 : ∀ q : In (KeptT w B3 B4 (kList nu se sq z p b (.slice A n cc)) (kList nu2 se2 sq2 z2 p2 b2 (.slice A2 n2 cc2)) (kList r0 r1 r2 r3 r4 r5 (.slice A3 k c3)) (kList r0 r1 r2 r3 r4 r5 (.slice A4 k c4)) A A2 A3 A4 dir dir2 dirR v1 v2 L1), q.w.cell? ⟨B3, 6, none⟩ = some (.slice A3 k c3) := fun q => q.ok.2.2.2.1.cell 6 (by simp)
    have y0 : ∀ q : In (KeptT w B3 B4 (kList nu se sq z p b (.slice A n cc)) (kList nu2 se2 sq2 z2 p2 b2 (.slice A2 n2 cc2)) (kList r0 r1 r2 r3 r4 r5 (.slice A3 k c3)) (kList r0 r1 r2 r3 r4 r5 (.slice A4 k c4)) A A2 A3 A4 dir dir2 dirR v1 v2 L1), q.w.cell? ⟨B4, 0, none⟩ = some (.int .u32 r0) := fun q => q.ok.2.2.2.2.1.cell 0 (by simp)
    have y1 : ∀ q : In (KeptT w B3 B4 (kList nu se sq z p b (.slice A n cc)) (kList nu2 se2 sq2 z2 p2 b2 (.slice A2 n2 cc2)) (kList r0 r1 r2 r3 r4 r5 (.slice A3 k c3)) (kList r0 r1 r2 r3 r4 r5 (.slice A4 k c4)) A A2 A3 A4 dir dir2 dirR v1 v2 L1), q.w.cell? ⟨B4, 1, none⟩ = some (.int .u32 r1) := fun q => q.ok.2.2.2.2.1.cell 1 (by simp)
    have y2 : ∀ q : In (KeptT w B3 B4 (kList nu se sq z p b (.slice A n cc)) (kList nu2 se2 sq2 z2 p2 b2 (.slice A2 n2 cc2)) (kList r0 r1 r2 r3 r4 r5 (.slice A3 k c3)) (kList r0 r1 r2 r3 r4 r5 (.slice A4 k c4)) A A2 A3 A4 dir dir2 dirR v1 v2 L1), q.w.cell? ⟨B4, 2, none⟩ = some (.int .u32 r2) := fun q => q.ok.2.2.2.2.1.cell 2 (by simp)
    have y3 : ∀ q : In (KeptT w B3 B4 (kList nu se sq z p b (.slice A n cc)) (kList nu2 se2 sq2 z2 p2 b2 (.slice A2 n2 cc2)) (kList r0 r1 r2 r3 r4 r5 (.slice A3 k c3)) (kList r0 r1 r2 r3 r4 r5 (.slice A4 k c4)) A A2 A3 A4 dir dir2 dirR v1 v2 L1), q.w.cell? ⟨B4, 3, none⟩ = some (.int .i64 r3) := fun q => q.ok.2.2.2.2.1.cell 3 (by simp)
    have y4 : ∀ q : In (KeptT w B3 B4 (kList nu se sq z p b (.slice A n cc)) (kList nu2 se2 sq2 z2 p2 b2 (.slice A2 n2 cc2)) (kList r0 r1 r2 r3 r4 r5 (.slice A3 k c3)) (kList r0 r1 r2 r3 r4 r5 (.slice A4 k c4)) A A2 A3 A4 dir dir2 dirR v1 v2 L1), q.w.cell? ⟨B4, 4, none⟩ = some (.int .i64 r4) := fun q => q.ok.2.2.2.2.1.cell 4 (by simp)
    have y5 : ∀ q : In (KeptT w B3 B4 (kList nu se sq z p b (.slice A n cc)) (kList nu2 se2 sq2 z2 p2 b2 (.slice A2 n2 cc2)) (kList r0 r1 r2 r3 r4 r5 (.slice A3 k c3)) (kList r0 r1 r2 r3 r4 r5 (.slice A4 k c4)) A A2 A3 A4 dir dir2 dirR v1 v2 L1), q.w.cell? ⟨B4, 5, none⟩ = some (.int .i64 r5) := fun q => q.ok.2.2.2.2.1.cell 5 (by simp)
    have y6 : ∀ q : In (KeptT w B3 B4 (kList nu se sq z p b (.slice A n cc)) (kList nu2 se2 sq2 z2 p2 b2 (.slice A2 n2 cc2)) (kList r0 r1 r2 r3 r4 r5 (.slice A3 k c3)) (kList r0 r1 r2 r3 r4 r5 (.slice A4 k c4)) A A2 A3 A4 dir dir2 dirR v1 v2 L1), q.w.cell? ⟨B4, 6, none⟩ = some (.slice A4 k c4) := fun q => q.ok.2.2.2.2.1.cell 6 (by simp)
    have sX : ∀ q : In (KeptT w B3 B4 (kList nu se sq z p b (.slice A n cc)) (kList nu2 se2 sq2 z2 p2 b2 (.slice A2 n2 cc2)) (kList r0 r1 r2 r3 r4 r5 (.slice A3 k c3)) (kList r0 r1 r2 r3 r4 r5 (.slice A4 k c4)) A A2 A3 A4 dir dir2 dirR v1 v2 L1), Calls Tryd.prog 16 #[v1, v2] q.w (BoolB true q.w) := fun q => by have := rows_same q.ok.2.2.2.2.2.2.2.2.2.1 q.ok.2.2.2.2.2.2.2.2.2.2 (by have := HBL.out.1; omega) HBL.out.2; rwa [decide_eq_true (rfl : L1 = L1)] at this
    have cE1 : ∀ q : In (KeptT w B3 B4 (kList nu se sq z p b (.slice A n cc)) (kList nu2 se2 sq2 z2 p2 b2 (.slice A2 n2 cc2)) (kList r0 r1 r2 r3 r4 r5 (.slice A3 k c3)) (kList r0 r1 r2 r3 r4 r5 (.slice A4 k c4)) A A2 A3 A4 dir dir2 dirR v1 v2 L1), Calls Tryd.prog 17 #[errV E1] q.w (CodeIs q.w E1) := fun q => code_is E1 (HG.out.below q.ok.1)
    have cE2 : ∀ q : In (KeptT w B3 B4 (kList nu se sq z p b (.slice A n cc)) (kList nu2 se2 sq2 z2 p2 b2 (.slice A2 n2 cc2)) (kList r0 r1 r2 r3 r4 r5 (.slice A3 k c3)) (kList r0 r1 r2 r3 r4 r5 (.slice A4 k c4)) A A2 A3 A4 dir dir2 dirR v1 v2 L1), Calls Tryd.prog 17 #[errV E2] q.w (CodeIs q.w E2) := fun q => code_is E2 (HG.out.below q.ok.1)
    have ow1 := fun q : In (KeptT w B3 B4 (kList nu se sq z p b (.slice A n cc)) (kList nu2 se2 sq2 z2 p2 b2 (.slice A2 n2 cc2)) (kList r0 r1 r2 r3 r4 r5 (.slice A3 k c3)) (kList r0 r1 r2 r3 r4 r5 (.slice A4 k c4)) A A2 A3 A4 dir dir2 dirR v1 v2 L1) => own_is nu se sq z p b A n cc q.w
    have ow2 := fun q : In (KeptT w B3 B4 (kList nu se sq z p b (.slice A n cc)) (kList nu2 se2 sq2 z2 p2 b2 (.slice A2 n2 cc2)) (kList r0 r1 r2 r3 r4 r5 (.slice A3 k c3)) (kList r0 r1 r2 r3 r4 r5 (.slice A4 k c4)) A A2 A3 A4 dir dir2 dirR v1 v2 L1) => own_is nu2 se2 sq2 z2 p2 b2 A2 n2 cc2 q.w
    have ow3 := fun q : In (KeptT w B3 B4 (kList nu se sq z p b (.slice A n cc)) (kList nu2 se2 sq2 z2 p2 b2 (.slice A2 n2 cc2)) (kList r0 r1 r2 r3 r4 r5 (.slice A3 k c3)) (kList r0 r1 r2 r3 r4 r5 (.slice A4 k c4)) A A2 A3 A4 dir dir2 dirR v1 v2 L1) => own_is r0 r1 r2 r3 r4 r5 A3 k c3 q.w
    have sR : ∀ q : In (KeptT w B3 B4 (kList nu se sq z p b (.slice A n cc)) (kList nu2 se2 sq2 z2 p2 b2 (.slice A2 n2 cc2)) (kList r0 r1 r2 r3 r4 r5 (.slice A3 k c3)) (kList r0 r1 r2 r3 r4 r5 (.slice A4 k c4)) A A2 A3 A4 dir dir2 dirR v1 v2 L1), Calls Tryd.prog 18 #[kV r0 r1 r2 r3 r4 r5 (.slice A3 k c3), kV r0 r1 r2 r3 r4 r5 (.slice A4 k c4)] q.w (BoolB true q.w) := fun q => by have := rksame_is (c := c3) (c2 := c4) r0 r1 r2 r3 r4 r5 r0 r1 r2 r3 r4 r5 q.ok.2.2.2.2.2.2.2.1 q.ok.2.2.2.2.2.2.2.2.1 HKL.out HKL.out (by omega); rwa [sameC_self] at this
    have sK := fun q : In (KeptT w B3 B4 (kList nu se sq z p b (.slice A n cc)) (kList nu2 se2 sq2 z2 p2 b2 (.slice A2 n2 cc2)) (kList r0 r1 r2 r3 r4 r5 (.slice A3 k c3)) (kList r0 r1 r2 r3 r4 r5 (.slice A4 k c4)) A A2 A3 A4 dir dir2 dirR v1 v2 L1) => ksame_is (c := cc) (c2 := cc2) nu se sq z p b nu2 se2 sq2 z2 p2 b2 q.ok.2.2.2.2.2.1 q.ok.2.2.2.2.2.2.1 HL.out HL2.out (by omega) (by omega)
    have sN := fun q : In (KeptT w B3 B4 (kList nu se sq z p b (.slice A n cc)) (kList nu2 se2 sq2 z2 p2 b2 (.slice A2 n2 cc2)) (kList r0 r1 r2 r3 r4 r5 (.slice A3 k c3)) (kList r0 r1 r2 r3 r4 r5 (.slice A4 k c4)) A A2 A3 A4 dir dir2 dirR v1 v2 L1) => rksame_is (c := cc) (c2 := cc2) nu se sq z p b nu2 se2 sq2 z2 p2 b2 q.ok.2.2.2.2.2.1 q.ok.2.2.2.2.2.2.1 HL.out HL2.out (by omega)
    have rK := fun q : In (KeptT w B3 B4 (kList nu se sq z p b (.slice A n cc)) (kList nu2 se2 sq2 z2 p2 b2 (.slice A2 n2 cc2)) (kList r0 r1 r2 r3 r4 r5 (.slice A3 k c3)) (kList r0 r1 r2 r3 r4 r5 (.slice A4 k c4)) A A2 A3 A4 dir dir2 dirR v1 v2 L1) => kright_is nu se sq z p b A n cc q.w HWD.out.1 HWD.out.2.1 HWD.out.2.2
    have rN := fun q : In (KeptT w B3 B4 (kList nu se sq z p b (.slice A n cc)) (kList nu2 se2 sq2 z2 p2 b2 (.slice A2 n2 cc2)) (kList r0 r1 r2 r3 r4 r5 (.slice A3 k c3)) (kList r0 r1 r2 r3 r4 r5 (.slice A4 k c4)) A A2 A3 A4 dir dir2 dirR v1 v2 L1) => rkright_is nu se sq z p b A n cc q.w
    obtain ⟨t, ht⟩ : ∃ t, rightC z p b n = t := ⟨_, rfl⟩
    rw [ht] at rK rN
    obtain ⟨t2, ht2⟩ : ∃ t2, sameC nu se sq z p b dir nu2 se2 sq2 z2 p2 b2 dir2 = t2 := ⟨_, rfl⟩
    rw [ht2] at sK sN
    clear ht ht2
    have q1 : (E1 == E1) = true := by simp
    have q2 : (E2 == E2) = true := by simp
    have q3 : (t == t) = true := by simp
    have q4 : (t2 == t2) = true := by simp
    repeat (go_big_quiet_step (first
      | (go_at_call 16; with_reducible exact In.more KeptT.up (sX _))
      | (go_at_call 17; with_reducible exact In.more KeptT.up (cE1 _))
      | (go_at_call 17; with_reducible exact In.more KeptT.up (cE2 _))
      | (go_at_call 11; with_reducible exact In.more KeptT.up (ow1 _))
      | (go_at_call 11; with_reducible exact In.more KeptT.up (ow2 _))
      | (go_at_call 11; with_reducible exact In.more KeptT.up (ow3 _))
      | (go_at_call 18; with_reducible exact In.more KeptT.up (sR _))
      | (go_at_call 18; with_reducible exact In.more KeptT.up (sN _))
      | (go_at_call 21; with_reducible exact In.more KeptT.up (sK _))
      | (go_at_call 19; with_reducible exact In.more KeptT.up (rK _))
      | (go_at_call 20; with_reducible exact In.more KeptT.up (rN _))))
    refine wpQuiet_nil ?_
    intro nq
    have HBN := Lib.hid nq.ok.1
    clear a0 a1 a2 a3 a4 a5 a6 d0 d1 d2 d3 d4 d5 d6 x0 x1 x2 x3 x4 x5 x6 y0 y1 y2 y3 y4 y5 y6 sX cE1 cE2 ow1 ow2 ow3 sR sK sN rK rN
    go_wp2_with fail
    go_ret
    exact ⟨rfl, HBN.out⟩
end Go.Proofs.YtknllfhokjedkaaDoor
