/-
  platelayerlaw06.CkptBack answers true.
-/
import Derived.Test.YtknllfhokjedkaaDoorCkptM
namespace Go.Proofs.YtknllfhokjedkaaDoor
open Go.RowKit

theorem kback_large {w : World} (hg : Gl w) {A : Option Addr} {n cc : Nat} {v : Value} {l : List (List Int)} (nu se sq z p b : Int) (hv : RowsAt w v l) (h : largeB l = true ∨ 100 < n) : Calls Tryd.prog 4 #[kV nu se sq z p b (.slice A n cc), v] w (TrueB w) := by
  have HV := Lib.hid hv
  clear hv
  have HC1 : Hid (Blk (w.alloc (.cells (kCells nu se sq z p b (.slice A n cc)) 27)) w.heap.size 27 (kList nu se sq z p b (.slice A n cc))) := Lib.hid (blk_new w (kList nu se sq z p b (.slice A n cc)) 27)
  have HB1 := Lib.hid ((Below.refl w.heap.size w).alloc (Nat.le_refl _) (.cells (kCells nu se sq z p b (.slice A n cc)) 27))
  have HG := Lib.hid hg
  clear hg
  go_enter Tryd.func4, Tryd.ntmps4
  go_wp2_with fail
  refine (kawake_true (HG.out.below HB1.out)).mono ?_
  rintro r w1 ⟨rfl, hb⟩
  have HB2 := Lib.hid (HB1.out.trans (hb.mono HB1.out.size))
  have HC2 := Lib.hid (HC1.out.up hb (lt_of_block HC1.out))
  clear hb HB1 HC1
  go_wp2_with fail
  refine (large_is (HV.out.up HB2.out)).mono ?_
  rintro r w2 ⟨rfl, hb⟩
  have HB3 := Lib.hid (HB2.out.trans (hb.mono HB2.out.size))
  have HC3 := Lib.hid (HC2.out.up hb (lt_of_block HC2.out))
  clear hb HB2 HC2
  have a6 : w2.cell? ⟨w.heap.size, 6, none⟩ = some (.slice A n cc) := HC3.out.cell 6 (by simp)
  cases hl : largeB l
  · rw [hl] at h
    have h1 : 100 < n := by simpa using h
    clear h
    go_wp2_with fail
    go_ret
    exact ⟨rfl, HB3.out⟩
  · clear h
    go_wp2_with fail
    go_ret
    exact ⟨rfl, HB3.out⟩

theorem word_wide {n : Int} (h : Word n) : Wide n := by
  unfold Word at h
  unfold Wide
  omega
theorem rd_words {l : List (List Int)} (hx : ∀ x ∈ l, Byt x) (h : readGE l = 0) : rightC (rdN l 3) (rdN l 4) (rdN l 5) (rdD l).length = true ∧ blocksC (rdN l 0) (rdN l 1) (rdN l 2) (rdN l 3) (rdN l 4) (rdN l 5) (rdD l) = l ∧ Words (rdN l 0 :: rdN l 1 :: rdN l 2 :: rdD l) ∧ Wide (rdN l 3) ∧ Wide (rdN l 4) ∧ Wide (rdN l 5) := by
  unfold rdN rdD
  simp only [if_pos h]
  obtain ⟨h1, h2, h3⟩ := blocks_read hx h
  have hw : ∀ i, Wide (numAt l.flatten i) := fun i => word_wide (numAt_word i (byt_flat16 hx))
  exact ⟨h1, h2, h3, hw _, hw _, hw _⟩
theorem rd_blocks {nu se sq z p b : Int} {dir : List Int} (h : rightC z p b dir.length = true) (hw : Words (nu :: se :: sq :: dir)) :
    readGE (blocksC nu se sq z p b dir) = 0 ∧ rdN (blocksC nu se sq z p b dir) 0 = nu ∧ rdN (blocksC nu se sq z p b dir) 1 = se ∧ rdN (blocksC nu se sq z p b dir) 2 = sq ∧ rdN (blocksC nu se sq z p b dir) 3 = z ∧ rdN (blocksC nu se sq z p b dir) 4 = p ∧ rdN (blocksC nu se sq z p b dir) 5 = b ∧ rdD (blocksC nu se sq z p b dir) = dir := by
  have h0 := read_blocks h (words4 hw)
  have hn := blocksC_num h (words4 hw)
  refine ⟨h0, ?_, ?_, ?_, ?_, ?_, ?_, ?_⟩
  · unfold rdN; rw [if_pos h0]; exact hn 0 (by omega)
  · unfold rdN; rw [if_pos h0]; exact hn 1 (by omega)
  · unfold rdN; rw [if_pos h0]; exact hn 2 (by omega)
  · unfold rdN; rw [if_pos h0]; exact hn 3 (by omega)
  · unfold rdN; rw [if_pos h0]; exact hn 4 (by omega)
  · unfold rdN; rw [if_pos h0]; exact hn 5 (by omega)
  · unfold rdD; rw [if_pos h0]; exact read_dir h (words4 hw)
def KeptB (w : World) (cc : List Value) (u : World) : Prop := Below w.heap.size w u ∧ Blk u w.heap.size 27 cc
theorem KeptB.up {w : World} {cc : List Value} {a u : World} (h : KeptB w cc a) (hb : Below a.heap.size a u) : KeptB w cc u := ⟨below_all h.1 hb, h.2.up hb (lt_of_block h.2)⟩

set_option maxHeartbeats 4000000 in
set_option maxRecDepth 100000 in
theorem kback_true {w : World} (hg : Gl w) {A AV : Option Addr} {dir : List Int} {n cc nv cv : Nat} {vs : List Value} {l : List (List Int)} (nu se sq z p b : Int)
    (hr : RdV w w.heap.size A (u32s dir)) (hl : dir.length = n) (hw : Words (nu :: se :: sq :: dir)) (hz : Wide z ∧ Wide p ∧ Wide b) (hvl : l.length = nv) (hvc : nv ≤ cv) (hv : RdV w w.heap.size AV vs) (hvr : RdR w vs l) (hx : ∀ x ∈ l, Byt x) (hlarge : largeB l = false) (hn : n ≤ 100) :
    Calls Tryd.prog 4 #[kV nu se sq z p b (.slice A n cc), .slice AV nv cv] w (TrueB w) := by
  have hbd := large_bd hlarge
  have HLG := Lib.hid hlarge
  have HZ := Lib.hid hz
  have HW := Lib.hid hw
  have HL := Lib.hid hl
  have HVL := Lib.hid hvl
  have HX := Lib.hid hx
  have HBD := Lib.hid hbd
  have HVV := Lib.hid (And.intro hv hvr)
  have HRR := Lib.hid hr
  clear hv hvr hr hx hbd hlarge hz hw hl hvl
  have HC1 : Hid (Blk (w.alloc (.cells (kCells nu se sq z p b (.slice A n cc)) 27)) w.heap.size 27 (kList nu se sq z p b (.slice A n cc))) := Lib.hid (blk_new w (kList nu se sq z p b (.slice A n cc)) 27)
  have HB1 := Lib.hid ((Below.refl w.heap.size w).alloc (Nat.le_refl _) (.cells (kCells nu se sq z p b (.slice A n cc)) 27))
  have HG := Lib.hid hg
  clear hg
  go_enter Tryd.func4, Tryd.ntmps4
  go_wp2_with fail
  refine (kawake_true (HG.out.below HB1.out)).mono ?_
  rintro r w1 ⟨rfl, hb⟩
  have HB2 := Lib.hid (HB1.out.trans (hb.mono HB1.out.size))
  have HC2 := Lib.hid (HC1.out.up hb (lt_of_block HC1.out))
  clear hb HB1 HC1
  go_wp2_with fail
  have HROW : Hid (∀ u, Below w.heap.size w u → RowsAt u (.slice AV nv cv) l) := Lib.hid (fun u hu => ⟨AV, cv, vs, by rw [HVL.out], by rw [HVL.out]; exact hvc, HVV.out.1.up hu, HVV.out.2.up hu⟩)
  refine (large_is (HROW.out _ HB2.out)).mono ?_
  rw [HLG.out]
  rintro r w2 ⟨rfl, hb⟩
  have HB3 := Lib.hid (HB2.out.trans (hb.mono HB2.out.size))
  have HC3 := Lib.hid (HC2.out.up hb (lt_of_block HC2.out))
  clear hb HB2 HC2
  have a0 : w2.cell? ⟨w.heap.size, 0, none⟩ = some (.int .u32 nu) := HC3.out.cell 0 (by simp)
  have a1 : w2.cell? ⟨w.heap.size, 1, none⟩ = some (.int .u32 se) := HC3.out.cell 1 (by simp)
  have a2 : w2.cell? ⟨w.heap.size, 2, none⟩ = some (.int .u32 sq) := HC3.out.cell 2 (by simp)
  have a3 : w2.cell? ⟨w.heap.size, 3, none⟩ = some (.int .i64 z) := HC3.out.cell 3 (by simp)
  have a4 : w2.cell? ⟨w.heap.size, 4, none⟩ = some (.int .i64 p) := HC3.out.cell 4 (by simp)
  have a5 : w2.cell? ⟨w.heap.size, 5, none⟩ = some (.int .i64 b) := HC3.out.cell 5 (by simp)
  have a6 : w2.cell? ⟨w.heap.size, 6, none⟩ = some (.slice A n cc) := HC3.out.cell 6 (by simp)
  go_wp2_with fail
  have hkb := kblocks_all (c := cc) nu se sq z p b (HRR.out.up HB3.out) HL.out HW.out HZ.out.1 HZ.out.2.1 HZ.out.2.2
  by_cases h1 : rightC z p b n = true
  · rw [if_pos h1, if_pos h1, show errV 0 = Value.nilIface from if_pos rfl] at hkb
    have hrd := rd_blocks (nu := nu) (se := se) (sq := sq) (z := z) (p := p) (b := b) (dir := dir) (by rw [HL.out]; exact h1) HW.out
    have hlen := blocksC_len (nu := nu) (se := se) (sq := sq) (z := z) (p := p) (b := b) (dir := dir) (by rw [HL.out]; exact h1)
    have hfit := many_fits (z := z) (p := p) (b := b) (dir := dir) (by rw [HL.out]; exact h1)
    have hbb := blocks_bd nu se sq z p b dir
    rw [HL.out, if_pos h1] at hbb
    have hby := blocksC_byt (nu := nu) (se := se) (sq := sq) (z := z) (p := p) (b := b) (dir := dir)
    have hb64 := (right_bd h1).2.2.1
    obtain ⟨L1, eL1⟩ : ∃ L, blocksC nu se sq z p b dir = L := ⟨_, rfl⟩
    rw [eL1] at hkb hrd hlen hbb hby
    have HRD := Lib.hid hrd
    have HLEN := Lib.hid (And.intro hlen hfit)
    have HBB := Lib.hid (And.intro hbb hby)
    clear hrd hbb hby eL1 hlen hfit
    obtain ⟨K, hK⟩ : ∃ K, L1.length = K := ⟨_, rfl⟩
    refine hkb.mono ?_
    rintro r w3 ⟨v1, rfl, hv1, hb⟩
    obtain ⟨A5, c5, rfl, _, hv1⟩ := rows_len' hv1 hK
    have HK := Lib.hid hK
    have HV4 := Lib.hid hv1
    have HB4 := Lib.hid (HB3.out.trans (hb.mono HB3.out.size))
    have HC4 := Lib.hid (HC3.out.up hb (lt_of_block HC3.out))
    have HBX := Lib.hid (Below.refl w3.heap.size w3)
    clear hb hv1 hkb HB3 HC3 hK a0 a1 a2 a3 a4 a5 a6
    go_wp2_with fail
    have HWX : Hid (∀ u, Below w3.heap.size w3 u → RowsAt u (.slice A5 K c5) L1) := Lib.hid (fun u hu => HV4.out.up hu)
    refine wp_region_in (fun u => KeptB w (kList nu se sq z p b (.slice A n cc)) u ∧ Below w3.heap.size w3 u) ⟨KeptB.up ⟨HB4.out, HC4.out⟩ (Below.refl _ _).drew, (Below.refl _ _).drew⟩ (by kernel_rfl) (by kernel_rfl) (fun ne => ?_)
    have a0 : ∀ q : In (fun u => KeptB w (kList nu se sq z p b (.slice A n cc)) u ∧ Below w3.heap.size w3 u), q.w.cell? ⟨w.heap.size, 0, none⟩ = some (.int .u32 nu) := fun q => q.ok.1.2.cell 0 (by simp)
    have a1 : ∀ q : In (fun u => KeptB w (kList nu se sq z p b (.slice A n cc)) u ∧ Below w3.heap.size w3 u), q.w.cell? ⟨w.heap.size, 1, none⟩ = some (.int .u32 se) := fun q => q.ok.1.2.cell 1 (by simp)
    have a2 : ∀ q : In (fun u => KeptB w (kList nu se sq z p b (.slice A n cc)) u ∧ Below w3.heap.size w3 u), q.w.cell? ⟨w.heap.size, 2, none⟩ = some (.int .u32 sq) := fun q => q.ok.1.2.cell 2 (by simp)
    have a3 : ∀ q : In (fun u => KeptB w (kList nu se sq z p b (.slice A n cc)) u ∧ Below w3.heap.size w3 u), q.w.cell? ⟨w.heap.size, 3, none⟩ = some (.int .i64 z) := fun q => q.ok.1.2.cell 3 (by simp)
    have a4 : ∀ q : In (fun u => KeptB w (kList nu se sq z p b (.slice A n cc)) u ∧ Below w3.heap.size w3 u), q.w.cell? ⟨w.heap.size, 4, none⟩ = some (.int .i64 p) := fun q => q.ok.1.2.cell 4 (by simp)
    have a5 : ∀ q : In (fun u => KeptB w (kList nu se sq z p b (.slice A n cc)) u ∧ Below w3.heap.size w3 u), q.w.cell? ⟨w.heap.size, 5, none⟩ = some (.int .i64 b) := fun q => q.ok.1.2.cell 5 (by simp)
    have a6 : ∀ q : In (fun u => KeptB w (kList nu se sq z p b (.slice A n cc)) u ∧ Below w3.heap.size w3 u), q.w.cell? ⟨w.heap.size, 6, none⟩ = some (.slice A n cc) := fun q => q.ok.1.2.cell 6 (by simp)
    have rK := fun q : In (fun u => KeptB w (kList nu se sq z p b (.slice A n cc)) u ∧ Below w3.heap.size w3 u) => kright_is nu se sq z p b A n cc q.w HZ.out.1 HZ.out.2.1 HZ.out.2.2
    rw [h1] at rK
    repeat (go_big_quiet_step (first
      | (go_at_call 19; with_reducible exact In.more (fun h1 h2 => ⟨h1.1.up h2, below_all h1.2 h2⟩) (rK _))))
    refine wpQuiet_nil ?_
    intro nq
    have HB5 := Lib.hid nq.ok.1.1
    have HC5 := Lib.hid nq.ok.1.2
    have HV5 := Lib.hid (HWX.out _ nq.ok.2)
    clear rK a0 a1 a2 a3 a4 a5 a6 HB4 HC4 HWX HV4 HBX
    go_wp2_with fail
    have hkr := kread_all HV5.out HBB.out.2 (by have := HBB.out.1.1; omega) HBB.out.1.2
    unfold ReadIs at hkr
    rw [HRD.out.1, HRD.out.2.1, HRD.out.2.2.1, HRD.out.2.2.2.1, HRD.out.2.2.2.2.1, HRD.out.2.2.2.2.2.1, HRD.out.2.2.2.2.2.2.1, HRD.out.2.2.2.2.2.2.2, show errV 0 = Value.nilIface from if_pos rfl] at hkr
    refine hkr.mono ?_
    rintro r w5 ⟨S3, rfl, hS, hb⟩
    obtain ⟨A3, c3, rfl, _, hS⟩ := nums_len hS HL.out
    have hb6 : Below nq.w.heap.size nq.w (w5.alloc (.cells (kCells nu se sq z p b (.slice A3 n c3)) 27)) := hb.alloc hb.size _
    have HB6 := Lib.hid (HB5.out.trans (hb6.mono HB5.out.size))
    have HC6 := Lib.hid (HC5.out.up hb6 (lt_of_block HC5.out))
    have HD6 := Lib.hid (blk_new w5 (kList nu se sq z p b (.slice A3 n c3)) 27)
    have HS6 := Lib.hid (hS.up (Below.alloc (Below.refl w5.heap.size w5) (Nat.le_refl _) (.cells (kCells nu se sq z p b (.slice A3 n c3)) 27)))
    clear hb hb6 hS hkr HB5 HC5 HV5
    obtain ⟨D, hD⟩ : ∃ D, w5.heap.size = D := ⟨_, rfl⟩
    obtain ⟨w6, hw6⟩ : ∃ w6 : World, w6 = w5.alloc (.cells (kCells nu se sq z p b (.slice A3 n c3)) 27) := ⟨_, rfl⟩
    rw [show w5.alloc (.cells (kList nu se sq z p b (.slice A3 n c3)).toArray 27) = w6 from hw6.symm, hD] at HD6
    rw [← hw6] at HB6 HC6 HS6
    have a0 : w6.cell? ⟨w.heap.size, 0, none⟩ = some (.int .u32 nu) := HC6.out.cell 0 (by simp)
    have a1 : w6.cell? ⟨w.heap.size, 1, none⟩ = some (.int .u32 se) := HC6.out.cell 1 (by simp)
    have a2 : w6.cell? ⟨w.heap.size, 2, none⟩ = some (.int .u32 sq) := HC6.out.cell 2 (by simp)
    have a3 : w6.cell? ⟨w.heap.size, 3, none⟩ = some (.int .i64 z) := HC6.out.cell 3 (by simp)
    have a4 : w6.cell? ⟨w.heap.size, 4, none⟩ = some (.int .i64 p) := HC6.out.cell 4 (by simp)
    have a5 : w6.cell? ⟨w.heap.size, 5, none⟩ = some (.int .i64 b) := HC6.out.cell 5 (by simp)
    have a6 : w6.cell? ⟨w.heap.size, 6, none⟩ = some (.slice A n cc) := HC6.out.cell 6 (by simp)
    rw [hw6] at a0 a1 a2 a3 a4 a5 a6
    go_wp2_with fail
    rw [← hw6, hD] at *
    refine (ksame_is (c := cc) (c2 := c3) nu se sq z p b nu se sq z p b (HRR.out.up HB6.out) HS6.out HL.out HL.out (by omega) (by omega)).mono ?_
    rw [sameC_self]
    rintro r w7 ⟨rfl, hb⟩
    have HB7 := Lib.hid (HB6.out.trans (hb.mono HB6.out.size))
    have HC7 := Lib.hid (HC6.out.up hb (lt_of_block HC6.out))
    clear hb HB6 HC6 HD6 HS6 a0 a1 a2 a3 a4 a5 a6
    have a4 : w7.cell? ⟨w.heap.size, 4, none⟩ = some (.int .i64 p) := HC7.out.cell 4 (by simp)
    have a5 : w7.cell? ⟨w.heap.size, 5, none⟩ = some (.int .i64 b) := HC7.out.cell 5 (by simp)
    have hKp : (K : Int) ≤ p := by have h1 := HLEN.out.1; have h2 := HLEN.out.2; have h3 := HK.out; omega
    have qKp : decide (p < (K : Int)) = false := by simp; omega
    go_wp2_with fail
    refine (kmany_is b w7 hb64.1 hb64.2).mono ?_
    rw [show manyC b = (K : Int) by have h1 := HLEN.out.1; have h3 := HK.out; omega]
    rintro r w8 ⟨rfl, hb⟩
    have HBT := Lib.hid (HB7.out.trans (hb.mono HB7.out.size))
    clear hb HB7 HC7 a4 a5
    go_wp2_with fail
    have hkr := kread_all (HROW.out _ HBT.out) HX.out (by have := HBD.out.1; omega) (fun x hx => by have := HBD.out.2 x hx; omega)
    unfold ReadIs at hkr
    by_cases hE : readGE l = 0
    · have hrw := rd_words HX.out hE
      have hdl := readDir_len (l := l)
      rw [hE, show errV 0 = Value.nilIface from if_pos rfl] at hkr
      obtain ⟨r0, e0⟩ : ∃ x, rdN l 0 = x := ⟨_, rfl⟩
      obtain ⟨r1, e1⟩ : ∃ x, rdN l 1 = x := ⟨_, rfl⟩
      obtain ⟨r2, e2⟩ : ∃ x, rdN l 2 = x := ⟨_, rfl⟩
      obtain ⟨r3, e3⟩ : ∃ x, rdN l 3 = x := ⟨_, rfl⟩
      obtain ⟨r4, e4⟩ : ∃ x, rdN l 4 = x := ⟨_, rfl⟩
      obtain ⟨r5, e5⟩ : ∃ x, rdN l 5 = x := ⟨_, rfl⟩
      obtain ⟨dirR, e6⟩ : ∃ x, rdD l = x := ⟨_, rfl⟩
      rw [e0, e1, e2, e3, e4, e5, e6] at hkr hrw
      rw [e6] at hdl
      clear e0 e1 e2 e3 e4 e5 e6
      have HRW := Lib.hid hrw
      clear hrw hE
      obtain ⟨k, hk⟩ : ∃ k, dirR.length = k := ⟨_, rfl⟩
      have HKL := Lib.hid hk
      rw [hk] at hdl
      clear hk
      refine hkr.mono ?_
      rintro r wx ⟨S4, rfl, hS, hb⟩
      obtain ⟨A4, c4, rfl, _, hS⟩ := nums_len hS HKL.out
      have HBU := Lib.hid ((HBT.out.trans (hb.mono HBT.out.size)).alloc (Nat.le_trans HBT.out.size hb.size) (.cells (kCells r0 r1 r2 r3 r4 r5 (.slice A4 k c4)) 27))
      have HS4 := Lib.hid (hS.up (Below.alloc (Below.refl wx.heap.size wx) (Nat.le_refl _) (.cells (kCells r0 r1 r2 r3 r4 r5 (.slice A4 k c4)) 27)))
      clear hb hS hkr HBT
      go_wp2_with fail
      obtain ⟨wy, hwy⟩ : ∃ wy : World, wy = wx.alloc (.cells (kCells r0 r1 r2 r3 r4 r5 (.slice A4 k c4)) 27) := ⟨_, rfl⟩
      rw [← hwy] at HBU HS4 ⊢
      clear hwy
      have hkb := kblocks_all (c := c4) r0 r1 r2 r3 r4 r5 HS4.out HKL.out HRW.out.2.2.1 HRW.out.2.2.2.1 HRW.out.2.2.2.2.1 HRW.out.2.2.2.2.2
      have hrr : rightC r3 r4 r5 k = true := by have := HRW.out.1; rwa [HKL.out] at this
      rw [if_pos hrr, if_pos hrr, show errV 0 = Value.nilIface from if_pos rfl, HRW.out.2.1] at hkb
      refine hkb.mono ?_
      rintro r wz ⟨v2, rfl, hv2, hb⟩
      have HBW := Lib.hid (HBU.out.trans (hb.mono HBU.out.size))
      have HV2 := Lib.hid hv2
      clear hb hv2 hkb HBU HS4 hrr
      go_wp2_with fail
      have hsr := rows_same HV2.out (HROW.out _ HBW.out) (by have := HBD.out.1; omega) (fun x hx => by have := HBD.out.2 x hx; omega)
      rw [decide_eq_true (rfl : l = l)] at hsr
      refine hsr.mono ?_
      rintro r wu ⟨rfl, hb⟩
      have HBZ := Lib.hid (HBW.out.trans (hb.mono HBW.out.size))
      clear hb hsr HBW HV2
      go_wp2_with fail
      go_ret
      exact ⟨rfl, HBZ.out⟩
    · unfold rdN rdD at hkr
      simp only [if_neg hE] at hkr
      rw [show errV (readGE l) = Value.iface 35 (.int .i64 (readGE l)) from if_neg hE] at hkr
      obtain ⟨e, he⟩ : ∃ e, readGE l = e := ⟨_, rfl⟩
      rw [he] at hkr
      clear he hE
      refine hkr.mono ?_
      rintro r wx ⟨S4, rfl, hS, hb⟩
      obtain ⟨A4, c4, rfl, _, hS⟩ := nums_len hS (show ([] : List Int).length = 0 from rfl)
      have HBU := Lib.hid ((HBT.out.trans (hb.mono HBT.out.size)).alloc (Nat.le_trans HBT.out.size hb.size) (.cells (kCells 0 0 0 0 0 0 (.slice A4 0 c4)) 27))
      clear hb hS hkr HBT
      go_wp2_with fail
      refine (ksame_is (n := 0) (m := 0) (c := c4) (c2 := 0) 0 0 0 0 0 0 0 0 0 0 0 0 (dir := []) (dir2 := []) RdV.nil RdV.nil rfl rfl (by omega) (by omega)).mono ?_
      rw [sameC_self]
      rintro r wy ⟨rfl, hb⟩
      have HBZ := Lib.hid (HBU.out.trans (hb.mono HBU.out.size))
      clear hb HBU
      go_wp2_with fail
      go_ret
      exact ⟨rfl, HBZ.out⟩
  · have h1' : rightC z p b n = false := by simpa using h1
    rw [if_neg h1, if_neg h1, show errV 1 = Value.iface 35 (.int .i64 1) from if_neg (by omega)] at hkb
    refine hkb.mono ?_
    rintro r w3 ⟨v1, rfl, hv1, hb⟩
    obtain ⟨A5, c5, rfl, _, _⟩ := rows_len' hv1 rfl
    have HB4 := Lib.hid (HB3.out.trans (hb.mono HB3.out.size))
    have HC4 := Lib.hid (HC3.out.up hb (lt_of_block HC3.out))
    clear hb hv1 hkb HB3 HC3 a0 a1 a2 a3 a4 a5 a6
    go_wp2_with fail
    refine wp_region_in (KeptB w (kList nu se sq z p b (.slice A n cc))) (KeptB.up ⟨HB4.out, HC4.out⟩ (Below.refl _ _).drew) (by kernel_rfl) (by kernel_rfl) (fun ne => ?_)
    have a0 : ∀ q : In (KeptB w (kList nu se sq z p b (.slice A n cc))), q.w.cell? ⟨w.heap.size, 0, none⟩ = some (.int .u32 nu) := fun q => q.ok.2.cell 0 (by simp)
    have a1 : ∀ q : In (KeptB w (kList nu se sq z p b (.slice A n cc))), q.w.cell? ⟨w.heap.size, 1, none⟩ = some (.int .u32 se) := fun q => q.ok.2.cell 1 (by simp)
    have a2 : ∀ q : In (KeptB w (kList nu se sq z p b (.slice A n cc))), q.w.cell? ⟨w.heap.size, 2, none⟩ = some (.int .u32 sq) := fun q => q.ok.2.cell 2 (by simp)
    have a3 : ∀ q : In (KeptB w (kList nu se sq z p b (.slice A n cc))), q.w.cell? ⟨w.heap.size, 3, none⟩ = some (.int .i64 z) := fun q => q.ok.2.cell 3 (by simp)
    have a4 : ∀ q : In (KeptB w (kList nu se sq z p b (.slice A n cc))), q.w.cell? ⟨w.heap.size, 4, none⟩ = some (.int .i64 p) := fun q => q.ok.2.cell 4 (by simp)
    have a5 : ∀ q : In (KeptB w (kList nu se sq z p b (.slice A n cc))), q.w.cell? ⟨w.heap.size, 5, none⟩ = some (.int .i64 b) := fun q => q.ok.2.cell 5 (by simp)
    have a6 : ∀ q : In (KeptB w (kList nu se sq z p b (.slice A n cc))), q.w.cell? ⟨w.heap.size, 6, none⟩ = some (.slice A n cc) := fun q => q.ok.2.cell 6 (by simp)
    have rK := fun q : In (KeptB w (kList nu se sq z p b (.slice A n cc))) => kright_is nu se sq z p b A n cc q.w HZ.out.1 HZ.out.2.1 HZ.out.2.2
    rw [h1'] at rK
    repeat (go_big_quiet_step (first
      | (go_at_call 19; with_reducible exact In.more KeptB.up (rK _))))
    refine wpQuiet_nil ?_
    intro nq
    have HB5 := Lib.hid nq.ok.1
    have HC5 := Lib.hid nq.ok.2
    clear rK a0 a1 a2 a3 a4 a5 a6 HB4 HC4
    go_wp2_with fail
    have HBT := Lib.hid HB5.out
    clear HB5 HC5
    have hkr := kread_all (HROW.out _ HBT.out) HX.out (by have := HBD.out.1; omega) (fun x hx => by have := HBD.out.2 x hx; omega)
    unfold ReadIs at hkr
    by_cases hE : readGE l = 0
    · have hrw := rd_words HX.out hE
      have hdl := readDir_len (l := l)
      rw [hE, show errV 0 = Value.nilIface from if_pos rfl] at hkr
      obtain ⟨r0, e0⟩ : ∃ x, rdN l 0 = x := ⟨_, rfl⟩
      obtain ⟨r1, e1⟩ : ∃ x, rdN l 1 = x := ⟨_, rfl⟩
      obtain ⟨r2, e2⟩ : ∃ x, rdN l 2 = x := ⟨_, rfl⟩
      obtain ⟨r3, e3⟩ : ∃ x, rdN l 3 = x := ⟨_, rfl⟩
      obtain ⟨r4, e4⟩ : ∃ x, rdN l 4 = x := ⟨_, rfl⟩
      obtain ⟨r5, e5⟩ : ∃ x, rdN l 5 = x := ⟨_, rfl⟩
      obtain ⟨dirR, e6⟩ : ∃ x, rdD l = x := ⟨_, rfl⟩
      rw [e0, e1, e2, e3, e4, e5, e6] at hkr hrw
      rw [e6] at hdl
      clear e0 e1 e2 e3 e4 e5 e6
      have HRW := Lib.hid hrw
      clear hrw hE
      obtain ⟨k, hk⟩ : ∃ k, dirR.length = k := ⟨_, rfl⟩
      have HKL := Lib.hid hk
      rw [hk] at hdl
      clear hk
      refine hkr.mono ?_
      rintro r wx ⟨S4, rfl, hS, hb⟩
      obtain ⟨A4, c4, rfl, _, hS⟩ := nums_len hS HKL.out
      have HBU := Lib.hid ((HBT.out.trans (hb.mono HBT.out.size)).alloc (Nat.le_trans HBT.out.size hb.size) (.cells (kCells r0 r1 r2 r3 r4 r5 (.slice A4 k c4)) 27))
      have HS4 := Lib.hid (hS.up (Below.alloc (Below.refl wx.heap.size wx) (Nat.le_refl _) (.cells (kCells r0 r1 r2 r3 r4 r5 (.slice A4 k c4)) 27)))
      clear hb hS hkr HBT
      go_wp2_with fail
      obtain ⟨wy, hwy⟩ : ∃ wy : World, wy = wx.alloc (.cells (kCells r0 r1 r2 r3 r4 r5 (.slice A4 k c4)) 27) := ⟨_, rfl⟩
      rw [← hwy] at HBU HS4 ⊢
      clear hwy
      have hkb := kblocks_all (c := c4) r0 r1 r2 r3 r4 r5 HS4.out HKL.out HRW.out.2.2.1 HRW.out.2.2.2.1 HRW.out.2.2.2.2.1 HRW.out.2.2.2.2.2
      have hrr : rightC r3 r4 r5 k = true := by have := HRW.out.1; rwa [HKL.out] at this
      rw [if_pos hrr, if_pos hrr, show errV 0 = Value.nilIface from if_pos rfl, HRW.out.2.1] at hkb
      refine hkb.mono ?_
      rintro r wz ⟨v2, rfl, hv2, hb⟩
      have HBW := Lib.hid (HBU.out.trans (hb.mono HBU.out.size))
      have HV2 := Lib.hid hv2
      clear hb hv2 hkb HBU HS4 hrr
      go_wp2_with fail
      have hsr := rows_same HV2.out (HROW.out _ HBW.out) (by have := HBD.out.1; omega) (fun x hx => by have := HBD.out.2 x hx; omega)
      rw [decide_eq_true (rfl : l = l)] at hsr
      refine hsr.mono ?_
      rintro r wu ⟨rfl, hb⟩
      have HBZ := Lib.hid (HBW.out.trans (hb.mono HBW.out.size))
      clear hb hsr HBW HV2
      go_wp2_with fail
      go_ret
      exact ⟨rfl, HBZ.out⟩
    · unfold rdN rdD at hkr
      simp only [if_neg hE] at hkr
      rw [show errV (readGE l) = Value.iface 35 (.int .i64 (readGE l)) from if_neg hE] at hkr
      obtain ⟨e, he⟩ : ∃ e, readGE l = e := ⟨_, rfl⟩
      rw [he] at hkr
      clear he hE
      refine hkr.mono ?_
      rintro r wx ⟨S4, rfl, hS, hb⟩
      obtain ⟨A4, c4, rfl, _, hS⟩ := nums_len hS (show ([] : List Int).length = 0 from rfl)
      have HBU := Lib.hid ((HBT.out.trans (hb.mono HBT.out.size)).alloc (Nat.le_trans HBT.out.size hb.size) (.cells (kCells 0 0 0 0 0 0 (.slice A4 0 c4)) 27))
      clear hb hS hkr HBT
      go_wp2_with fail
      refine (ksame_is (n := 0) (m := 0) (c := c4) (c2 := 0) 0 0 0 0 0 0 0 0 0 0 0 0 (dir := []) (dir2 := []) RdV.nil RdV.nil rfl rfl (by omega) (by omega)).mono ?_
      rw [sameC_self]
      rintro r wy ⟨rfl, hb⟩
      have HBZ := Lib.hid (HBU.out.trans (hb.mono HBU.out.size))
      clear hb HBU
      go_wp2_with fail
      go_ret
      exact ⟨rfl, HBZ.out⟩
end Go.Proofs.YtknllfhokjedkaaDoor
