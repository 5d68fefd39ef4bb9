/-
  Package ckpt's small functions: seal, Many, Right, Same; slices.Equal of numbers.
-/
import Derived.Test.YtknllfhokjedkaaDoorCkptB
namespace Go.Proofs.YtknllfhokjedkaaDoor
open Go.RowKit

theorem seal_is (n : Int) (w : World) (h : 0 ≤ n) (h2 : n ≤ 1000000) : Calls Tryd.prog 32 #[.int .i64 n] w (IntIs (6 + tab n) w) := by
  have ht : 0 ≤ tab n ∧ tab n ≤ 1000000 := by
    unfold tab
    split <;> omega
  go_enter Tryd.func32, Tryd.ntmps32
  go_wp2_with fail
  refine (tables_is _ _ (by omega)).mono ?_
  rintro r w' ⟨rfl, rfl⟩
  generalize tab n = t at *
  go_wp2_with fail
  go_ret
  exact ⟨rfl, rfl⟩
theorem kmanyq_is (n : Int) (w : World) (h : 0 ≤ n) (h2 : n ≤ 1000000) : Calls Tryd.prog 14 #[.int .i64 n] w (IntIs (manyC n) w) := by
  have ht : 0 ≤ tab n ∧ tab n ≤ 1000000 := by
    unfold tab
    split <;> omega
  go_enter Tryd.func14, Tryd.ntmps14
  go_wp2_with fail
  refine (seal_is _ _ h h2).mono ?_
  rintro r w' ⟨rfl, rfl⟩
  have HM : Hid (manyC n = (4 * (7 + tab n) + 15) / 16) := Lib.hid rfl
  generalize tab n = t at *
  go_wp2_with fail
  go_ret
  exact ⟨ret_int (by rw [HM.out]; omega), rfl⟩
theorem kmany_is (n : Int) (w : World) (h : 1 ≤ n) (h2 : n ≤ 64) : Calls Tryd.prog 14 #[.int .i64 n] w (IntB (manyC n) w) := by
  refine (kmanyq_is n w (by omega) (by omega)).mono ?_
  rintro r w' ⟨rfl, rfl⟩
  exact ⟨rfl, Below.refl _ _⟩

set_option maxHeartbeats 1000000 in
theorem krightq_is (nu se sq z p b : Int) (A : Option Addr) (n c : Nat) (w : World) : Calls Tryd.prog 19 #[kV nu se sq z p b (.slice A n c)] w (BoolB (rightC z p b n) w) := by
  have HK : Hid (KeptK w 27 (kList nu se sq z p b (.slice A n c)) (w.alloc (.cells (kCells nu se sq z p b (.slice A n c)) 27)).drew) := Lib.hid ((KeptK.new w 27 (kList nu se sq z p b (.slice A n c))).up (Below.refl _ _).drew)
  by_cases hr : rightB z p b = true
  · have hb : 1 ≤ b ∧ b ≤ 64 := by
      unfold rightB at hr
      have := (bnd_bd z p).2
      simp only [decide_eq_true_eq] at hr
      omega
    have HE : Hid (rightC z p b n = decide ((n : Int) = tab b)) := Lib.hid (by unfold rightC; rw [hr, Bool.true_and])
    go_enter Tryd.func19, Tryd.ntmps19
    go_wp2_with fail
    refine wp_region_in (KeptK w 27 (kList nu se sq z p b (.slice A n c))) HK.out (by kernel_rfl) (by kernel_rfl) (fun ne => ?_)
    have c3 := fun q : In (KeptK w 27 (kList nu se sq z p b (.slice A n c))) => q.ok.2.cell 3 (by simp)
    have c4 := fun q : In (KeptK w 27 (kList nu se sq z p b (.slice A n c))) => q.ok.2.cell 4 (by simp)
    have c5 := fun q : In (KeptK w 27 (kList nu se sq z p b (.slice A n c))) => q.ok.2.cell 5 (by simp)
    have c6 := fun q : In (KeptK w 27 (kList nu se sq z p b (.slice A n c))) => q.ok.2.cell 6 (by simp)
    have rD := fun q : In (KeptK w 27 (kList nu se sq z p b (.slice A n c))) => right_is z p b q.w
    rw [hr] at rD
    have tD := fun q : In (KeptK w 27 (kList nu se sq z p b (.slice A n c))) => tables_is b q.w (by omega)
    obtain ⟨t, ht⟩ : ∃ t, tab b = t := ⟨_, rfl⟩
    rw [ht] at tD HE
    repeat (go_big_quiet_step (first
      | (go_at_call 31; with_reducible exact In.more KeptK.up (rD _))
      | (go_at_call 41; with_reducible exact In.same (tD _))))
    refine wpQuiet_nil ?_
    intro nq
    have HB := Lib.hid nq.ok.1
    clear c3 c4 c5 c6 rD tD
    go_wp2_with fail
    go_ret
    exact ⟨ret_bool (by rw [HE.out]; by_cases h : (n : Int) = t <;> simp [h]), HB.out⟩
  · have hr' : rightB z p b = false := by simpa using hr
    have HE : Hid (rightC z p b n = false) := Lib.hid (by unfold rightC; rw [hr', Bool.false_and])
    go_enter Tryd.func19, Tryd.ntmps19
    go_wp2_with fail
    refine wp_region_in (KeptK w 27 (kList nu se sq z p b (.slice A n c))) HK.out (by kernel_rfl) (by kernel_rfl) (fun ne => ?_)
    have c3 := fun q : In (KeptK w 27 (kList nu se sq z p b (.slice A n c))) => q.ok.2.cell 3 (by simp)
    have c4 := fun q : In (KeptK w 27 (kList nu se sq z p b (.slice A n c))) => q.ok.2.cell 4 (by simp)
    have c5 := fun q : In (KeptK w 27 (kList nu se sq z p b (.slice A n c))) => q.ok.2.cell 5 (by simp)
    have rD := fun q : In (KeptK w 27 (kList nu se sq z p b (.slice A n c))) => right_is z p b q.w
    rw [hr'] at rD
    repeat (go_big_quiet_step (first
      | (go_at_call 31; with_reducible exact In.more KeptK.up (rD _))))
    refine wpQuiet_nil ?_
    intro nq
    have HB := Lib.hid nq.ok.1
    clear c3 c4 c5 rD
    go_wp2_with fail
    go_ret
    exact ⟨ret_bool (by rw [HE.out]), HB.out⟩

theorem equ_len {A A2 : Option Addr} {n m c c2 : Nat} {w : World} (h : n ≠ m) : Calls Tryd.prog 42 #[.slice A n c, .slice A2 m c2] w (BoolB false w) := by
  have q : ((n : Int) == (m : Int)) = false := by simp; omega
  go_enter Tryd.func42, Tryd.ntmps42
  go_wp2_with fail
  go_ret
  exact ⟨rfl, Below.refl _ _⟩
set_option maxHeartbeats 1000000 in
theorem equ_eq {A A2 : Option Addr} {xs ys : List Int} {c c2 : Nat} {w : World} (hr : RdV w w.heap.size A (u32s xs)) (hr2 : RdV w w.heap.size A2 (u32s ys)) (hl : ys.length = xs.length) (hn : xs.length ≤ 1000000) : Calls Tryd.prog 42 #[.slice A xs.length c, .slice A2 xs.length c2] w (BoolB (decide (xs = ys)) w) := by
  have HR := Lib.hid hr
  have HR2 := Lib.hid hr2
  have HL := Lib.hid hl
  clear hr hr2 hl
  go_enter Tryd.func42, Tryd.ntmps42
  go_wp2_with fail
  go_loopg [13] xs.length (fun n i wr => ∃ k : Nat, k ≤ xs.length ∧ n = xs.length - k ∧ i = .int .i64 k ∧ xs.take k = ys.take k ∧ Below w.heap.size w wr)
  case atStart => exact ⟨0, by omega, by omega, rfl, rfl, Below.refl _ _⟩
  case round =>
    obtain ⟨k, hk, hm, rfl, ht, hb⟩ := hrel
    have HB := Lib.hid hb
    have HM := Lib.hid hm
    have HT := Lib.hid ht
    clear hb hm ht
    by_cases hlt : k < xs.length
    · have hlt2 : k < ys.length := by rw [HL.out]; exact hlt
      obtain ⟨b, o, rfl, hbl, hcell⟩ := (HR.out.below HB.out) (by rw [u32s_len]; omega)
      obtain ⟨b2, o2, rfl, hbl2, hcell2⟩ := (HR2.out.below HB.out) (by rw [u32s_len]; omega)
      have c0 := hcell k (by rw [u32s_len]; exact hlt)
      have c1 := hcell2 k (by rw [u32s_len]; exact hlt2)
      rw [u32s_get] at c0 c1
      clear hcell hcell2
      by_cases he : xs[k] = ys[k]
      · have HS := Lib.hid (same_step hlt hlt2 HT.out he)
        rw [← he] at c1
        generalize xs[k] = x at *
        have q : (x == x) = true := by simp
        go_wp2_with fail
        go_region
        go_wp2_with fail
        go_roundg (xs.length - (k + 1))
        case rel => exact ⟨k + 1, by omega, rfl, by go_num, HS.out, HB.out.drew⟩
        case measure => have := HM.out; omega
      · have HS := Lib.hid (same_no hlt hlt2 he)
        have q : (xs[k] == ys[k]) = false := by simp [he]
        go_wp2_with fail
        go_region
        go_wp2_with fail
        go_ret
        exact ⟨by rw [HS.out]; rfl, HB.out.drew⟩
    · obtain rfl : k = xs.length := by omega
      have HS : Hid (decide (xs = ys) = true) := Lib.hid (by
        have := HT.out
        rw [List.take_length, ← HL.out, List.take_length] at this
        simpa using this)
      go_wp2_with fail
      go_ret
      exact ⟨by rw [HS.out]; rfl, HB.out⟩
theorem equ_is {A A2 : Option Addr} {xs ys : List Int} {n m c c2 : Nat} {w : World} (hr : RdV w w.heap.size A (u32s xs)) (hr2 : RdV w w.heap.size A2 (u32s ys)) (hl : xs.length = n) (hl2 : ys.length = m) (hn : n ≤ 1000000) : Calls Tryd.prog 42 #[.slice A n c, .slice A2 m c2] w (BoolB (decide (xs = ys)) w) := by
  subst hl hl2
  by_cases h : xs.length = ys.length
  · have := equ_eq (c := c) (c2 := c2) hr hr2 h.symm hn
    rwa [h] at this ⊢
  · have e : decide (xs = ys) = false := by
      simp only [decide_eq_false_iff_not]
      rintro rfl
      exact h rfl
    rw [e]
    exact equ_len h

set_option maxHeartbeats 1000000 in
theorem ksameq_is {A A2 : Option Addr} {dir dir2 : List Int} {n m c c2 : Nat} {w : World} (nu se sq z p b nu2 se2 sq2 z2 p2 b2 : Int) (hr : RdV w w.heap.size A (u32s dir)) (hr2 : RdV w w.heap.size A2 (u32s dir2)) (hl : dir.length = n) (hl2 : dir2.length = m) (hn : n ≤ 1000000) :
    Calls Tryd.prog 21 #[kV nu se sq z p b (.slice A n c), kV nu2 se2 sq2 z2 p2 b2 (.slice A2 m c2)] w (BoolB (sameC nu se sq z p b dir nu2 se2 sq2 z2 p2 b2 dir2) w) := by
  have HR := Lib.hid hr
  have HR2 := Lib.hid hr2
  have HL := Lib.hid hl
  have HL2 := Lib.hid hl2
  clear hr hr2 hl hl2
  have HB := Lib.hid (((Below.refl w.heap.size w).alloc (Nat.le_refl _) (.cells (kCells nu se sq z p b (.slice A n c)) 27)).alloc (by simp) (.cells (kCells nu2 se2 sq2 z2 p2 b2 (.slice A2 m c2)) 27))
  obtain ⟨g, hg⟩ : ∃ g, (decide (z = z2) && decide (p = p2) && decide (b = b2)) = g := ⟨_, rfl⟩
  have HS : Hid (sameC nu se sq z p b dir nu2 se2 sq2 z2 p2 b2 dir2 = (decide (nu = nu2) && decide (se = se2) && decide (sq = sq2) && g && decide (dir = dir2))) := Lib.hid (by unfold sameC; rw [hg])
  have he := eql_geo z p b z2 p2 b2
  rw [hg] at he
  have hgd := guard_geo
  clear hg
  by_cases h0 : nu = nu2
  · have q0 : (nu == nu2) = true := by simpa using h0
    by_cases h1 : se = se2
    · have q1 : (se == se2) = true := by simpa using h1
      by_cases h2 : sq = sq2
      · have q2 : (sq == sq2) = true := by simpa using h2
        cases g
        · have HV := Lib.hid (And.intro h0 (And.intro h1 h2))
          clear h0 h1 h2
          go_enter Tryd.func21, Tryd.ntmps21
          go_wp2_with fail
          go_ret
          exact ⟨ret_bool (by rw [HS.out]; simp), HB.out⟩
        · have HV := Lib.hid (And.intro h0 (And.intro h1 h2))
          clear h0 h1 h2
          go_enter Tryd.func21, Tryd.ntmps21
          go_wp2_with fail
          refine (equ_is (HR.out.up HB.out) (HR2.out.up HB.out) HL.out HL2.out hn).mono ?_
          rintro r w1 ⟨rfl, hb⟩
          have HB1 := Lib.hid (HB.out.trans (hb.mono HB.out.size))
          clear hb
          go_wp2_with fail
          go_ret
          exact ⟨ret_bool (by rw [HS.out]; simp [HV.out.1, HV.out.2.1, HV.out.2.2]), HB1.out⟩
      · have q2 : (sq == sq2) = false := by simpa using h2
        have HV := Lib.hid h2
        clear h0 h1 h2 he hgd
        go_enter Tryd.func21, Tryd.ntmps21
        go_wp2_with fail
        go_ret
        exact ⟨ret_bool (by rw [HS.out]; simp [HV.out]), HB.out⟩
    · have q1 : (se == se2) = false := by simpa using h1
      have HV := Lib.hid h1
      clear h0 h1 he hgd
      go_enter Tryd.func21, Tryd.ntmps21
      go_wp2_with fail
      go_ret
      exact ⟨ret_bool (by rw [HS.out]; simp [HV.out]), HB.out⟩
  · have q0 : (nu == nu2) = false := by simpa using h0
    have HV := Lib.hid h0
    clear h0 he hgd
    go_enter Tryd.func21, Tryd.ntmps21
    go_wp2_with fail
    go_ret
    exact ⟨ret_bool (by rw [HS.out]; simp [HV.out]), HB.out⟩
end Go.Proofs.YtknllfhokjedkaaDoor
