/-
  The document's Right, Numbers and Same of checkpoints.
  Package ckpt's small functions: seal, Many, Right, Same; slices.Equal of numbers.
  What sum.Add and sum.Of answer, and the document's Of. For a later stage's seat (SumA, B, C upon MemB).
-/
import Derived.Test.YthmpimjmajoimaaGreatDoorSr14
import Derived.Test.YthmpimjmajoimaaGreatDoorSr02
import Derived.Below
import Derived.Deep.LoopGhost
import Derived.Laws.BitsAllLaws
import Derived.Laws.Shifts
import Derived.Lib.Hide
import Derived.OneCell
import Derived.Outline
import Derived.RegionTactic
import Derived.WalkKit
import Derived.WalkLawsBesides
namespace Go.Proofs.YthmpimjmajoimaaGreatDoor
open Go.RowKit

theorem blk_new (w : World) (vs : List Value) (T : TypeId) : Blk (w.alloc (.cells vs.toArray T)) w.heap.size T vs := heap_alloc_new w _
def KeptK (w : World) (T : TypeId) (cs : List Value) (u : World) : Prop := Below w.heap.size w u ∧ Blk u w.heap.size T cs
theorem KeptK.up {w : World} {T : TypeId} {cs : List Value} {a u : World} (h : KeptK w T cs a) (hb : Below a.heap.size a u) : KeptK w T cs u := ⟨below_all h.1 hb, h.2.up hb (lt_of_block h.2)⟩
theorem KeptK.new (w : World) (T : TypeId) (cs : List Value) : KeptK w T cs (w.alloc (.cells cs.toArray T)) := ⟨(Below.refl _ _).alloc (Nat.le_refl _) _, blk_new w cs T⟩
abbrev kList (nu se sq z p b : Int) (S : Value) : List Value := [.int .u32 nu, .int .u32 se, .int .u32 sq, .int .i64 z, .int .i64 p, .int .i64 b, S]

/-! ### numbers compared -/
theorem num_len {A A2 : Option Addr} {n m c c2 : Nat} {w : World} (h : n ≠ m) : Calls Tryz.prog 56 #[.slice A n c, .slice A2 m c2] w (BoolB false w) := by
  have q : ((n : Int) == (m : Int)) = false := by simp; omega
  go_enter Tryz.func56, Tryz.ntmps56
  go_wp2_with fail
  go_ret
  exact ⟨rfl, Below.refl _ _⟩
set_option maxHeartbeats 1000000 in
theorem num_eq {A A2 : Option Addr} {xs ys : List Int} {c c2 : Nat} {w : World} (hr : RdV w w.heap.size A (u32s xs)) (hr2 : RdV w w.heap.size A2 (u32s ys)) (hl : ys.length = xs.length) (hn : xs.length ≤ 1000000) : Calls Tryz.prog 56 #[.slice A xs.length c, .slice A2 xs.length c2] w (BoolB (decide (xs = ys)) w) := by
  have HR := Lib.hid hr
  have HR2 := Lib.hid hr2
  have HL := Lib.hid hl
  clear hr hr2 hl
  go_enter Tryz.func56, Tryz.ntmps56
  go_wp2_with fail
  go_loopg [5] xs.length (fun n i wr => ∃ k : Nat, k ≤ xs.length ∧ n = xs.length - k ∧ i = .int .i64 k ∧ xs.take k = ys.take k ∧ Below w.heap.size w wr)
  case atStart => exact ⟨0, by omega, by omega, rfl, rfl, Below.refl _ _⟩
  case round =>
    obtain ⟨k, hk, hm, rfl, ht, hb⟩ := hrel
    have HB := Lib.hid hb
    have HM := Lib.hid hm
    have HT := Lib.hid ht
    clear hb hm ht
    by_cases hlt : k < xs.length
    · have hlt2 : k < ys.length := by rw [HL.out]; exact hlt
      obtain ⟨b, o, rfl, hbl, hcell⟩ := (HR.out.below HB.out) (by rw [u32s_len]; omega)
      obtain ⟨b2, o2, rfl, hbl2, hcell2⟩ := (HR2.out.below HB.out) (by rw [u32s_len]; omega)
      have c0 := hcell k (by rw [u32s_len]; exact hlt)
      have c1 := hcell2 k (by rw [u32s_len]; exact hlt2)
      rw [u32s_get] at c0 c1
      clear hcell hcell2
      by_cases he : xs[k] = ys[k]
      · have HS := Lib.hid (same_step hlt hlt2 HT.out he)
        rw [← he] at c1
        generalize xs[k] = x at *
        have q : (x == x) = true := by simp
        go_wp2_with fail
        go_region
        go_wp2_with fail
        go_roundg (xs.length - (k + 1))
        case rel => exact ⟨k + 1, by omega, rfl, by go_num, HS.out, HB.out.drew⟩
        case measure => have := HM.out; omega
      · have HS := Lib.hid (same_no hlt hlt2 he)
        have q : (xs[k] == ys[k]) = false := by simp [he]
        go_wp2_with fail
        go_region
        go_wp2_with fail
        go_ret
        exact ⟨by rw [HS.out]; rfl, HB.out.drew⟩
    · obtain rfl : k = xs.length := by omega
      have HS : Hid (decide (xs = ys) = true) := Lib.hid (by
        have := HT.out
        rw [List.take_length, ← HL.out, List.take_length] at this
        simpa using this)
      go_wp2_with fail
      go_ret
      exact ⟨by rw [HS.out]; rfl, HB.out⟩
theorem num_is {A A2 : Option Addr} {xs ys : List Int} {n m c c2 : Nat} {w : World} (hr : RdV w w.heap.size A (u32s xs)) (hr2 : RdV w w.heap.size A2 (u32s ys)) (hl : xs.length = n) (hl2 : ys.length = m) (hn : n ≤ 1000000) : Calls Tryz.prog 56 #[.slice A n c, .slice A2 m c2] w (BoolB (decide (xs = ys)) w) := by
  subst hl hl2
  by_cases h : xs.length = ys.length
  · have := num_eq (c := c) (c2 := c2) hr hr2 h.symm hn
    rwa [h] at this ⊢
  · have e : decide (xs = ys) = false := by
      simp only [decide_eq_false_iff_not]
      rintro rfl
      exact h rfl
    rw [e]
    exact num_len h

/-! ### checkpoints compared -/
theorem eq_rgeo (a b c x y z : Int) (w : World) : (Op.equalIn 10000 44 (.agg #[.int .i64 a, .int .i64 b, .int .i64 c]) (.agg #[.int .i64 x, .int .i64 y, .int .i64 z])).run Tryz.prog w = .ok (decide (a = x) && decide (b = y) && decide (c = z)) w := by
  have hS : Tryz.prog.underlying 44 = some (.struct (Tryz.prog.fieldsOf 44)) := by kernel_rfl
  have hp : Tryz.prog.stoodInHeld 44 = false := by kernel_rfl
  rw [show (10000 : Nat) = 9999 + 1 from rfl, run_equalIn_agg w 9999 44 _ _ hS hp]
  simp only [Program.fieldsOf, Tryz.underlying44]
  by_cases h1 : a = x <;> by_cases h2 : b = y <;> by_cases h3 : c = z <;> simp [Op.eqFields, go_sem, h1, h2, h3]
theorem guard_rgeo (o : BinOp) (x y : Operand) (xs ys : Array Value) (w : World) : (eqGuard o 44 x y (.agg xs) (.agg ys)).run Tryz.prog w = .ok () w := run_eqGuard_agg w o 44 x y xs ys (by kernel_rfl)
theorem eql_rgeo (a b c x y z : Int) (w : World) : (binOp .eql 44 (.agg #[.int .i64 a, .int .i64 b, .int .i64 c]) (.agg #[.int .i64 x, .int .i64 y, .int .i64 z])).run Tryz.prog w = .ok (.bool (decide (a = x) && decide (b = y) && decide (c = z))) w := by
  rw [run_eql_struct, eq_rgeo]
  rfl
/-- Is all the same? -/
def sameC (nu se sq z p b : Int) (dir : List Int) (nu2 se2 sq2 z2 p2 b2 : Int) (dir2 : List Int) : Bool :=
  decide (nu = nu2) && decide (se = se2) && decide (sq = sq2) && (decide (z = z2) && decide (p = p2) && decide (b = b2)) && decide (dir = dir2)
set_option maxHeartbeats 1000000 in
theorem rksame_is {A A2 : Option Addr} {dir dir2 : List Int} {n m c c2 : Nat} {w : World} (nu se sq z p b nu2 se2 sq2 z2 p2 b2 : Int) (hr : RdV w w.heap.size A (u32s dir)) (hr2 : RdV w w.heap.size A2 (u32s dir2)) (hl : dir.length = n) (hl2 : dir2.length = m) (hn : n ≤ 1000000) :
    Calls Tryz.prog 20 #[kV nu se sq z p b (.slice A n c), kV nu2 se2 sq2 z2 p2 b2 (.slice A2 m c2)] w (BoolB (sameC nu se sq z p b dir nu2 se2 sq2 z2 p2 b2 dir2) w) := by
  have HR := Lib.hid hr
  have HR2 := Lib.hid hr2
  have HL := Lib.hid hl
  have HL2 := Lib.hid hl2
  clear hr hr2 hl hl2
  have HB := Lib.hid (((Below.refl w.heap.size w).alloc (Nat.le_refl _) (.cells (kCellsq1 nu se sq z p b (.slice A n c)) 46)).alloc (by simp) (.cells (kCellsq1 nu2 se2 sq2 z2 p2 b2 (.slice A2 m c2)) 46))
  obtain ⟨g, hg⟩ : ∃ g, (decide (z = z2) && decide (p = p2) && decide (b = b2)) = g := ⟨_, rfl⟩
  have HS : Hid (sameC nu se sq z p b dir nu2 se2 sq2 z2 p2 b2 dir2 = (decide (nu = nu2) && decide (se = se2) && decide (sq = sq2) && g && decide (dir = dir2))) := Lib.hid (by unfold sameC; rw [hg])
  have he := eql_rgeo z p b z2 p2 b2
  rw [hg] at he
  have hgd := guard_rgeo .eql
  clear hg
  by_cases h0 : nu = nu2
  · have q0 : (nu == nu2) = true := by simpa using h0
    by_cases h1 : se = se2
    · have q1 : (se == se2) = true := by simpa using h1
      by_cases h2 : sq = sq2
      · have q2 : (sq == sq2) = true := by simpa using h2
        cases g
        · have HV := Lib.hid (And.intro h0 (And.intro h1 h2))
          clear h0 h1 h2
          go_enter Tryz.func20, Tryz.ntmps20
          go_wp2_with fail
          go_ret
          exact ⟨ret_bool (by rw [HS.out]; simp), HB.out⟩
        · have HV := Lib.hid (And.intro h0 (And.intro h1 h2))
          clear h0 h1 h2
          go_enter Tryz.func20, Tryz.ntmps20
          go_wp2_with fail
          refine (num_is (HR.out.up HB.out) (HR2.out.up HB.out) HL.out HL2.out hn).mono ?_
          rintro r w1 ⟨rfl, hb⟩
          have HB1 := Lib.hid (HB.out.trans (hb.mono HB.out.size))
          clear hb
          go_wp2_with fail
          go_ret
          exact ⟨ret_bool (by rw [HS.out]; simp [HV.out.1, HV.out.2.1, HV.out.2.2]), HB1.out⟩
      · have q2 : (sq == sq2) = false := by simpa using h2
        have HV := Lib.hid h2
        clear h0 h1 h2 he hgd
        go_enter Tryz.func20, Tryz.ntmps20
        go_wp2_with fail
        go_ret
        exact ⟨ret_bool (by rw [HS.out]; simp [HV.out]), HB.out⟩
    · have q1 : (se == se2) = false := by simpa using h1
      have HV := Lib.hid h1
      clear h0 h1 he hgd
      go_enter Tryz.func20, Tryz.ntmps20
      go_wp2_with fail
      go_ret
      exact ⟨ret_bool (by rw [HS.out]; simp [HV.out]), HB.out⟩
  · have q0 : (nu == nu2) = false := by simpa using h0
    have HV := Lib.hid h0
    clear h0 he hgd
    go_enter Tryz.func20, Tryz.ntmps20
    go_wp2_with fail
    go_ret
    exact ⟨ret_bool (by rw [HS.out]; simp [HV.out]), HB.out⟩
end Go.Proofs.YthmpimjmajoimaaGreatDoor
namespace Go.Proofs.YthmpimjmajoimaaGreatDoor
open Go.RowKit

theorem seal_is (n : Int) (w : World) (h : 0 ≤ n) (h2 : n ≤ 1000000) : Calls Tryz.prog 115 #[.int .i64 n] w (IntIs (6 + tab n) w) := by
  have ht : 0 ≤ tab n ∧ tab n ≤ 1000000 := by
    unfold tab
    split <;> omega
  go_enter Tryz.func115, Tryz.ntmps115
  go_wp2_with fail
  refine (tables_is _ _ (by omega)).mono ?_
  rintro r w' ⟨rfl, rfl⟩
  generalize tab n = t at *
  go_wp2_with fail
  go_ret
  exact ⟨rfl, rfl⟩
theorem kmanyq_is (n : Int) (w : World) (h : 0 ≤ n) (h2 : n ≤ 1000000) : Calls Tryz.prog 114 #[.int .i64 n] w (IntIs (manyC n) w) := by
  have ht : 0 ≤ tab n ∧ tab n ≤ 1000000 := by
    unfold tab
    split <;> omega
  go_enter Tryz.func114, Tryz.ntmps114
  go_wp2_with fail
  refine (seal_is _ _ h h2).mono ?_
  rintro r w' ⟨rfl, rfl⟩
  have HM : Hid (manyC n = (4 * (7 + tab n) + 15) / 16) := Lib.hid rfl
  generalize tab n = t at *
  go_wp2_with fail
  go_ret
  exact ⟨ret_int (by rw [HM.out]; omega), rfl⟩
set_option maxHeartbeats 1000000 in
theorem krightq_is (nu se sq z p b : Int) (A : Option Addr) (n c : Nat) (w : World) : Calls Tryz.prog 36 #[kV nu se sq z p b (.slice A n c)] w (BoolB (rightC z p b n) w) := by
  have HK : Hid (KeptK w 40 (kList nu se sq z p b (.slice A n c)) (w.alloc (.cells (kCellsq1 nu se sq z p b (.slice A n c)) 40)).drew) := Lib.hid ((KeptK.new w 40 (kList nu se sq z p b (.slice A n c))).up (Below.refl _ _).drew)
  by_cases hr : rightB z p b = true
  · have hb : 1 ≤ b ∧ b ≤ 64 := by
      unfold rightB at hr
      have := (bnd_bd z p).2
      simp only [decide_eq_true_eq] at hr
      omega
    have HE : Hid (rightC z p b n = decide ((n : Int) = tab b)) := Lib.hid (by unfold rightC; rw [hr, Bool.true_and])
    go_enter Tryz.func36, Tryz.ntmps36
    go_wp2_with fail
    refine wp_region_in (KeptK w 40 (kList nu se sq z p b (.slice A n c))) HK.out (by kernel_rfl) (by kernel_rfl) (fun ne => ?_)
    have c3 := fun q : In (KeptK w 40 (kList nu se sq z p b (.slice A n c))) => q.ok.2.cell 3 (by simp)
    have c4 := fun q : In (KeptK w 40 (kList nu se sq z p b (.slice A n c))) => q.ok.2.cell 4 (by simp)
    have c5 := fun q : In (KeptK w 40 (kList nu se sq z p b (.slice A n c))) => q.ok.2.cell 5 (by simp)
    have c6 := fun q : In (KeptK w 40 (kList nu se sq z p b (.slice A n c))) => q.ok.2.cell 6 (by simp)
    have rD := fun q : In (KeptK w 40 (kList nu se sq z p b (.slice A n c))) => right_is z p b q.w
    rw [hr] at rD
    have tD := fun q : In (KeptK w 40 (kList nu se sq z p b (.slice A n c))) => tables_is b q.w (by omega)
    obtain ⟨t, ht⟩ : ∃ t, tab b = t := ⟨_, rfl⟩
    rw [ht] at tD HE
    repeat (go_big_quiet_step (first
      | (go_at_call 73; with_reducible exact In.more KeptK.up (rD _))
      | (go_at_call 29; with_reducible exact In.same (tD _))))
    refine wpQuiet_nil ?_
    intro nq
    have HB := Lib.hid nq.ok.1
    clear c3 c4 c5 c6 rD tD
    go_wp2_with fail
    go_ret
    exact ⟨ret_bool (by rw [HE.out]; by_cases h : (n : Int) = t <;> simp [h]), HB.out⟩
  · have hr' : rightB z p b = false := by simpa using hr
    have HE : Hid (rightC z p b n = false) := Lib.hid (by unfold rightC; rw [hr', Bool.false_and])
    go_enter Tryz.func36, Tryz.ntmps36
    go_wp2_with fail
    refine wp_region_in (KeptK w 40 (kList nu se sq z p b (.slice A n c))) HK.out (by kernel_rfl) (by kernel_rfl) (fun ne => ?_)
    have c3 := fun q : In (KeptK w 40 (kList nu se sq z p b (.slice A n c))) => q.ok.2.cell 3 (by simp)
    have c4 := fun q : In (KeptK w 40 (kList nu se sq z p b (.slice A n c))) => q.ok.2.cell 4 (by simp)
    have c5 := fun q : In (KeptK w 40 (kList nu se sq z p b (.slice A n c))) => q.ok.2.cell 5 (by simp)
    have rD := fun q : In (KeptK w 40 (kList nu se sq z p b (.slice A n c))) => right_is z p b q.w
    rw [hr'] at rD
    repeat (go_big_quiet_step (first
      | (go_at_call 73; with_reducible exact In.more KeptK.up (rD _))))
    refine wpQuiet_nil ?_
    intro nq
    have HB := Lib.hid nq.ok.1
    clear c3 c4 c5 rD
    go_wp2_with fail
    go_ret
    exact ⟨ret_bool (by rw [HE.out]), HB.out⟩

theorem equ_len {A A2 : Option Addr} {n m c c2 : Nat} {w : World} (h : n ≠ m) : Calls Tryz.prog 67 #[.slice A n c, .slice A2 m c2] w (BoolB false w) := by
  have q : ((n : Int) == (m : Int)) = false := by simp; omega
  go_enter Tryz.func67, Tryz.ntmps67
  go_wp2_with fail
  go_ret
  exact ⟨rfl, Below.refl _ _⟩
set_option maxHeartbeats 1000000 in
theorem equ_eq {A A2 : Option Addr} {xs ys : List Int} {c c2 : Nat} {w : World} (hr : RdV w w.heap.size A (u32s xs)) (hr2 : RdV w w.heap.size A2 (u32s ys)) (hl : ys.length = xs.length) (hn : xs.length ≤ 1000000) : Calls Tryz.prog 67 #[.slice A xs.length c, .slice A2 xs.length c2] w (BoolB (decide (xs = ys)) w) := by
  have HR := Lib.hid hr
  have HR2 := Lib.hid hr2
  have HL := Lib.hid hl
  clear hr hr2 hl
  go_enter Tryz.func67, Tryz.ntmps67
  go_wp2_with fail
  go_loopg [13] xs.length (fun n i wr => ∃ k : Nat, k ≤ xs.length ∧ n = xs.length - k ∧ i = .int .i64 k ∧ xs.take k = ys.take k ∧ Below w.heap.size w wr)
  case atStart => exact ⟨0, by omega, by omega, rfl, rfl, Below.refl _ _⟩
  case round =>
    obtain ⟨k, hk, hm, rfl, ht, hb⟩ := hrel
    have HB := Lib.hid hb
    have HM := Lib.hid hm
    have HT := Lib.hid ht
    clear hb hm ht
    by_cases hlt : k < xs.length
    · have hlt2 : k < ys.length := by rw [HL.out]; exact hlt
      obtain ⟨b, o, rfl, hbl, hcell⟩ := (HR.out.below HB.out) (by rw [u32s_len]; omega)
      obtain ⟨b2, o2, rfl, hbl2, hcell2⟩ := (HR2.out.below HB.out) (by rw [u32s_len]; omega)
      have c0 := hcell k (by rw [u32s_len]; exact hlt)
      have c1 := hcell2 k (by rw [u32s_len]; exact hlt2)
      rw [u32s_get] at c0 c1
      clear hcell hcell2
      by_cases he : xs[k] = ys[k]
      · have HS := Lib.hid (same_step hlt hlt2 HT.out he)
        rw [← he] at c1
        generalize xs[k] = x at *
        have q : (x == x) = true := by simp
        go_wp2_with fail
        go_region
        go_wp2_with fail
        go_roundg (xs.length - (k + 1))
        case rel => exact ⟨k + 1, by omega, rfl, by go_num, HS.out, HB.out.drew⟩
        case measure => have := HM.out; omega
      · have HS := Lib.hid (same_no hlt hlt2 he)
        have q : (xs[k] == ys[k]) = false := by simp [he]
        go_wp2_with fail
        go_region
        go_wp2_with fail
        go_ret
        exact ⟨by rw [HS.out]; rfl, HB.out.drew⟩
    · obtain rfl : k = xs.length := by omega
      have HS : Hid (decide (xs = ys) = true) := Lib.hid (by
        have := HT.out
        rw [List.take_length, ← HL.out, List.take_length] at this
        simpa using this)
      go_wp2_with fail
      go_ret
      exact ⟨by rw [HS.out]; rfl, HB.out⟩
theorem equ_is {A A2 : Option Addr} {xs ys : List Int} {n m c c2 : Nat} {w : World} (hr : RdV w w.heap.size A (u32s xs)) (hr2 : RdV w w.heap.size A2 (u32s ys)) (hl : xs.length = n) (hl2 : ys.length = m) (hn : n ≤ 1000000) : Calls Tryz.prog 67 #[.slice A n c, .slice A2 m c2] w (BoolB (decide (xs = ys)) w) := by
  subst hl hl2
  by_cases h : xs.length = ys.length
  · have := equ_eq (c := c) (c2 := c2) hr hr2 h.symm hn
    rwa [h] at this ⊢
  · have e : decide (xs = ys) = false := by
      simp only [decide_eq_false_iff_not]
      rintro rfl
      exact h rfl
    rw [e]
    exact equ_len h

set_option maxHeartbeats 1000000 in
theorem ksameq_is {A A2 : Option Addr} {dir dir2 : List Int} {n m c c2 : Nat} {w : World} (nu se sq z p b nu2 se2 sq2 z2 p2 b2 : Int) (hr : RdV w w.heap.size A (u32s dir)) (hr2 : RdV w w.heap.size A2 (u32s dir2)) (hl : dir.length = n) (hl2 : dir2.length = m) (hn : n ≤ 1000000) :
    Calls Tryz.prog 31 #[kV nu se sq z p b (.slice A n c), kV nu2 se2 sq2 z2 p2 b2 (.slice A2 m c2)] w (BoolB (sameC nu se sq z p b dir nu2 se2 sq2 z2 p2 b2 dir2) w) := by
  have HR := Lib.hid hr
  have HR2 := Lib.hid hr2
  have HL := Lib.hid hl
  have HL2 := Lib.hid hl2
  clear hr hr2 hl hl2
  have HB := Lib.hid (((Below.refl w.heap.size w).alloc (Nat.le_refl _) (.cells (kCellsq1 nu se sq z p b (.slice A n c)) 40)).alloc (by simp) (.cells (kCellsq1 nu2 se2 sq2 z2 p2 b2 (.slice A2 m c2)) 40))
  obtain ⟨g, hg⟩ : ∃ g, (decide (z = z2) && decide (p = p2) && decide (b = b2)) = g := ⟨_, rfl⟩
  have HS : Hid (sameC nu se sq z p b dir nu2 se2 sq2 z2 p2 b2 dir2 = (decide (nu = nu2) && decide (se = se2) && decide (sq = sq2) && g && decide (dir = dir2))) := Lib.hid (by unfold sameC; rw [hg])
  have he := eql_geo z p b z2 p2 b2
  rw [hg] at he
  have hgd := guard_geo
  clear hg
  by_cases h0 : nu = nu2
  · have q0 : (nu == nu2) = true := by simpa using h0
    by_cases h1 : se = se2
    · have q1 : (se == se2) = true := by simpa using h1
      by_cases h2 : sq = sq2
      · have q2 : (sq == sq2) = true := by simpa using h2
        cases g
        · have HV := Lib.hid (And.intro h0 (And.intro h1 h2))
          clear h0 h1 h2
          go_enter Tryz.func31, Tryz.ntmps31
          go_wp2_with fail
          go_ret
          exact ⟨ret_bool (by rw [HS.out]; simp), HB.out⟩
        · have HV := Lib.hid (And.intro h0 (And.intro h1 h2))
          clear h0 h1 h2
          go_enter Tryz.func31, Tryz.ntmps31
          go_wp2_with fail
          refine (equ_is (HR.out.up HB.out) (HR2.out.up HB.out) HL.out HL2.out hn).mono ?_
          rintro r w1 ⟨rfl, hb⟩
          have HB1 := Lib.hid (HB.out.trans (hb.mono HB.out.size))
          clear hb
          go_wp2_with fail
          go_ret
          exact ⟨ret_bool (by rw [HS.out]; simp [HV.out.1, HV.out.2.1, HV.out.2.2]), HB1.out⟩
      · have q2 : (sq == sq2) = false := by simpa using h2
        have HV := Lib.hid h2
        clear h0 h1 h2 he hgd
        go_enter Tryz.func31, Tryz.ntmps31
        go_wp2_with fail
        go_ret
        exact ⟨ret_bool (by rw [HS.out]; simp [HV.out]), HB.out⟩
    · have q1 : (se == se2) = false := by simpa using h1
      have HV := Lib.hid h1
      clear h0 h1 he hgd
      go_enter Tryz.func31, Tryz.ntmps31
      go_wp2_with fail
      go_ret
      exact ⟨ret_bool (by rw [HS.out]; simp [HV.out]), HB.out⟩
  · have q0 : (nu == nu2) = false := by simpa using h0
    have HV := Lib.hid h0
    clear h0 he hgd
    go_enter Tryz.func31, Tryz.ntmps31
    go_wp2_with fail
    go_ret
    exact ⟨ret_bool (by rw [HS.out]; simp [HV.out]), HB.out⟩
end Go.Proofs.YthmpimjmajoimaaGreatDoor
namespace Go.Proofs.YthmpimjmajoimaaGreatDoor
open Go.RowKit


theorem and_low {n : Int} (h : 0 ≤ n) (h2 : n ≤ 4294967295) : bits .and .u32 n 65535 = n % 65536 := by
  rw [u32_and n 65535 h (by omega) (by omega) (by omega)]
  have e : n.toNat &&& (65535 : Int).toNat = n.toNat % 65536 := Nat.and_two_pow_sub_one_eq_mod n.toNat 16
  rw [e]
  omega
theorem or_low {l h : Int} (h0 : 0 ≤ l) (h1 : l ≤ 65520) (g0 : 0 ≤ h) (g1 : h ≤ 65520) : bits .or .u32 (h * 65536) l = wN l h := by
  rw [u32_or (h * 65536) l (by omega) (by omega) h0 (by omega)]
  have e : (h * 65536).toNat = 2 ^ 16 * h.toNat := by omega
  rw [e, ← Nat.two_pow_add_eq_or_of_lt (i := 16) (by omega)]
  unfold wN
  omega
theorem ret_u32s {a b c d : Int} (h : a = b) (k : c = d) : Ending.returned (.tuple #[.int .u32 a, .int .u32 c]) = .returned (.tuple #[.int .u32 b, .int .u32 d]) := by rw [h, k]

def PartsIs (l h : Int) (w : World) (r : Ending) (w' : World) : Prop := r = .returned (.tuple #[.int .u32 l, .int .u32 h]) ∧ w = w'
theorem parts_any (n : Int) (w : World) (h : 0 ≤ n) (h2 : n ≤ 4294967295) : Calls Tryz.prog 138 #[.int .u32 n] w (PartsIs (n % 65536) (n / 65536) w) := by
  have HA := Lib.hid (and_low h h2)
  go_enter Tryz.func138, Tryz.ntmps138
  go_wp2
  go_ret2
  exact ⟨ret_u32s HA.out rfl, rfl⟩
theorem parts_is (l h : Int) (w : World) (h0 : 0 ≤ l) (h1 : l ≤ 65520) (g0 : 0 ≤ h) (g1 : h ≤ 65520) : Calls Tryz.prog 138 #[.int .u32 (wN l h)] w (PartsIs l h w) := by
  have hb := wN_bd h0 h1 g0 g1
  have := parts_any (wN l h) w hb.1 (by omega)
  rwa [wN_low h0 h1, wN_high h0 h1] at this
theorem whole_is (l h : Int) (w : World) (h0 : 0 ≤ l) (h1 : l ≤ 65520) (g0 : 0 ≤ h) (g1 : h ≤ 65520) : Calls Tryz.prog 140 #[.int .u32 l, .int .u32 h] w (NumIs (wN l h) w) := by
  have HA := Lib.hid (or_low h0 h1 g0 g1)
  go_enter Tryz.func140, Tryz.ntmps140
  go_wp2
  go_ret
  exact ⟨ret_u32 HA.out, rfl⟩

theorem aL_step (l : Int) (xs : List Int) (k : Nat) (h : k < xs.length) : aL l (xs.take (k + 1)) = (aL l (xs.take k) + xs[k]) % 65521 := by
  rw [List.take_succ_eq_append_getElem h]
  unfold aL
  rw [rL_snoc]
  omega
theorem aH_step (l g : Int) (xs : List Int) (k : Nat) (h : k < xs.length) : aH l g (xs.take (k + 1)) = (aH l g (xs.take k) + aL l (xs.take (k + 1))) % 65521 := by
  rw [List.take_succ_eq_append_getElem h]
  unfold aH aL
  rw [rH_snoc, rL_snoc]
  omega

theorem rof_is (A : Option Addr) (xs : List Int) (c : Nat) (w : World) (hx : Byt xs) (hr : Rd w w.heap.size A xs) (hn : xs.length ≤ 20000) : Calls Tryz.prog 81 #[.slice A xs.length c] w (NumIs (sumN xs) w) := by
  have HX := Lib.hid hx
  have HR := Lib.hid hr
  clear hx hr
  go_enter Tryz.func81, Tryz.ntmps81
  go_wp2_with fail
  go_loop [3, 4, 5] (fun lo hi i => ∃ k : Nat, k ≤ xs.length ∧ i = .int .i64 k ∧ lo = .int .i64 (aL 1 (xs.take k)) ∧ hi = .int .i64 (aH 1 0 (xs.take k))) (fun _ _ i => xs.length - (intOf i).toNat)
  case atStart => exact ⟨0, by omega, rfl, by simp [aL_nil], by simp [aH_nil]⟩
  case round =>
    obtain ⟨k, hk, rfl, rfl, rfl⟩ := hrel
    obtain ⟨a1, a2⟩ := aL_bd 1 (xs.take k)
    obtain ⟨a3, a4⟩ := aH_bd 1 0 (xs.take k)
    by_cases hlt : k < xs.length
    · obtain ⟨b, o, rfl, hbl, hcell⟩ := HR.out (by omega)
      have c0 := hcell k hlt
      obtain ⟨x1, x2⟩ := HX.out.get k hlt
      have HS := Lib.hid (aL_step 1 xs k hlt)
      have HT := Lib.hid (aH_step 1 0 xs k hlt)
      clear hcell
      generalize hxk : xs[k] = x at *
      generalize hla : aL 1 (xs.take k) = la at *
      generalize hha : aH 1 0 (xs.take k) = ha at *
      have H1 := Lib.hid hxk
      have H2 := Lib.hid hla
      have H3 := Lib.hid hha
      clear hxk hla hha
      go_wp2_with fail
      go_round
      case rel => exact ⟨k + 1, by omega, by go_num, by rw [HS.out], by rw [HT.out, HS.out]⟩
      case measure => simp [intOf]; omega
    · obtain rfl : k = xs.length := by omega
      rw [List.take_length] at *
      have HW := Lib.hid (show wN (aL 1 xs) (aH 1 0 xs) = aH 1 0 xs * 65536 + aL 1 xs from rfl)
      generalize hla : aL 1 xs = la at *
      generalize hha : aH 1 0 xs = ha at *
      have H2 := Lib.hid hla
      have H3 := Lib.hid hha
      clear hla hha
      go_wp2_with fail
      go_ret
      exact ⟨ret_u32 (by unfold sumN; rw [H2.out, H3.out, HW.out]), rfl⟩


/-- Block g is one uint32. -/
def One (w : World) (g : Nat) (n : Int) : Prop := w.heap[g]? = some (.cells #[.int .u32 n] 35 (0, 0))
theorem One.cell {w : World} {g : Nat} {n : Int} (h : One w g n) : w.cell? ⟨g, 0, none⟩ = some (.int .u32 n) := cell_of_one h
theorem One.free {w : World} {g : Nat} {n : Int} (h : One w g n) : w.frozen? ⟨g, 0, none⟩ = false := free_of_one h
theorem One.put {w : World} {g : Nat} {n : Int} (h : One w g n) (m : Int) : One (w.setCell ⟨g, 0, none⟩ (.int .u32 m)) g m := one_setCell h
theorem One.far {w : World} {g k : Nat} {n : Int} (h : One w g n) (hk : g ≠ k) (u : Value) : One (w.setCell ⟨k, 0, none⟩ u) g n := (Below.heap_setCell w ⟨k, 0, none⟩ u g hk).trans h
theorem One.drew {w : World} {g : Nat} {n : Int} (h : One w g n) : One w.drew g n := h
theorem One.below {w w' : World} {B g : Nat} {n : Int} (h : One w g n) (hb : Below B w w') (hg : g < B) : One w' g n := (hb.block g hg).trans h

def TakeIs (B p q : Nat) (l h : Int) (w : World) (r : Ending) (w' : World) : Prop := r = .returned (.tuple #[]) ∧ One w' p l ∧ One w' q h ∧ Below B w w'
def TakeAt (B p q : Nat) (l h : Int) (xs : List Int) (w : World) (n : Nat) (i : Value) (wr : World) : Prop :=
  ∃ j : Nat, j ≤ xs.length ∧ n = xs.length - j ∧ i = .int .i64 j ∧ One wr p (rL l (xs.take j)) ∧ One wr q (rH l h (xs.take j)) ∧ Below B w wr

set_option maxHeartbeats 1000000 in
theorem take_is (B p q : Nat) (A : Option Addr) (xs : List Int) (c : Nat) (l h : Int) (w : World) (hx : Byt xs) (hr : Rd w B A xs) (hn : xs.length ≤ 5552) (hp : B ≤ p) (hq : B ≤ q) (hpq : p ≠ q) (h1 : One w p l) (h2 : One w q h)
    (l0 : 0 ≤ l) (l1 : l ≤ 65520) (g0 : 0 ≤ h) (g1 : h ≤ 65520) : Calls Tryz.prog 139 #[.slice A xs.length c, .pointer (some ⟨p, 0, none⟩), .pointer (some ⟨q, 0, none⟩)] w (TakeIs B p q (aL l xs) (aH l h xs) w) := by
  have HX := Lib.hid hx
  have HR := Lib.hid hr
  have H1 := Lib.hid h1
  have H2 := Lib.hid h2
  have HPQ := Lib.hid hpq
  clear hx hr h1 h2 hpq
  go_enter Tryz.func139, Tryz.ntmps139
  go_wp2_with fail
  go_loopg [8] xs.length (fun n i wr => TakeAt B p q l h xs w n i wr)
  case atStart => exact ⟨0, by omega, by omega, rfl, by rw [List.take_zero, rL_nil]; exact H1.out, by rw [List.take_zero, rH_nil]; exact H2.out, Below.refl _ _⟩
  case round =>
    clear H1 H2
    obtain ⟨k, hk, hm, rfl, o1, o2, hb⟩ := hrel
    have HB := Lib.hid hb
    have HM := Lib.hid hm
    clear hb hm
    by_cases hlt : k < xs.length
    · obtain ⟨b, o, rfl, hbl, hcell⟩ := (HR.out.below HB.out) (by omega)
      have c0 := hcell k hlt
      obtain ⟨x1, x2⟩ := HX.out.get k hlt
      have hT : xs.take (k + 1) = xs.take k ++ [xs[k]] := List.take_succ_eq_append_getElem hlt
      have HL : Hid (rL l (xs.take (k + 1)) = _) := Lib.hid (by rw [hT, rL_snoc])
      have HH : Hid (rH l h (xs.take (k + 1)) = _) := Lib.hid (by rw [hT, rH_snoc])
      obtain ⟨b1, b2⟩ := rL_bd (HX.out.take k) l0 l1 (by simp; omega)
      obtain ⟨b3, b4⟩ := rH_bd (HX.out.take (k + 1)) l0 l1 g0 g1 (by simp; omega)
      obtain ⟨b5, b6⟩ := rH_bd (HX.out.take k) l0 l1 g0 g1 (by simp; omega)
      rw [HH.out] at b3 b4
      clear hcell hT
      generalize hxk : xs[k] = x at *
      generalize hla : rL l (xs.take k) = la at *
      generalize hha : rH l h (xs.take k) = ha at *
      have H4 := Lib.hid hxk
      have H5 := Lib.hid hla
      have H6 := Lib.hid hha
      clear hxk hla hha
      have O1 := Lib.hid o1
      have O2 := Lib.hid o2
      have P1 := Lib.hid (o1.put (la + x))
      have P2 := Lib.hid (o2.far (k := p) (fun e => HPQ.out e.symm) (.int .u32 (la + x)))
      have P3 := Lib.hid (P2.out.put (ha + (la + x)))
      have P4 := Lib.hid (P1.out.far (k := q) HPQ.out (.int .u32 (ha + (la + x))))
      clear o1 o2
      have a1 := O1.out.cell
      have a2 := O1.out.free
      have a3 := P2.out.cell
      have a4 := P2.out.free
      have a5 := P1.out.cell
      go_wp2_with fail
      go_roundg (xs.length - (k + 1))
      case rel => exact ⟨k + 1, by omega, rfl, by go_num, by rw [HL.out]; exact P4.out, by rw [HH.out]; exact P3.out, (HB.out.setCell (p := ⟨p, 0, none⟩) hp _).setCell (p := ⟨q, 0, none⟩) hq _⟩
      case measure => have := HM.out; omega
    · obtain rfl : k = xs.length := by omega
      rw [List.take_length] at o1 o2
      obtain ⟨b1, b2⟩ := rL_bd HX.out l0 l1 hn
      obtain ⟨b3, b4⟩ := rH_bd HX.out l0 l1 g0 g1 hn
      have HLa : Hid (rL l xs % 65521 = aL l xs) := Lib.hid rfl
      have HHa : Hid (rH l h xs % 65521 = aH l h xs) := Lib.hid rfl
      generalize rL l xs = la at *
      generalize rH l h xs = ha at *
      have O1 := Lib.hid o1
      have O2 := Lib.hid o2
      clear o1 o2
      have a1 := O1.out.cell
      have a2 := O1.out.free
      have a3 := O2.out.cell
      have P1 := Lib.hid (O1.out.put (la % 65521))
      have P2 := Lib.hid (O2.out.far (k := p) (fun e => HPQ.out e.symm) (.int .u32 (la % 65521)))
      have P3 := Lib.hid (P2.out.put (ha % 65521))
      have P4 := Lib.hid (P1.out.far (k := q) HPQ.out (.int .u32 (ha % 65521)))
      have a5 := P2.out.cell
      have a6 := P2.out.free
      go_wp2_with fail
      go_region
      all_goals (go_end0; exact ⟨rfl, by rw [← HLa.out]; exact P4.out.drew, by rw [← HHa.out]; exact P3.out.drew, ((HB.out.setCell (p := ⟨p, 0, none⟩) hp _).setCell (p := ⟨q, 0, none⟩) hq _).drew⟩)


/-- Behind some of the bytes. -/
def AddAt (l h : Int) (xs : List Int) (w : World) (n : Nat) (b : Value) (wr : World) : Prop :=
  ∃ (A : Option Addr) (c : Nat) (done todo : List Int), xs = done ++ todo ∧ n = todo.length ∧ b = .slice A todo.length c ∧ todo.length ≤ c ∧ Rd wr w.heap.size A todo ∧
    One wr w.heap.size (aL l done) ∧ One wr (w.heap.size + 1) (aH l h done) ∧ Below w.heap.size w wr

theorem two_new (w : World) (l h : Int) : One ((w.alloc (.cells #[.int .u32 l] 35)).alloc (.cells #[.int .u32 h] 35)) w.heap.size l ∧ One ((w.alloc (.cells #[.int .u32 l] 35)).alloc (.cells #[.int .u32 h] 35)) (w.heap.size + 1) h := by
  have n1 : One (w.alloc (.cells #[.int .u32 l] 35)) w.heap.size l := heap_alloc_new w _
  refine ⟨(Below.heap_alloc _ _ _ (by simp)).trans n1, ?_⟩
  have := heap_alloc_new (w.alloc (.cells #[.int .u32 l] 35)) (.cells #[.int .u32 h] 35)
  rw [World.size_alloc] at this
  exact this
theorem two_below (w : World) (l h : Int) : Below w.heap.size w ((w.alloc (.cells #[.int .u32 l] 35)).alloc (.cells #[.int .u32 h] 35)) := ((Below.refl _ _).alloc (Nat.le_refl _) _).alloc (by simp) _

set_option maxHeartbeats 1000000 in
theorem add_is (A : Option Addr) (xs : List Int) (c : Nat) (l h : Int) (w : World) (hx : Byt xs) (hr : Rd w w.heap.size A xs) (hc : xs.length ≤ c) (hn : xs.length ≤ 1000000)
    (l0 : 0 ≤ l) (l1 : l ≤ 65520) (g0 : 0 ≤ h) (g1 : h ≤ 65520) : Calls Tryz.prog 132 #[.int .u32 (wN l h), .slice A xs.length c] w (NumB (addN l h xs) w) := by
  have HX := Lib.hid hx
  have HR := Lib.hid hr
  have HN := Lib.hid (two_new w l h)
  have HB0 := Lib.hid (two_below w l h)
  clear hx hr
  go_enter Tryz.func132, Tryz.ntmps132
  go_wp2_with fail
  refine (parts_is l h _ l0 l1 g0 g1).mono ?_
  rintro r w' ⟨rfl, rfl⟩
  go_wp2_with fail
  go_loopg [1] xs.length (fun n b wr => AddAt l h xs w n b wr)
  case atStart => exact ⟨A, c, [], xs, rfl, rfl, rfl, hc, HR.out.below HB0.out, by rw [aL_nil l0 l1]; exact HN.out.1, by rw [aH_nil g0 g1]; exact HN.out.2, HB0.out⟩
  case round =>
    clear HN HB0
    obtain ⟨A1, c1, done, todo, he, hm, rfl, hc1, hrd, o1, o2, hb⟩ := hrel
    have HE := Lib.hid he
    have HM := Lib.hid hm
    have HRD := Lib.hid hrd
    have HB := Lib.hid hb
    have O1 := Lib.hid o1
    have O2 := Lib.hid o2
    have HBY := Lib.hid (show Byt todo from by have := HX.out.drop done.length; rw [he] at this; simpa using this)
    have hle : todo.length ≤ xs.length := by rw [he]; simp
    clear he hm hrd hb o1 o2
    obtain ⟨a1, a2⟩ := aL_bd l done
    obtain ⟨a3, a4⟩ := aH_bd l h done
    by_cases h0 : 0 < todo.length
    · by_cases h5 : todo.length ≤ 5552
      · go_wp2_with fail
        refine (take_is w.heap.size w.heap.size (w.heap.size + 1) A1 todo _ _ _ wr HBY.out HRD.out h5 (Nat.le_refl _) (by omega) (by omega) O1.out O2.out a1 a2 a3 a4).mono ?_
        rintro r w2 ⟨rfl, o3, o4, hb2⟩
        rw [aL_app] at o3
        rw [aH_app] at o4
        have O3 := Lib.hid o3
        have O4 := Lib.hid o4
        have HB2 := Lib.hid (HB.out.trans hb2)
        clear o3 o4 hb2 O1 O2
        go_wp2_with fail
        all_goals
          go_roundg 0
          case rel => exact ⟨_, _, done ++ todo, [], by simpa using HE.out, rfl, rfl, by simp, Rd.nil, O3.out, O4.out, HB2.out⟩
          case measure => have := HM.out; omega
      · have h6 : 5552 < todo.length := by omega
        obtain ⟨b, o, rfl, hbl, _⟩ := HRD.out h0
        have HLN : Hid ((todo.take 5552).length = 5552) := Lib.hid (by simp; omega)
        have HT := Lib.hid (take_is w.heap.size w.heap.size (w.heap.size + 1) (some ⟨b, o, none⟩) (todo.take 5552) 5552 _ _ wr (HBY.out.take 5552) (HRD.out.take 5552) (by rw [HLN.out]; omega) (Nat.le_refl _) (by omega) (by omega) O1.out O2.out a1 a2 a3 a4)
        rw [HLN.out] at HT
        go_wp2_with fail
        refine HT.out.mono ?_
        rintro r w2 ⟨rfl, o3, o4, hb2⟩
        rw [aL_app] at o3
        rw [aH_app] at o4
        have O3 := Lib.hid o3
        have O4 := Lib.hid o4
        have HB2 := Lib.hid (HB.out.trans hb2)
        have HR2 := Lib.hid ((HRD.out.below hb2).drop 5552)
        clear o3 o4 hb2 O1 O2 HT
        go_wp2_with fail
        go_roundg (todo.drop 5552).length
        case rel => exact ⟨some ⟨b, o + 5552, none⟩, c1 - 5552, done ++ todo.take 5552, todo.drop 5552, by rw [List.append_assoc, List.take_append_drop]; exact HE.out, rfl, by simp, by simp; omega, HR2.out, O3.out, O4.out, HB2.out⟩
        case measure => have := HM.out; simp; omega
    · have HD : Hid (xs = done) := Lib.hid (by
        have := HE.out
        have e : todo = [] := List.eq_nil_of_length_eq_zero (by omega)
        rw [e] at this
        simpa using this)
      have q1 := O1.out.cell
      have q2 := O2.out.cell
      go_wp2_with fail
      refine (whole_is _ _ _ a1 a2 a3 a4).mono ?_
      rintro r w' ⟨rfl, rfl⟩
      go_wp2_with fail
      go_ret
      exact ⟨ret_u32 (by rw [HD.out]; rfl), HB.out⟩

theorem of_is (A : Option Addr) (xs : List Int) (c : Nat) (w : World) (hx : Byt xs) (hr : Rd w w.heap.size A xs) (hc : xs.length ≤ c) (hn : xs.length ≤ 1000000) : Calls Tryz.prog 116 #[.slice A xs.length c] w (NumB (sumN xs) w) := by
  have HX := Lib.hid hx
  have HR := Lib.hid hr
  clear hx hr
  go_enter Tryz.func116, Tryz.ntmps116
  go_wp2_with fail
  refine (add_is A xs c 1 0 w HX.out HR.out hc hn (by omega) (by omega) (by omega) (by omega)).mono ?_
  rintro r w2 ⟨rfl, hb⟩
  have HB := Lib.hid hb
  clear hb
  go_wp2_with fail
  go_ret
  exact ⟨rfl, HB.out⟩
end Go.Proofs.YthmpimjmajoimaaGreatDoor
