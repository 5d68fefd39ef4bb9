/-
  The document's Right, Numbers and Same of checkpoints.
  Package ckpt's small functions: seal, Many, Right, Same; slices.Equal of numbers.
-/
import Derived.Test.YthmpimjmajoimaaGreatDoorSw15
namespace Go.Proofs.YthmpimjmajoimaaGreatDoor
open Go.RowKit

theorem blk_new (w : World) (vs : List Value) (T : TypeId) : Blk (w.alloc (.cells vs.toArray T)) w.heap.size T vs := heap_alloc_new w _
def KeptK (w : World) (T : TypeId) (cs : List Value) (u : World) : Prop := Below w.heap.size w u ∧ Blk u w.heap.size T cs
theorem KeptK.up {w : World} {T : TypeId} {cs : List Value} {a u : World} (h : KeptK w T cs a) (hb : Below a.heap.size a u) : KeptK w T cs u := ⟨below_all h.1 hb, h.2.up hb (lt_of_block h.2)⟩
theorem KeptK.new (w : World) (T : TypeId) (cs : List Value) : KeptK w T cs (w.alloc (.cells cs.toArray T)) := ⟨(Below.refl _ _).alloc (Nat.le_refl _) _, blk_new w cs T⟩
abbrev kList (nu se sq z p b : Int) (S : Value) : List Value := [.int .u32 nu, .int .u32 se, .int .u32 sq, .int .i64 z, .int .i64 p, .int .i64 b, S]

set_option maxHeartbeats 1000000 in
theorem rkright_is (nu se sq z p b : Int) (A : Option Addr) (n c : Nat) (w : World) : Calls Tryz.prog 79 #[kV nu se sq z p b (.slice A n c)] w (BoolB (rightC z p b n) w) := by
  have HK : Hid (KeptK w 46 (kList nu se sq z p b (.slice A n c)) (w.alloc (.cells (kCellsq1 nu se sq z p b (.slice A n c)) 46)).drew) := Lib.hid ((KeptK.new w 46 (kList nu se sq z p b (.slice A n c))).up (Below.refl _ _).drew)
  by_cases hr : rightB z p b = true
  · have hb : 1 ≤ b ∧ b ≤ 64 := by
      unfold rightB at hr
      have := (bnd_bd z p).2
      simp only [decide_eq_true_eq] at hr
      omega
    have HE : Hid (rightC z p b n = decide ((n : Int) = tab b)) := Lib.hid (by unfold rightC; rw [hr, Bool.true_and])
    go_enter Tryz.func79, Tryz.ntmps79
    go_wp2_with fail
    refine wp_region_in (KeptK w 46 (kList nu se sq z p b (.slice A n c))) HK.out (by kernel_rfl) (by kernel_rfl) (fun ne => ?_)
    have c3 := fun q : In (KeptK w 46 (kList nu se sq z p b (.slice A n c))) => q.ok.2.cell 3 (by simp)
    have c4 := fun q : In (KeptK w 46 (kList nu se sq z p b (.slice A n c))) => q.ok.2.cell 4 (by simp)
    have c5 := fun q : In (KeptK w 46 (kList nu se sq z p b (.slice A n c))) => q.ok.2.cell 5 (by simp)
    have c6 := fun q : In (KeptK w 46 (kList nu se sq z p b (.slice A n c))) => q.ok.2.cell 6 (by simp)
    have rD := fun q : In (KeptK w 46 (kList nu se sq z p b (.slice A n c))) => rright_is z p b q.w
    rw [hr] at rD
    have tD := fun q : In (KeptK w 46 (kList nu se sq z p b (.slice A n c))) => rtables_is b q.w (by omega) (by omega)
    obtain ⟨t, ht⟩ : ∃ t, tab b = t := ⟨_, rfl⟩
    rw [ht] at tD HE
    repeat (go_big_quiet_step (first
      | (go_at_call 28; with_reducible exact In.more KeptK.up (rD _))
      | (go_at_call 94; with_reducible exact In.same (tD _))))
    refine wpQuiet_nil ?_
    intro nq
    have HB := Lib.hid nq.ok.1
    clear c3 c4 c5 c6 rD tD
    go_wp2_with fail
    go_ret
    exact ⟨ret_bool (by rw [HE.out]; by_cases h : (n : Int) = t <;> simp [h]), HB.out⟩
  · have hr' : rightB z p b = false := by simpa using hr
    have HE : Hid (rightC z p b n = false) := Lib.hid (by unfold rightC; rw [hr', Bool.false_and])
    go_enter Tryz.func79, Tryz.ntmps79
    go_wp2_with fail
    refine wp_region_in (KeptK w 46 (kList nu se sq z p b (.slice A n c))) HK.out (by kernel_rfl) (by kernel_rfl) (fun ne => ?_)
    have c3 := fun q : In (KeptK w 46 (kList nu se sq z p b (.slice A n c))) => q.ok.2.cell 3 (by simp)
    have c4 := fun q : In (KeptK w 46 (kList nu se sq z p b (.slice A n c))) => q.ok.2.cell 4 (by simp)
    have c5 := fun q : In (KeptK w 46 (kList nu se sq z p b (.slice A n c))) => q.ok.2.cell 5 (by simp)
    have rD := fun q : In (KeptK w 46 (kList nu se sq z p b (.slice A n c))) => rright_is z p b q.w
    rw [hr'] at rD
    repeat (go_big_quiet_step (first
      | (go_at_call 28; with_reducible exact In.more KeptK.up (rD _))))
    refine wpQuiet_nil ?_
    intro nq
    have HB := Lib.hid nq.ok.1
    clear c3 c4 c5 rD
    go_wp2_with fail
    go_ret
    exact ⟨ret_bool (by rw [HE.out]), HB.out⟩

/-! ### numbers compared -/
theorem num_len {A A2 : Option Addr} {n m c c2 : Nat} {w : World} (h : n ≠ m) : Calls Tryz.prog 56 #[.slice A n c, .slice A2 m c2] w (BoolB false w) := by
  have q : ((n : Int) == (m : Int)) = false := by simp; omega
  go_enter Tryz.func56, Tryz.ntmps56
  go_wp2_with fail
  go_ret
  exact ⟨rfl, Below.refl _ _⟩
set_option maxHeartbeats 1000000 in
theorem num_eq {A A2 : Option Addr} {xs ys : List Int} {c c2 : Nat} {w : World} (hr : RdV w w.heap.size A (u32s xs)) (hr2 : RdV w w.heap.size A2 (u32s ys)) (hl : ys.length = xs.length) (hn : xs.length ≤ 1000000) : Calls Tryz.prog 56 #[.slice A xs.length c, .slice A2 xs.length c2] w (BoolB (decide (xs = ys)) w) := by
  have HR := Lib.hid hr
  have HR2 := Lib.hid hr2
  have HL := Lib.hid hl
  clear hr hr2 hl
  go_enter Tryz.func56, Tryz.ntmps56
  go_wp2_with fail
  go_loopg [5] xs.length (fun n i wr => ∃ k : Nat, k ≤ xs.length ∧ n = xs.length - k ∧ i = .int .i64 k ∧ xs.take k = ys.take k ∧ Below w.heap.size w wr)
  case atStart => exact ⟨0, by omega, by omega, rfl, rfl, Below.refl _ _⟩
  case round =>
    obtain ⟨k, hk, hm, rfl, ht, hb⟩ := hrel
    have HB := Lib.hid hb
    have HM := Lib.hid hm
    have HT := Lib.hid ht
    clear hb hm ht
    by_cases hlt : k < xs.length
    · have hlt2 : k < ys.length := by rw [HL.out]; exact hlt
      obtain ⟨b, o, rfl, hbl, hcell⟩ := (HR.out.below HB.out) (by rw [u32s_len]; omega)
      obtain ⟨b2, o2, rfl, hbl2, hcell2⟩ := (HR2.out.below HB.out) (by rw [u32s_len]; omega)
      have c0 := hcell k (by rw [u32s_len]; exact hlt)
      have c1 := hcell2 k (by rw [u32s_len]; exact hlt2)
      rw [u32s_get] at c0 c1
      clear hcell hcell2
      by_cases he : xs[k] = ys[k]
      · have HS := Lib.hid (same_step hlt hlt2 HT.out he)
        rw [← he] at c1
        generalize xs[k] = x at *
        have q : (x == x) = true := by simp
        go_wp2_with fail
        go_region
        go_wp2_with fail
        go_roundg (xs.length - (k + 1))
        case rel => exact ⟨k + 1, by omega, rfl, by go_num, HS.out, HB.out.drew⟩
        case measure => have := HM.out; omega
      · have HS := Lib.hid (same_no hlt hlt2 he)
        have q : (xs[k] == ys[k]) = false := by simp [he]
        go_wp2_with fail
        go_region
        go_wp2_with fail
        go_ret
        exact ⟨by rw [HS.out]; rfl, HB.out.drew⟩
    · obtain rfl : k = xs.length := by omega
      have HS : Hid (decide (xs = ys) = true) := Lib.hid (by
        have := HT.out
        rw [List.take_length, ← HL.out, List.take_length] at this
        simpa using this)
      go_wp2_with fail
      go_ret
      exact ⟨by rw [HS.out]; rfl, HB.out⟩
theorem num_is {A A2 : Option Addr} {xs ys : List Int} {n m c c2 : Nat} {w : World} (hr : RdV w w.heap.size A (u32s xs)) (hr2 : RdV w w.heap.size A2 (u32s ys)) (hl : xs.length = n) (hl2 : ys.length = m) (hn : n ≤ 1000000) : Calls Tryz.prog 56 #[.slice A n c, .slice A2 m c2] w (BoolB (decide (xs = ys)) w) := by
  subst hl hl2
  by_cases h : xs.length = ys.length
  · have := num_eq (c := c) (c2 := c2) hr hr2 h.symm hn
    rwa [h] at this ⊢
  · have e : decide (xs = ys) = false := by
      simp only [decide_eq_false_iff_not]
      rintro rfl
      exact h rfl
    rw [e]
    exact num_len h

/-! ### checkpoints compared -/
theorem eq_rgeo (a b c x y z : Int) (w : World) : (Op.equalIn 10000 44 (.agg #[.int .i64 a, .int .i64 b, .int .i64 c]) (.agg #[.int .i64 x, .int .i64 y, .int .i64 z])).run Tryz.prog w = .ok (decide (a = x) && decide (b = y) && decide (c = z)) w := by
  have hS : Tryz.prog.underlying 44 = some (.struct (Tryz.prog.fieldsOf 44)) := by kernel_rfl
  have hp : Tryz.prog.stoodInHeld 44 = false := by kernel_rfl
  rw [show (10000 : Nat) = 9999 + 1 from rfl, run_equalIn_agg w 9999 44 _ _ hS hp]
  simp only [Program.fieldsOf, Tryz.underlying44]
  by_cases h1 : a = x <;> by_cases h2 : b = y <;> by_cases h3 : c = z <;> simp [Op.eqFields, go_sem, h1, h2, h3]
theorem guard_rgeo (o : BinOp) (x y : Operand) (xs ys : Array Value) (w : World) : (eqGuard o 44 x y (.agg xs) (.agg ys)).run Tryz.prog w = .ok () w := run_eqGuard_agg w o 44 x y xs ys (by kernel_rfl)
theorem eql_rgeo (a b c x y z : Int) (w : World) : (binOp .eql 44 (.agg #[.int .i64 a, .int .i64 b, .int .i64 c]) (.agg #[.int .i64 x, .int .i64 y, .int .i64 z])).run Tryz.prog w = .ok (.bool (decide (a = x) && decide (b = y) && decide (c = z))) w := by
  rw [run_eql_struct, eq_rgeo]
  rfl
/-- Is all the same? -/
def sameC (nu se sq z p b : Int) (dir : List Int) (nu2 se2 sq2 z2 p2 b2 : Int) (dir2 : List Int) : Bool :=
  decide (nu = nu2) && decide (se = se2) && decide (sq = sq2) && (decide (z = z2) && decide (p = p2) && decide (b = b2)) && decide (dir = dir2)
set_option maxHeartbeats 1000000 in
theorem rksame_is {A A2 : Option Addr} {dir dir2 : List Int} {n m c c2 : Nat} {w : World} (nu se sq z p b nu2 se2 sq2 z2 p2 b2 : Int) (hr : RdV w w.heap.size A (u32s dir)) (hr2 : RdV w w.heap.size A2 (u32s dir2)) (hl : dir.length = n) (hl2 : dir2.length = m) (hn : n ≤ 1000000) :
    Calls Tryz.prog 20 #[kV nu se sq z p b (.slice A n c), kV nu2 se2 sq2 z2 p2 b2 (.slice A2 m c2)] w (BoolB (sameC nu se sq z p b dir nu2 se2 sq2 z2 p2 b2 dir2) w) := by
  have HR := Lib.hid hr
  have HR2 := Lib.hid hr2
  have HL := Lib.hid hl
  have HL2 := Lib.hid hl2
  clear hr hr2 hl hl2
  have HB := Lib.hid (((Below.refl w.heap.size w).alloc (Nat.le_refl _) (.cells (kCellsq1 nu se sq z p b (.slice A n c)) 46)).alloc (by simp) (.cells (kCellsq1 nu2 se2 sq2 z2 p2 b2 (.slice A2 m c2)) 46))
  obtain ⟨g, hg⟩ : ∃ g, (decide (z = z2) && decide (p = p2) && decide (b = b2)) = g := ⟨_, rfl⟩
  have HS : Hid (sameC nu se sq z p b dir nu2 se2 sq2 z2 p2 b2 dir2 = (decide (nu = nu2) && decide (se = se2) && decide (sq = sq2) && g && decide (dir = dir2))) := Lib.hid (by unfold sameC; rw [hg])
  have he := eql_rgeo z p b z2 p2 b2
  rw [hg] at he
  have hgd := guard_rgeo .eql
  clear hg
  by_cases h0 : nu = nu2
  · have q0 : (nu == nu2) = true := by simpa using h0
    by_cases h1 : se = se2
    · have q1 : (se == se2) = true := by simpa using h1
      by_cases h2 : sq = sq2
      · have q2 : (sq == sq2) = true := by simpa using h2
        cases g
        · have HV := Lib.hid (And.intro h0 (And.intro h1 h2))
          clear h0 h1 h2
          go_enter Tryz.func20, Tryz.ntmps20
          go_wp2_with fail
          go_ret
          exact ⟨ret_bool (by rw [HS.out]; simp), HB.out⟩
        · have HV := Lib.hid (And.intro h0 (And.intro h1 h2))
          clear h0 h1 h2
          go_enter Tryz.func20, Tryz.ntmps20
          go_wp2_with fail
          refine (num_is (HR.out.up HB.out) (HR2.out.up HB.out) HL.out HL2.out hn).mono ?_
          rintro r w1 ⟨rfl, hb⟩
          have HB1 := Lib.hid (HB.out.trans (hb.mono HB.out.size))
          clear hb
          go_wp2_with fail
          go_ret
          exact ⟨ret_bool (by rw [HS.out]; simp [HV.out.1, HV.out.2.1, HV.out.2.2]), HB1.out⟩
      · have q2 : (sq == sq2) = false := by simpa using h2
        have HV := Lib.hid h2
        clear h0 h1 h2 he hgd
        go_enter Tryz.func20, Tryz.ntmps20
        go_wp2_with fail
        go_ret
        exact ⟨ret_bool (by rw [HS.out]; simp [HV.out]), HB.out⟩
    · have q1 : (se == se2) = false := by simpa using h1
      have HV := Lib.hid h1
      clear h0 h1 he hgd
      go_enter Tryz.func20, Tryz.ntmps20
      go_wp2_with fail
      go_ret
      exact ⟨ret_bool (by rw [HS.out]; simp [HV.out]), HB.out⟩
  · have q0 : (nu == nu2) = false := by simpa using h0
    have HV := Lib.hid h0
    clear h0 he hgd
    go_enter Tryz.func20, Tryz.ntmps20
    go_wp2_with fail
    go_ret
    exact ⟨ret_bool (by rw [HS.out]; simp [HV.out]), HB.out⟩
end Go.Proofs.YthmpimjmajoimaaGreatDoor
namespace Go.Proofs.YthmpimjmajoimaaGreatDoor
open Go.RowKit

theorem seal_is (n : Int) (w : World) (h : 0 ≤ n) (h2 : n ≤ 1000000) : Calls Tryz.prog 115 #[.int .i64 n] w (IntIs (6 + tab n) w) := by
  have ht : 0 ≤ tab n ∧ tab n ≤ 1000000 := by
    unfold tab
    split <;> omega
  go_enter Tryz.func115, Tryz.ntmps115
  go_wp2_with fail
  refine (tables_is _ _ (by omega)).mono ?_
  rintro r w' ⟨rfl, rfl⟩
  generalize tab n = t at *
  go_wp2_with fail
  go_ret
  exact ⟨rfl, rfl⟩
theorem kmanyq_is (n : Int) (w : World) (h : 0 ≤ n) (h2 : n ≤ 1000000) : Calls Tryz.prog 114 #[.int .i64 n] w (IntIs (manyC n) w) := by
  have ht : 0 ≤ tab n ∧ tab n ≤ 1000000 := by
    unfold tab
    split <;> omega
  go_enter Tryz.func114, Tryz.ntmps114
  go_wp2_with fail
  refine (seal_is _ _ h h2).mono ?_
  rintro r w' ⟨rfl, rfl⟩
  have HM : Hid (manyC n = (4 * (7 + tab n) + 15) / 16) := Lib.hid rfl
  generalize tab n = t at *
  go_wp2_with fail
  go_ret
  exact ⟨ret_int (by rw [HM.out]; omega), rfl⟩
set_option maxHeartbeats 1000000 in
theorem krightq_is (nu se sq z p b : Int) (A : Option Addr) (n c : Nat) (w : World) : Calls Tryz.prog 36 #[kV nu se sq z p b (.slice A n c)] w (BoolB (rightC z p b n) w) := by
  have HK : Hid (KeptK w 40 (kList nu se sq z p b (.slice A n c)) (w.alloc (.cells (kCellsq1 nu se sq z p b (.slice A n c)) 40)).drew) := Lib.hid ((KeptK.new w 40 (kList nu se sq z p b (.slice A n c))).up (Below.refl _ _).drew)
  by_cases hr : rightB z p b = true
  · have hb : 1 ≤ b ∧ b ≤ 64 := by
      unfold rightB at hr
      have := (bnd_bd z p).2
      simp only [decide_eq_true_eq] at hr
      omega
    have HE : Hid (rightC z p b n = decide ((n : Int) = tab b)) := Lib.hid (by unfold rightC; rw [hr, Bool.true_and])
    go_enter Tryz.func36, Tryz.ntmps36
    go_wp2_with fail
    refine wp_region_in (KeptK w 40 (kList nu se sq z p b (.slice A n c))) HK.out (by kernel_rfl) (by kernel_rfl) (fun ne => ?_)
    have c3 := fun q : In (KeptK w 40 (kList nu se sq z p b (.slice A n c))) => q.ok.2.cell 3 (by simp)
    have c4 := fun q : In (KeptK w 40 (kList nu se sq z p b (.slice A n c))) => q.ok.2.cell 4 (by simp)
    have c5 := fun q : In (KeptK w 40 (kList nu se sq z p b (.slice A n c))) => q.ok.2.cell 5 (by simp)
    have c6 := fun q : In (KeptK w 40 (kList nu se sq z p b (.slice A n c))) => q.ok.2.cell 6 (by simp)
    have rD := fun q : In (KeptK w 40 (kList nu se sq z p b (.slice A n c))) => right_is z p b q.w
    rw [hr] at rD
    have tD := fun q : In (KeptK w 40 (kList nu se sq z p b (.slice A n c))) => tables_is b q.w (by omega)
    obtain ⟨t, ht⟩ : ∃ t, tab b = t := ⟨_, rfl⟩
    rw [ht] at tD HE
    repeat (go_big_quiet_step (first
      | (go_at_call 73; with_reducible exact In.more KeptK.up (rD _))
      | (go_at_call 29; with_reducible exact In.same (tD _))))
    refine wpQuiet_nil ?_
    intro nq
    have HB := Lib.hid nq.ok.1
    clear c3 c4 c5 c6 rD tD
    go_wp2_with fail
    go_ret
    exact ⟨ret_bool (by rw [HE.out]; by_cases h : (n : Int) = t <;> simp [h]), HB.out⟩
  · have hr' : rightB z p b = false := by simpa using hr
    have HE : Hid (rightC z p b n = false) := Lib.hid (by unfold rightC; rw [hr', Bool.false_and])
    go_enter Tryz.func36, Tryz.ntmps36
    go_wp2_with fail
    refine wp_region_in (KeptK w 40 (kList nu se sq z p b (.slice A n c))) HK.out (by kernel_rfl) (by kernel_rfl) (fun ne => ?_)
    have c3 := fun q : In (KeptK w 40 (kList nu se sq z p b (.slice A n c))) => q.ok.2.cell 3 (by simp)
    have c4 := fun q : In (KeptK w 40 (kList nu se sq z p b (.slice A n c))) => q.ok.2.cell 4 (by simp)
    have c5 := fun q : In (KeptK w 40 (kList nu se sq z p b (.slice A n c))) => q.ok.2.cell 5 (by simp)
    have rD := fun q : In (KeptK w 40 (kList nu se sq z p b (.slice A n c))) => right_is z p b q.w
    rw [hr'] at rD
    repeat (go_big_quiet_step (first
      | (go_at_call 73; with_reducible exact In.more KeptK.up (rD _))))
    refine wpQuiet_nil ?_
    intro nq
    have HB := Lib.hid nq.ok.1
    clear c3 c4 c5 rD
    go_wp2_with fail
    go_ret
    exact ⟨ret_bool (by rw [HE.out]), HB.out⟩

theorem equ_len {A A2 : Option Addr} {n m c c2 : Nat} {w : World} (h : n ≠ m) : Calls Tryz.prog 67 #[.slice A n c, .slice A2 m c2] w (BoolB false w) := by
  have q : ((n : Int) == (m : Int)) = false := by simp; omega
  go_enter Tryz.func67, Tryz.ntmps67
  go_wp2_with fail
  go_ret
  exact ⟨rfl, Below.refl _ _⟩
set_option maxHeartbeats 1000000 in
theorem equ_eq {A A2 : Option Addr} {xs ys : List Int} {c c2 : Nat} {w : World} (hr : RdV w w.heap.size A (u32s xs)) (hr2 : RdV w w.heap.size A2 (u32s ys)) (hl : ys.length = xs.length) (hn : xs.length ≤ 1000000) : Calls Tryz.prog 67 #[.slice A xs.length c, .slice A2 xs.length c2] w (BoolB (decide (xs = ys)) w) := by
  have HR := Lib.hid hr
  have HR2 := Lib.hid hr2
  have HL := Lib.hid hl
  clear hr hr2 hl
  go_enter Tryz.func67, Tryz.ntmps67
  go_wp2_with fail
  go_loopg [13] xs.length (fun n i wr => ∃ k : Nat, k ≤ xs.length ∧ n = xs.length - k ∧ i = .int .i64 k ∧ xs.take k = ys.take k ∧ Below w.heap.size w wr)
  case atStart => exact ⟨0, by omega, by omega, rfl, rfl, Below.refl _ _⟩
  case round =>
    obtain ⟨k, hk, hm, rfl, ht, hb⟩ := hrel
    have HB := Lib.hid hb
    have HM := Lib.hid hm
    have HT := Lib.hid ht
    clear hb hm ht
    by_cases hlt : k < xs.length
    · have hlt2 : k < ys.length := by rw [HL.out]; exact hlt
      obtain ⟨b, o, rfl, hbl, hcell⟩ := (HR.out.below HB.out) (by rw [u32s_len]; omega)
      obtain ⟨b2, o2, rfl, hbl2, hcell2⟩ := (HR2.out.below HB.out) (by rw [u32s_len]; omega)
      have c0 := hcell k (by rw [u32s_len]; exact hlt)
      have c1 := hcell2 k (by rw [u32s_len]; exact hlt2)
      rw [u32s_get] at c0 c1
      clear hcell hcell2
      by_cases he : xs[k] = ys[k]
      · have HS := Lib.hid (same_step hlt hlt2 HT.out he)
        rw [← he] at c1
        generalize xs[k] = x at *
        have q : (x == x) = true := by simp
        go_wp2_with fail
        go_region
        go_wp2_with fail
        go_roundg (xs.length - (k + 1))
        case rel => exact ⟨k + 1, by omega, rfl, by go_num, HS.out, HB.out.drew⟩
        case measure => have := HM.out; omega
      · have HS := Lib.hid (same_no hlt hlt2 he)
        have q : (xs[k] == ys[k]) = false := by simp [he]
        go_wp2_with fail
        go_region
        go_wp2_with fail
        go_ret
        exact ⟨by rw [HS.out]; rfl, HB.out.drew⟩
    · obtain rfl : k = xs.length := by omega
      have HS : Hid (decide (xs = ys) = true) := Lib.hid (by
        have := HT.out
        rw [List.take_length, ← HL.out, List.take_length] at this
        simpa using this)
      go_wp2_with fail
      go_ret
      exact ⟨by rw [HS.out]; rfl, HB.out⟩
theorem equ_is {A A2 : Option Addr} {xs ys : List Int} {n m c c2 : Nat} {w : World} (hr : RdV w w.heap.size A (u32s xs)) (hr2 : RdV w w.heap.size A2 (u32s ys)) (hl : xs.length = n) (hl2 : ys.length = m) (hn : n ≤ 1000000) : Calls Tryz.prog 67 #[.slice A n c, .slice A2 m c2] w (BoolB (decide (xs = ys)) w) := by
  subst hl hl2
  by_cases h : xs.length = ys.length
  · have := equ_eq (c := c) (c2 := c2) hr hr2 h.symm hn
    rwa [h] at this ⊢
  · have e : decide (xs = ys) = false := by
      simp only [decide_eq_false_iff_not]
      rintro rfl
      exact h rfl
    rw [e]
    exact equ_len h

set_option maxHeartbeats 1000000 in
theorem ksameq_is {A A2 : Option Addr} {dir dir2 : List Int} {n m c c2 : Nat} {w : World} (nu se sq z p b nu2 se2 sq2 z2 p2 b2 : Int) (hr : RdV w w.heap.size A (u32s dir)) (hr2 : RdV w w.heap.size A2 (u32s dir2)) (hl : dir.length = n) (hl2 : dir2.length = m) (hn : n ≤ 1000000) :
    Calls Tryz.prog 31 #[kV nu se sq z p b (.slice A n c), kV nu2 se2 sq2 z2 p2 b2 (.slice A2 m c2)] w (BoolB (sameC nu se sq z p b dir nu2 se2 sq2 z2 p2 b2 dir2) w) := by
  have HR := Lib.hid hr
  have HR2 := Lib.hid hr2
  have HL := Lib.hid hl
  have HL2 := Lib.hid hl2
  clear hr hr2 hl hl2
  have HB := Lib.hid (((Below.refl w.heap.size w).alloc (Nat.le_refl _) (.cells (kCellsq1 nu se sq z p b (.slice A n c)) 40)).alloc (by simp) (.cells (kCellsq1 nu2 se2 sq2 z2 p2 b2 (.slice A2 m c2)) 40))
  obtain ⟨g, hg⟩ : ∃ g, (decide (z = z2) && decide (p = p2) && decide (b = b2)) = g := ⟨_, rfl⟩
  have HS : Hid (sameC nu se sq z p b dir nu2 se2 sq2 z2 p2 b2 dir2 = (decide (nu = nu2) && decide (se = se2) && decide (sq = sq2) && g && decide (dir = dir2))) := Lib.hid (by unfold sameC; rw [hg])
  have he := eql_geo z p b z2 p2 b2
  rw [hg] at he
  have hgd := guard_geo
  clear hg
  by_cases h0 : nu = nu2
  · have q0 : (nu == nu2) = true := by simpa using h0
    by_cases h1 : se = se2
    · have q1 : (se == se2) = true := by simpa using h1
      by_cases h2 : sq = sq2
      · have q2 : (sq == sq2) = true := by simpa using h2
        cases g
        · have HV := Lib.hid (And.intro h0 (And.intro h1 h2))
          clear h0 h1 h2
          go_enter Tryz.func31, Tryz.ntmps31
          go_wp2_with fail
          go_ret
          exact ⟨ret_bool (by rw [HS.out]; simp), HB.out⟩
        · have HV := Lib.hid (And.intro h0 (And.intro h1 h2))
          clear h0 h1 h2
          go_enter Tryz.func31, Tryz.ntmps31
          go_wp2_with fail
          refine (equ_is (HR.out.up HB.out) (HR2.out.up HB.out) HL.out HL2.out hn).mono ?_
          rintro r w1 ⟨rfl, hb⟩
          have HB1 := Lib.hid (HB.out.trans (hb.mono HB.out.size))
          clear hb
          go_wp2_with fail
          go_ret
          exact ⟨ret_bool (by rw [HS.out]; simp [HV.out.1, HV.out.2.1, HV.out.2.2]), HB1.out⟩
      · have q2 : (sq == sq2) = false := by simpa using h2
        have HV := Lib.hid h2
        clear h0 h1 h2 he hgd
        go_enter Tryz.func31, Tryz.ntmps31
        go_wp2_with fail
        go_ret
        exact ⟨ret_bool (by rw [HS.out]; simp [HV.out]), HB.out⟩
    · have q1 : (se == se2) = false := by simpa using h1
      have HV := Lib.hid h1
      clear h0 h1 he hgd
      go_enter Tryz.func31, Tryz.ntmps31
      go_wp2_with fail
      go_ret
      exact ⟨ret_bool (by rw [HS.out]; simp [HV.out]), HB.out⟩
  · have q0 : (nu == nu2) = false := by simpa using h0
    have HV := Lib.hid h0
    clear h0 he hgd
    go_enter Tryz.func31, Tryz.ntmps31
    go_wp2_with fail
    go_ret
    exact ⟨ret_bool (by rw [HS.out]; simp [HV.out]), HB.out⟩
end Go.Proofs.YthmpimjmajoimaaGreatDoor
