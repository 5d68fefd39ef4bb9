/-
  What Bytes and Read answer of whatever arguments, and the document's; heads that are compared.
-/
import Derived.Test.YtnkkifnglkajfaaDoorHeadJ
import Derived.Test.YtnkkifnglkajfaaDoorCodeA
import Derived.Laws.StructEq
namespace Go.Proofs.YtnkkifnglkajfaaDoor
open Go.RowKit

abbrev hV (k s i q : Int) : Value := .agg #[.int .u8 k, .int .u32 s, .int .u32 i, .int .u32 q]
def bytesX (k s i q : Int) (blk : List Int) : List Int := if rightK k = true ∧ blk.length = 16 then pageB k s i q blk else []
def bytesE (k : Int) (blk : List Int) : Int := if rightK k = false then 1 else if blk.length ≠ 16 then 3 else 0
def readE (ps : List Int) : Int := if ps.length ≠ 33 then 3 else if bk ps 13 ≠ tot ps then 4 else if rightK (ps.getD 0 0) = false then 2 else 0
def readX (ps : List Int) : List Int := if readE ps = 0 then ps.drop 17 else []
def readK (ps : List Int) : Int := if readE ps = 0 then ps.getD 0 0 else 0
def readN (ps : List Int) (o : Nat) : Int := if readE ps = 0 then bk ps o else 0

/-- A row of bytes and an error's code. -/
def TwoIs (e : Value) (xs : List Int) (w : World) (r : Ending) (w' : World) : Prop := ∃ A m c, r = .returned (.tuple #[.slice A m c, e]) ∧ xs.length = m ∧ m ≤ c ∧ Rd w' w'.heap.size A xs ∧ Below w.heap.size w w'
theorem hbytes_all {A : Option Addr} {blk : List Int} {n c : Nat} {w : World} (k s i q : Int) (hr : Rd w w.heap.size A blk) (hb : Byt blk) (hl : blk.length = n) (hc : n ≤ c) (s0 : 0 ≤ s ∧ s ≤ 4294967295) (i0 : 0 ≤ i ∧ i ≤ 4294967295) (q0 : 0 ≤ q ∧ q ≤ 4294967295) :
    Calls Tryd.prog 7 #[hV k s i q, .slice A n c] w (TwoIs (errV (bytesE k blk)) (bytesX k s i q blk) w) := by
  by_cases hk : rightK k = true
  · by_cases hn : n = 16
    · subst hn
      have e1 : bytesE k blk = 0 := by simp [bytesE, hk, hl]
      have e2 : bytesX k s i q blk = pageB k s i q blk := by simp [bytesX, hk, hl]
      rw [e1, e2]
      refine (bytes_ok k s i q A blk c w hr hb hl hc hk s0 i0 q0).mono ?_
      rintro r w' ⟨g, rfl, hB, _, hw⟩
      exact ⟨_, _, _, rfl, by rw [pageB_len, hl], by omega, hB.rd 0, hw⟩
    · have e1 : bytesE k blk = 3 := by simp [bytesE, hk, hl, hn]
      have e2 : bytesX k s i q blk = [] := by simp [bytesX, hl, hn]
      rw [e1, e2]
      refine (bytes_short k s i q A n c w hk hn).mono ?_
      rintro r w' ⟨rfl, hw⟩
      exact ⟨_, _, _, rfl, rfl, by omega, Rd.nil, hw⟩
  · have hk' : rightK k = false := by simpa using hk
    have e1 : bytesE k blk = 1 := by simp [bytesE, hk']
    have e2 : bytesX k s i q blk = [] := by simp [bytesX, hk']
    rw [e1, e2]
    refine (bytes_arg k s i q A n c w hk').mono ?_
    rintro r w' ⟨rfl, hw⟩
    exact ⟨_, _, _, rfl, rfl, by omega, Rd.nil, hw⟩
theorem rbytes_all {A : Option Addr} {blk : List Int} {n c : Nat} {w : World} (k s i q : Int) (hr : Rd w w.heap.size A blk) (hb : Byt blk) (hl : blk.length = n) (hc : n ≤ c) (s0 : 0 ≤ s ∧ s ≤ 4294967295) (i0 : 0 ≤ i ∧ i ≤ 4294967295) (q0 : 0 ≤ q ∧ q ≤ 4294967295) :
    Calls Tryd.prog 8 #[hV k s i q, .slice A n c] w (TwoIs (.int .i64 (bytesE k blk)) (bytesX k s i q blk) w) := by
  by_cases hk : rightK k = true
  · by_cases hn : n = 16
    · subst hn
      have e1 : bytesE k blk = 0 := by simp [bytesE, hk, hl]
      have e2 : bytesX k s i q blk = pageB k s i q blk := by simp [bytesX, hk, hl]
      rw [e1, e2]
      obtain ⟨b, o, rfl, _, _⟩ := hr (by omega)
      refine (rbytes_ok k s i q b o blk c w hr hb hl hc hk s0 i0 q0).mono ?_
      rintro r w' ⟨g, cap, rfl, hO, hw⟩
      have hcap := hO.cap
      rw [pageB_len, hl] at hcap
      exact ⟨_, _, _, rfl, by rw [pageB_len, hl], by omega, hO.rd, hw⟩
    · have e1 : bytesE k blk = 3 := by simp [bytesE, hk, hl, hn]
      have e2 : bytesX k s i q blk = [] := by simp [bytesX, hl, hn]
      rw [e1, e2]
      refine (rbytes_no k s i q A n c w 3 (.inr ⟨hk, hn, rfl⟩)).mono ?_
      rintro r w' ⟨rfl, hw⟩
      exact ⟨_, _, _, rfl, rfl, by omega, Rd.nil, hw⟩
  · have hk' : rightK k = false := by simpa using hk
    have e1 : bytesE k blk = 1 := by simp [bytesE, hk']
    have e2 : bytesX k s i q blk = [] := by simp [bytesX, hk']
    rw [e1, e2]
    refine (rbytes_no k s i q A n c w 1 (.inl ⟨hk', rfl⟩)).mono ?_
    rintro r w' ⟨rfl, hw⟩
    exact ⟨_, _, _, rfl, rfl, by omega, Rd.nil, hw⟩

/-- A head, a row of bytes and an error's code. -/
def ThreeIs (e : Value) (ps : List Int) (w : World) (r : Ending) (w' : World) : Prop :=
  ∃ A m c, r = .returned (.tuple #[hV (readK ps) (readN ps 1) (readN ps 5) (readN ps 9), .slice A m c, e]) ∧ (readX ps).length = m ∧ m ≤ c ∧ Rd w' w'.heap.size A (readX ps) ∧ Below w.heap.size w w'
theorem hread_all {A : Option Addr} {ps : List Int} {n c : Nat} {w : World} (hr : Rd w w.heap.size A ps) (hx : Byt ps) (hl : ps.length = n) (hc : n ≤ c) : Calls Tryd.prog 9 #[.slice A n c] w (ThreeIs (errV (readE ps)) ps w) := by
  by_cases hn : n = 33
  · subst hn
    obtain ⟨b, o, rfl, _, _⟩ := hr (by omega)
    by_cases hs : bk ps 13 = tot ps
    · by_cases hk : rightK (ps.getD 0 0) = true
      · have e : readE ps = 0 := by unfold readE; rw [if_neg (by omega), if_neg (by simpa using hs), if_neg (by rw [hk]; decide)]
        unfold ThreeIs readX readK readN
        simp only [e, if_true]
        refine (read_ok b o c ps w hr hx hl hc hs hk).mono ?_
        rintro r w' ⟨g, cap, rfl, hO, hw⟩
        have hcap := hO.cap
        simp [hl] at hcap
        exact ⟨_, _, _, rfl, by simp [hl], by omega, hO.rd, hw⟩
      · have hk' : rightK (ps.getD 0 0) = false := by simpa using hk
        have e : readE ps = 2 := by unfold readE; rw [if_neg (by omega), if_neg (by simpa using hs), if_pos hk']
        unfold ThreeIs readX readK readN
        simp only [e, show ((2 : Int) = 0) = False by simp, if_false]
        refine (read_form b o c ps w hr hx hl hc hs hk').mono ?_
        rintro r w' ⟨rfl, hw⟩
        exact ⟨_, _, _, rfl, rfl, by omega, Rd.nil, hw⟩
    · have e : readE ps = 4 := by simp [readE, hl, hs]
      unfold ThreeIs readX readK readN
      simp only [e, show ((4 : Int) = 0) = False by simp, if_false]
      refine (read_sum b o c ps w hr hx hl hc hs).mono ?_
      rintro r w' ⟨rfl, hw⟩
      exact ⟨_, _, _, rfl, rfl, by omega, Rd.nil, hw⟩
  · have e : readE ps = 3 := by simp [readE, hl, hn]
    unfold ThreeIs readX readK readN
    simp only [e, show ((3 : Int) = 0) = False by simp, if_false]
    refine (read_short A n c w hn).mono ?_
    rintro r w' ⟨rfl, hw⟩
    exact ⟨_, _, _, rfl, rfl, by omega, Rd.nil, hw⟩
theorem rread_all {A : Option Addr} {ps : List Int} {n c : Nat} {w : World} (hr : Rd w w.heap.size A ps) (hx : Byt ps) (hl : ps.length = n) (hc : n ≤ c) : Calls Tryd.prog 10 #[.slice A n c] w (ThreeIs (.int .i64 (readE ps)) ps w) := by
  by_cases hn : n = 33
  · subst hn
    obtain ⟨b, o, rfl, _, _⟩ := hr (by omega)
    by_cases hs : bk ps 13 = tot ps
    · by_cases hk : rightK (ps.getD 0 0) = true
      · have e : readE ps = 0 := by unfold readE; rw [if_neg (by omega), if_neg (by simpa using hs), if_neg (by rw [hk]; decide)]
        unfold ThreeIs readX readK readN
        simp only [e, if_true]
        refine (rread_ok b o c ps w hr hx hl hc hs hk).mono ?_
        rintro r w' ⟨g, cap, rfl, hO, hw⟩
        have hcap := hO.cap
        simp [hl] at hcap
        exact ⟨_, _, _, rfl, by simp [hl], by omega, hO.rd, hw⟩
      · have hk' : rightK (ps.getD 0 0) = false := by simpa using hk
        have e : readE ps = 2 := by unfold readE; rw [if_neg (by omega), if_neg (by simpa using hs), if_pos hk']
        unfold ThreeIs readX readK readN
        simp only [e, show ((2 : Int) = 0) = False by simp, if_false]
        refine (rread_form b o c ps w hr hx hl hc hs hk').mono ?_
        rintro r w' ⟨rfl, hw⟩
        exact ⟨_, _, _, rfl, rfl, by omega, Rd.nil, hw⟩
    · have e : readE ps = 4 := by simp [readE, hl, hs]
      unfold ThreeIs readX readK readN
      simp only [e, show ((4 : Int) = 0) = False by simp, if_false]
      refine (rread_sum b o c ps w hr hx hl hc hs).mono ?_
      rintro r w' ⟨rfl, hw⟩
      exact ⟨_, _, _, rfl, rfl, by omega, Rd.nil, hw⟩
  · have e : readE ps = 3 := by simp [readE, hl, hn]
    unfold ThreeIs readX readK readN
    simp only [e, show ((3 : Int) = 0) = False by simp, if_false]
    refine (rread_short A n c w hn).mono ?_
    rintro r w' ⟨rfl, hw⟩
    exact ⟨_, _, _, rfl, rfl, by omega, Rd.nil, hw⟩

/-! ### heads compared -/
theorem eq_head (a b c d x y z u : Int) (w : World) : (Op.equalIn 10000 24 (hV a b c d) (hV x y z u)).run Tryd.prog w = .ok (decide (a = x) && decide (b = y) && decide (c = z) && decide (d = u)) w := by
  have hS : Tryd.prog.underlying 24 = some (.struct (Tryd.prog.fieldsOf 24)) := by kernel_rfl
  have hp : Tryd.prog.stoodInHeld 24 = false := by kernel_rfl
  rw [show (10000 : Nat) = 9999 + 1 from rfl, run_equalIn_agg w 9999 24 _ _ hS hp]
  simp only [Program.fieldsOf, Tryd.underlying24]
  by_cases h1 : a = x <;> by_cases h2 : b = y <;> by_cases h3 : c = z <;> by_cases h4 : d = u <;> simp [Op.eqFields, go_sem, h1, h2, h3, h4]
theorem guard_head (o : BinOp) (_ho : o = .eql ∨ o = .neq) (x y : Operand) (xs ys : Array Value) (w : World) : (eqGuard o 24 x y (.agg xs) (.agg ys)).run Tryd.prog w = .ok () w := run_eqGuard_agg w o 24 x y xs ys (by kernel_rfl)
theorem eql_head (a b c d x y z u : Int) (w : World) : (binOp .eql 24 (hV a b c d) (hV x y z u)).run Tryd.prog w = .ok (.bool (decide (a = x) && decide (b = y) && decide (c = z) && decide (d = u))) w := by
  rw [run_eql_struct, eq_head]
  rfl
theorem neq_head (a b c d x y z u : Int) (w : World) : (binOp .neq 24 (hV a b c d) (hV x y z u)).run Tryd.prog w = .ok (.bool (!(decide (a = x) && decide (b = y) && decide (c = z) && decide (d = u)))) w := by
  rw [run_neq_struct, eq_head]
  rfl
theorem eq_rhead (a b c d x y z u : Int) (w : World) : (Op.equalIn 10000 34 (hV a b c d) (hV x y z u)).run Tryd.prog w = .ok (decide (a = x) && decide (b = y) && decide (c = z) && decide (d = u)) w := by
  have hS : Tryd.prog.underlying 34 = some (.struct (Tryd.prog.fieldsOf 34)) := by kernel_rfl
  have hp : Tryd.prog.stoodInHeld 34 = false := by kernel_rfl
  rw [show (10000 : Nat) = 9999 + 1 from rfl, run_equalIn_agg w 9999 34 _ _ hS hp]
  simp only [Program.fieldsOf, Tryd.underlying34]
  by_cases h1 : a = x <;> by_cases h2 : b = y <;> by_cases h3 : c = z <;> by_cases h4 : d = u <;> simp [Op.eqFields, go_sem, h1, h2, h3, h4]
theorem guard_rhead (x y : Operand) (xs ys : Array Value) (w : World) : (eqGuard .eql 34 x y (.agg xs) (.agg ys)).run Tryd.prog w = .ok () w := run_eqGuard_agg w .eql 34 x y xs ys (by kernel_rfl)
theorem eql_rhead (a b c d x y z u : Int) (w : World) : (binOp .eql 34 (hV a b c d) (hV x y z u)).run Tryd.prog w = .ok (.bool (decide (a = x) && decide (b = y) && decide (c = z) && decide (d = u))) w := by
  rw [run_eql_struct, eq_rhead]
  rfl
end Go.Proofs.YtnkkifnglkajfaaDoor
