/-
  Plain mathematics of package valid: a set of live addresses, each zone's number, counts.
-/
import Derived.Test.YtajccmkdfmpapaaDoorGeoMath
import Derived.Lib.BitFns
namespace Go.Proofs.YtajccmkdfmpapaaDoor

/-- A set: its geometry, the live addresses as they were marked. -/
structure VaS where
  z : Int
  p : Int
  b : Int
  L : List Nat
namespace VaS
def m (S : VaS) : Nat := (S.z - 2).toNat
def P (S : VaS) : Nat := S.p.toNat
structure WF (S : VaS) : Prop where
  i : insB S.z S.p = true
  nd : S.L.Nodup
  mem : ∀ a ∈ S.L, 1 ≤ a ∧ a ≤ S.m * S.P
/-- The address of a zone's page j; is it live? -/
def adr (S : VaS) (zone : Int) (j : Nat) : Nat := (ofI S.z S.p zone j).toNat
def liveB (S : VaS) (a : Nat) : Bool := decide (a ∈ S.L)
/-- The first k pages' live addresses. -/
def ofK (S : VaS) (zone : Int) (k : Nat) : List Nat := ((List.range k).filter (fun j => S.liveB (S.adr zone j))).map (S.adr zone)
def ofL (S : VaS) (zone : Int) : List Nat := S.ofK zone S.P
def cnt (S : VaS) (zone : Int) : Nat := (S.ofL zone).length
def sumK (S : VaS) : Nat → Nat
  | 0 => 0
  | k + 1 => S.sumK k + S.cnt (k : Int)
def bareK (S : VaS) (k : Nat) : List Nat := (List.range k).filter (fun (i : Nat) => decide (S.cnt (i : Int) = 0))
def bareL (S : VaS) : List Nat := S.bareK S.m
def isB (S : VaS) (a : Nat) : Bool := decide (1 ≤ a ∧ a ≤ S.m * S.P)
def markB (S : VaS) (a : Nat) : Bool := S.isB a && !S.liveB a
def markS (S : VaS) (a : Nat) : VaS := if S.markB a = true then { S with L := S.L ++ [a] } else S
def unmarkS (S : VaS) (a : Nat) : VaS := { S with L := S.L.filter (fun x => decide (x ≠ a)) }

theorem bd {S : VaS} (h : insB S.z S.p = true) : S.z = (S.m : Int) + 2 ∧ S.p = (S.P : Int) ∧ 9 ≤ S.m ∧ S.m ≤ 22 ∧ 4 ≤ S.P ∧ S.P ≤ 16 ∧ lastI S.z S.p = ((S.m * S.P : Nat) : Int) ∧ 36 ≤ S.m * S.P ∧ S.m * S.P ≤ 352 := by
  obtain ⟨g1, g2, g3, g4⟩ := insB_iff.1 h
  have e1 : S.z = (S.m : Int) + 2 := by unfold m; omega
  have e2 : S.p = (S.P : Int) := by unfold P; omega
  have hl := last_bd h
  have e3 : lastI S.z S.p = ((S.m * S.P : Nat) : Int) := by
    unfold lastI
    rw [e2]
    conv => lhs; rw [e1]
    rw [show ((S.m : Int) + 2 - 2) = (S.m : Int) by omega, Int.natCast_mul]
  rw [e3] at hl
  exact ⟨e1, e2, by omega, by omega, by omega, by omega, e3, by omega, by omega⟩

section
variable {S : VaS}
theorem adr_in (h : insB S.z S.p = true) {i j : Nat} (hi : i < S.m) (hj : j < S.P) : S.adr (i : Int) j = 1 + i * S.P + j ∧ ofI S.z S.p (i : Int) (j : Int) = ((1 + i * S.P + j : Nat) : Int) := by
  obtain ⟨e1, e2, _⟩ := bd h
  have e : ofI S.z S.p (i : Int) (j : Int) = ((1 + i * S.P + j : Nat) : Int) := by
    rw [ofI_in (by omega) (by omega) (by omega) (by omega)]
    conv => lhs; rw [e2]
    rw [Int.natCast_add, Int.natCast_add, Int.natCast_mul]
    rfl
  refine ⟨?_, e⟩
  unfold adr
  rw [e]
  rfl
theorem adr_out {zone : Int} (h : zone < 0 ∨ S.z - 2 ≤ zone) (j : Nat) : S.adr zone j = 0 := by
  unfold adr ofI
  rw [if_pos (by omega)]
  rfl
theorem adr_cast (h : insB S.z S.p = true) (zone : Int) (j : Nat) : ofI S.z S.p zone (j : Int) = (S.adr zone j : Int) := by
  have := (ofI_bd h zone (j : Int)).1
  unfold adr
  omega
theorem adr_inj (h : insB S.z S.p = true) {i j i' j' : Nat} (hj : j < S.P) (hj' : j' < S.P) (e : 1 + i * S.P + j = 1 + i' * S.P + j') : i = i' ∧ j = j' := by
  have e1 : (i * S.P + j) / S.P = i := by rw [Nat.mul_comm, Nat.mul_add_div (by omega), Nat.div_eq_of_lt hj]; omega
  have e2 : (i' * S.P + j') / S.P = i' := by rw [Nat.mul_comm, Nat.mul_add_div (by omega), Nat.div_eq_of_lt hj']; omega
  have e3 : i * S.P + j = i' * S.P + j' := by omega
  rw [e3] at e1
  have hi : i = i' := e1.symm.trans e2
  subst hi
  exact ⟨rfl, by omega⟩
/-- An address' page. -/
theorem page_of (h : insB S.z S.p = true) {a : Nat} (h1 : 1 ≤ a) (h2 : a ≤ S.m * S.P) : (a - 1) / S.P < S.m ∧ (a - 1) % S.P < S.P ∧ 1 + (a - 1) / S.P * S.P + (a - 1) % S.P = a ∧ atI S.z S.p (a : Int) = ((((a - 1) / S.P : Nat) : Int), (((a - 1) % S.P : Nat) : Int), true) := by
  obtain ⟨e1, e2, _, _, hP, _, e3, _⟩ := bd h
  have hm := Nat.div_add_mod (a - 1) S.P
  rw [Nat.mul_comm] at hm
  have hlt : (a - 1) / S.P < S.m := Nat.div_lt_of_lt_mul (by rw [Nat.mul_comm]; omega)
  have hmod : (a - 1) % S.P < S.P := Nat.mod_lt _ (by omega)
  refine ⟨hlt, hmod, by omega, ?_⟩
  unfold atI
  rw [if_neg (by omega), show ((a : Int) - 1) = ((a - 1 : Nat) : Int) by omega]
  conv => lhs; rw [e2]
  rw [← Int.natCast_ediv, ← Int.natCast_emod]
theorem no_page (h : insB S.z S.p = true) {a : Nat} (h2 : ¬ (1 ≤ a ∧ a ≤ S.m * S.P)) : atI S.z S.p (a : Int) = (0, 0, false) := by
  obtain ⟨e1, e2, _, _, hP, _, e3, _⟩ := bd h
  unfold atI
  rw [if_pos (by omega)]
theorem WF.not_zero (h : S.WF) {a : Nat} (ha : ¬ (1 ≤ a ∧ a ≤ S.m * S.P)) : S.liveB a = false := by
  unfold liveB
  simp only [decide_eq_false_iff_not]
  exact fun hm => ha (h.mem a hm)

theorem ofK_snoc (zone : Int) (k : Nat) : S.ofK zone (k + 1) = if S.liveB (S.adr zone k) = true then S.ofK zone k ++ [S.adr zone k] else S.ofK zone k := by
  unfold ofK
  rw [List.range_succ, List.filter_append]
  by_cases e : S.liveB (S.adr zone k) = true
  · rw [if_pos e, List.filter_cons_of_pos (by simpa using e)]
    simp
  · rw [if_neg e, List.filter_cons_of_neg (by simpa using e)]
    simp
theorem ofK_len (zone : Int) (k : Nat) : (S.ofK zone k).length ≤ k := by
  unfold ofK
  rw [List.length_map]
  exact Nat.le_trans (List.length_filter_le _ _) (by simp)
theorem cnt_le (zone : Int) : S.cnt zone ≤ S.P := ofK_len zone S.P
theorem ofL_out (h : S.WF) {zone : Int} (hz : zone < 0 ∨ S.z - 2 ≤ zone) : S.ofL zone = [] := by
  unfold ofL ofK
  rw [List.map_eq_nil_iff, List.filter_eq_nil_iff]
  intro j _
  rw [adr_out hz, h.not_zero (by omega)]
  simp
theorem bareK_snoc (k : Nat) : S.bareK (k + 1) = if S.cnt (k : Int) = 0 then S.bareK k ++ [k] else S.bareK k := by
  unfold bareK
  rw [List.range_succ, List.filter_append]
  by_cases e : S.cnt (k : Int) = 0
  · rw [if_pos e, List.filter_cons_of_pos (by simpa using e)]
    rfl
  · rw [if_neg e, List.filter_cons_of_neg (by simpa using e)]
    simp
theorem bareK_len (k : Nat) : (S.bareK k).length ≤ k := Nat.le_trans (List.length_filter_le _ _) (by simp)
end

/-- Of the numbers below n as many are in L as L has. -/
theorem one_of (a : Nat) : ∀ n : Nat, ((List.range n).filter (fun x => decide (x + 1 = a))).length = if 1 ≤ a ∧ a ≤ n then 1 else 0
  | 0 => by rw [if_neg (by omega)]; rfl
  | n + 1 => by
    rw [List.range_succ, List.filter_append, List.length_append, one_of a n]
    by_cases e : n + 1 = a
    · rw [List.filter_cons_of_pos (by simpa using e), if_neg (by omega), if_pos (by omega)]
      rfl
    · rw [List.filter_cons_of_neg (by simpa using e)]
      by_cases h : 1 ≤ a ∧ a ≤ n
      · rw [if_pos h, if_pos (by omega)]
        rfl
      · rw [if_neg h, if_neg (by omega)]
        rfl
theorem or_of {a : Nat} {L : List Nat} (ha : a ∉ L) : ∀ R : List Nat, (R.filter (fun x => decide (x + 1 ∈ a :: L))).length = (R.filter (fun x => decide (x + 1 = a))).length + (R.filter (fun x => decide (x + 1 ∈ L))).length
  | [] => rfl
  | x :: R => by
    have ih := or_of ha R
    by_cases e : x + 1 = a
    · have hn : x + 1 ∉ L := fun h => ha (e ▸ h)
      rw [List.filter_cons_of_pos (by simp [e]), List.filter_cons_of_pos (by simp [e]), List.filter_cons_of_neg (by simpa using hn), List.length_cons, List.length_cons, ih]
      omega
    · by_cases hm : x + 1 ∈ L
      · rw [List.filter_cons_of_pos (by simp [hm]), List.filter_cons_of_neg (by simpa using e), List.filter_cons_of_pos (by simpa using hm), List.length_cons, List.length_cons, ih]
        omega
      · rw [List.filter_cons_of_neg (by simp [e, hm]), List.filter_cons_of_neg (by simpa using e), List.filter_cons_of_neg (by simpa using hm), ih]
theorem all_of {n : Nat} : ∀ {L : List Nat}, L.Nodup → (∀ a ∈ L, 1 ≤ a ∧ a ≤ n) → ((List.range n).filter (fun x => decide (x + 1 ∈ L))).length = L.length
  | [], _, _ => by simp
  | a :: L, hd, hm => by
    rw [List.nodup_cons] at hd
    rw [or_of hd.1, all_of hd.2 (fun x hx => hm x (by simp [hx])), one_of, if_pos (hm a (by simp)), List.length_cons]
    omega

section
variable {S : VaS}
theorem cnt_in (h : insB S.z S.p = true) {i : Nat} (hi : i < S.m) : S.cnt (i : Int) = ((List.range S.P).filter (fun j => decide (1 + i * S.P + j ∈ S.L))).length := by
  unfold cnt ofL ofK
  rw [List.length_map]
  congr 1
  refine List.filter_congr fun j hj => ?_
  rw [List.mem_range] at hj
  rw [(adr_in h hi hj).1]
  rfl
theorem sum_up (h : insB S.z S.p = true) : ∀ k : Nat, k ≤ S.m → S.sumK k = ((List.range (k * S.P)).filter (fun x => decide (x + 1 ∈ S.L))).length
  | 0, _ => by simp [sumK]
  | k + 1, hk => by
    unfold sumK
    rw [sum_up h k (by omega), cnt_in h (by omega), Nat.add_mul, Nat.one_mul, List.range_add, List.filter_append, List.length_append, List.filter_map, List.length_map]
    congr 2
    refine List.filter_congr fun j _ => ?_
    simp only [Function.comp]
    rw [show k * S.P + j + 1 = 1 + k * S.P + j by omega]
theorem sum_all (h : S.WF) : S.sumK S.m = S.L.length := by
  rw [sum_up h.i S.m (Nat.le_refl _), all_of h.nd h.mem]
theorem len_le (h : S.WF) : S.L.length ≤ 352 := by
  rw [← all_of h.nd h.mem]
  refine Nat.le_trans (List.length_filter_le _ _) ?_
  rw [List.length_range]
  exact (bd h.i).2.2.2.2.2.2.2.2
theorem sum_le : ∀ k : Nat, S.sumK k ≤ k * S.P
  | 0 => by simp [sumK]
  | k + 1 => by
    have := sum_le k
    have h2 := cnt_le (S := S) (k : Int)
    unfold sumK
    rw [Nat.add_mul]
    omega

theorem markS_wf (h : S.WF) (a : Nat) : (S.markS a).WF := by
  unfold markS
  by_cases hb : S.markB a = true
  · rw [if_pos hb]
    unfold markB isB liveB at hb
    simp only [Bool.and_eq_true, decide_eq_true_eq, Bool.not_eq_true', decide_eq_false_iff_not] at hb
    refine ⟨h.i, ?_, ?_⟩
    · show (S.L ++ [a]).Nodup
      rw [List.nodup_append]
      exact ⟨h.nd, by simp, fun x hx y hy => by
        simp only [List.mem_singleton] at hy
        subst hy
        exact fun e => hb.2 (e ▸ hx)⟩
    · intro x hx
      have hx : x ∈ S.L ++ [a] := hx
      rw [List.mem_append, List.mem_singleton] at hx
      rcases hx with hx | rfl
      · exact h.mem x hx
      · exact hb.1
  · rw [if_neg hb]
    exact h
theorem unmarkS_wf (h : S.WF) (a : Nat) : (S.unmarkS a).WF := ⟨h.i, h.nd.filter _, fun x hx => h.mem x (List.mem_filter.1 hx).1⟩
theorem unmark_not {a : Nat} (h : S.liveB a = false) : S.unmarkS a = S := by
  unfold liveB at h
  simp only [decide_eq_false_iff_not] at h
  have e : S.L.filter (fun x => decide (x ≠ a)) = S.L := List.filter_eq_self.2 fun x hx => by
    simp only [decide_eq_true_eq]
    exact fun e => h (e ▸ hx)
  unfold unmarkS
  rw [e]
theorem filter_len {a : Nat} : ∀ {L : List Nat}, L.Nodup → a ∈ L → (L.filter (fun x => decide (x ≠ a))).length + 1 = L.length
  | [], _, h => by simp at h
  | x :: L, hd, h => by
    rw [List.nodup_cons] at hd
    by_cases e : x = a
    · subst e
      rw [List.filter_cons_of_neg (by simp), List.length_cons]
      have : L.filter (fun y => decide (y ≠ x)) = L := List.filter_eq_self.2 fun y hy => by
        simp only [decide_eq_true_eq]
        exact fun e => hd.1 (e ▸ hy)
      rw [this]
    · have hm : a ∈ L := by
        rcases List.mem_cons.1 h with h | h
        · exact absurd h.symm e
        · exact h
      rw [List.filter_cons_of_pos (by simpa using e), List.length_cons, List.length_cons, filter_len hd.2 hm]
theorem unmark_len (h : S.WF) (a : Nat) : (S.unmarkS a).L.length = if S.liveB a = true then S.L.length - 1 else S.L.length := by
  by_cases hb : S.liveB a = true
  · rw [if_pos hb]
    unfold liveB at hb
    have := filter_len h.nd (by simpa using hb)
    show (S.L.filter (fun x => decide (x ≠ a))).length = _
    omega
  · rw [if_neg hb, unmark_not (by simpa using hb)]
theorem unmark_live (a : Nat) : (S.unmarkS a).liveB a = false := by
  unfold liveB unmarkS
  simp
theorem mark_len (a : Nat) : (S.markS a).L.length = if S.markB a = true then S.L.length + 1 else S.L.length := by
  unfold markS
  split
  · simp
  · rfl
end

/-- The zones' numbers: page j of zone i is live just if bit j is set. -/
def Bits (S : VaS) (N : Nat → Nat) : Prop := ∀ i, i < S.m → N i < 65536 ∧ ∀ j, (N i).testBit j = (decide (j < S.P) && decide (1 + i * S.P + j ∈ S.L))
def upN (N : Nat → Nat) (i x : Nat) : Nat → Nat := fun k => if k = i then x else N k
theorem Bits.zero (S : VaS) (h : S.L = []) : Bits S (fun _ => 0) := fun i _ => ⟨show 0 < 65536 by omega, fun j => by rw [h]; simp⟩
theorem pop_range : ∀ (f x : Nat), Lib.popAux f x = ((List.range f).filter (fun j => x.testBit j)).length
  | 0, _ => rfl
  | f + 1, x => by
    unfold Lib.popAux
    rw [pop_range f (x / 2), List.range_succ_eq_map]
    have e : ((List.map Nat.succ (List.range f)).filter (fun j => x.testBit j)).length = ((List.range f).filter (fun j => (x / 2).testBit j)).length := by
      rw [List.filter_map, List.length_map]
      congr 1
      refine List.filter_congr fun j _ => ?_
      simp only [Function.comp, Nat.succ_eq_add_one]
      rw [Nat.testBit_add_one]
    by_cases hb : x.testBit 0 = true
    · rw [List.filter_cons_of_pos hb, List.length_cons, e]
      rw [Nat.testBit_zero] at hb
      simp only [decide_eq_true_eq] at hb
      omega
    · rw [List.filter_cons_of_neg hb, e]
      rw [Nat.testBit_zero] at hb
      simp only [decide_eq_true_eq] at hb
      omega
section
variable {S : VaS} {N : Nat → Nat}
theorem Bits.count (h : Bits S N) (hi : insB S.z S.p = true) {i : Nat} (hl : i < S.m) : Lib.onesCount (N i) = S.cnt (i : Int) := by
  unfold Lib.onesCount
  rw [pop_range, cnt_in hi hl, show (64 : Nat) = S.P + (64 - S.P) by have := (bd hi).2.2.2.2.2.1; omega, List.range_add, List.filter_append, List.length_append]
  have e : (((List.range (64 - S.P)).map (fun x => S.P + x)).filter (fun j => (N i).testBit j)).length = 0 := by
    rw [List.length_eq_zero_iff, List.filter_eq_nil_iff]
    intro j hj
    rw [List.mem_map] at hj
    obtain ⟨x, _, rfl⟩ := hj
    rw [(h i hl).2, decide_eq_false (show ¬ S.P + x < S.P by omega)]
    simp
  rw [e, Nat.add_zero]
  congr 1
  refine List.filter_congr fun j hj => ?_
  rw [List.mem_range] at hj
  rw [(h i hl).2]
  simp [hj]
theorem Bits.live (h : Bits S N) {i j : Nat} (hl : i < S.m) (hj : j < S.P) : (N i).testBit j = S.liveB (1 + i * S.P + j) := by
  rw [(h i hl).2]
  simp [hj, liveB]
/-- A bit is turned. -/
theorem Bits.turn {S' : VaS} (h : Bits S N) (hi : insB S.z S.p = true) (hm : S'.m = S.m) (hP : S'.P = S.P) {i j : Nat} (hl : i < S.m) (hj : j < S.P) (hL : ∀ a, a ≠ 1 + i * S.P + j → (a ∈ S'.L ↔ a ∈ S.L)) (ha : 1 + i * S.P + j ∈ S'.L ↔ ¬ 1 + i * S.P + j ∈ S.L) : Bits S' (upN N i (N i ^^^ 2 ^ j)) := by
  intro i' hi'
  rw [hm] at hi'
  rw [hP]
  unfold upN
  have hP16 := (bd hi).2.2.2.2.2.1
  by_cases e : i' = i
  · subst e
    rw [if_pos rfl]
    refine ⟨Nat.xor_lt_two_pow (n := 16) (h i' hl).1 (Nat.pow_lt_pow_right (by omega) (by omega)), fun j' => ?_⟩
    rw [Nat.testBit_xor, Nat.testBit_two_pow, (h i' hl).2]
    by_cases e2 : j = j'
    · subst e2
      simp only [hj, decide_true, Bool.true_and, Bool.bne_true]
      rw [Bool.eq_iff_iff]
      simp [ha]
    · simp only [e2, decide_false, Bool.bne_false]
      by_cases hj' : j' < S.P
      · simp only [hj', decide_true, Bool.true_and]
        rw [Bool.eq_iff_iff]
        simp only [decide_eq_true_eq]
        exact (hL _ (fun e3 => e2 (by omega))).symm
      · simp [hj']
  · rw [if_neg e]
    refine ⟨(h i' hi').1, fun j' => ?_⟩
    rw [(h i' hi').2]
    by_cases hj' : j' < S.P
    · simp only [hj', decide_true, Bool.true_and]
      rw [Bool.eq_iff_iff]
      simp only [decide_eq_true_eq]
      exact (hL _ (fun e3 => e (adr_inj hi hj' hj e3).1)).symm
    · simp [hj']
theorem and_bit (x j : Nat) : (x &&& 2 ^ j == 0) = !x.testBit j := by
  cases h : x.testBit j with
  | true =>
    have : x &&& 2 ^ j ≠ 0 := fun e => by
      have h2 : (x &&& 2 ^ j).testBit j = true := by rw [Nat.testBit_and, h, Nat.testBit_two_pow]; simp
      rw [e] at h2
      simp at h2
    simpa using this
  | false =>
    have : x &&& 2 ^ j = 0 := Nat.eq_of_testBit_eq fun i => by
      rw [Nat.testBit_and, Nat.testBit_two_pow]
      by_cases e : j = i
      · subst e
        rw [h]
        simp
      · simp [e]
    simpa using this
end
end VaS
end Go.Proofs.YtajccmkdfmpapaaDoor
