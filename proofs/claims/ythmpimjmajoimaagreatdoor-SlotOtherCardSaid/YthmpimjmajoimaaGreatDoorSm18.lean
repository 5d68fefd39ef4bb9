/-
  The landed device as the bundle of its contracts.
  Plain mathematics of package geo: tables, room, the bound, which geometry may be, addresses.
  Plain mathematics of checkpoints: their numbers, their bytes, their blocks; what blocks are of.
-/
import Derived.Test.YthmpimjmajoimaaGreatDoorSm17
import Derived.Below
import Derived.Test.YthmpimjmajoimaaGreatDoorSm01
namespace Go.Proofs.YthmpimjmajoimaaGreatDoor
open Go.RowKit

end Go.Proofs.YthmpimjmajoimaaGreatDoor
namespace Go.Proofs.YthmpimjmajoimaaGreatDoor

/-- How many map pages tell n blocks. -/
def tab (n : Int) : Int := if n ≤ 0 then 0 else (n - 1) / 4 + 1
def roomB (z p n : Int) : Bool := decide (tab n ≤ p ∧ 2 * (n + tab n) ≤ (z - 7) * p)
/-- The greatest number up to k that has room, or 0. -/
def bndN (z p : Int) : Nat → Int
  | 0 => 0
  | k + 1 => if roomB z p ((k : Int) + 1) then (k : Int) + 1 else bndN z p k
def insB (z p : Int) : Bool := decide (11 ≤ z ∧ z ≤ 24 ∧ 4 ≤ p ∧ p ≤ 16)
def bnd (z p : Int) : Int := if insB z p then bndN z p 64 else 0
def rightB (z p b : Int) : Bool := decide (1 ≤ b ∧ b ≤ bnd z p)

theorem tab_pos {n : Int} (h : 1 ≤ n) : tab n = (n - 1) / 4 + 1 := by unfold tab; rw [if_neg (by omega)]
theorem tab_zero {n : Int} (h : n ≤ 0) : tab n = 0 := by unfold tab; rw [if_pos h]
theorem tab_ref {n : Int} (h : 0 ≤ n) : tab n = n / 4 + (if 0 < n % 4 then 1 else 0) := by
  unfold tab
  by_cases h0 : n ≤ 0
  · obtain rfl : n = 0 := by omega
    rfl
  · rw [if_neg h0]
    split <;> omega
theorem tab_le {n : Int} (h : 1 ≤ n) (h2 : n ≤ 64) : 1 ≤ tab n ∧ tab n ≤ 16 := by rw [tab_pos h]; omega

theorem insB_iff {z p : Int} : insB z p = true ↔ 11 ≤ z ∧ z ≤ 24 ∧ 4 ≤ p ∧ p ≤ 16 := by unfold insB; simp
theorem bnd_in {z p : Int} (h : insB z p = true) : bnd z p = bndN z p 64 := by unfold bnd; rw [if_pos h]
theorem bnd_out {z p : Int} (h : insB z p = false) : bnd z p = 0 := by unfold bnd; rw [if_neg (by simp [h])]

theorem bndN_le (z p : Int) : ∀ k : Nat, 0 ≤ bndN z p k ∧ bndN z p k ≤ k
  | 0 => by simp [bndN]
  | k + 1 => by
    have := bndN_le z p k
    unfold bndN
    split <;> omega
theorem bndN_room (z p : Int) : ∀ k : Nat, 0 < bndN z p k → roomB z p (bndN z p k) = true
  | 0, h => by simp [bndN] at h
  | k + 1, h => by
    unfold bndN at h ⊢
    by_cases hr : roomB z p ((k : Int) + 1) = true
    · rw [if_pos hr]; exact hr
    · rw [if_neg hr] at h ⊢
      exact bndN_room z p k h
theorem le_bndN (z p : Int) : ∀ (k : Nat) (n : Int), 1 ≤ n → n ≤ k → roomB z p n = true → n ≤ bndN z p k
  | 0, n, h, h2, _ => by simp at h2; omega
  | k + 1, n, h, h2, hr => by
    unfold bndN
    by_cases he : roomB z p ((k : Int) + 1) = true
    · rw [if_pos he]; omega
    · rw [if_neg he]
      refine le_bndN z p k n h ?_ hr
      have : n ≠ (k : Int) + 1 := fun e => he (e ▸ hr)
      omega
theorem bndN_mono {z p z' p' : Int} (k : Nat) (h : ∀ n : Int, 1 ≤ n → n ≤ k → roomB z p n = true → roomB z' p' n = true) : bndN z p k ≤ bndN z' p' k := by
  by_cases h0 : 0 < bndN z p k
  · have hl := bndN_le z p k
    have h1 : 1 ≤ bndN z p k := by omega
    exact le_bndN z' p' k (bndN z p k) h1 hl.2 (h (bndN z p k) h1 hl.2 (bndN_room z p k h0))
  · have := (bndN_le z' p' k).1
    omega
/-- The zones but seven times pages, in a form that omega takes. -/
theorem zp_cases {z : Int} (h : 11 ≤ z) (h2 : z ≤ 25) : z = 11 ∨ z = 12 ∨ z = 13 ∨ z = 14 ∨ z = 15 ∨ z = 16 ∨ z = 17 ∨ z = 18 ∨ z = 19 ∨ z = 20 ∨ z = 21 ∨ z = 22 ∨ z = 23 ∨ z = 24 ∨ z = 25 := by omega
theorem zp_bd {z p : Int} (h : insB z p = true) : 16 ≤ (z - 7) * p ∧ (z - 7) * p ≤ 272 := by
  obtain ⟨h1, h2, h3, h4⟩ := insB_iff.1 h
  rcases zp_cases h1 (by omega) with e | e | e | e | e | e | e | e | e | e | e | e | e | e | e <;> subst e <;> omega
theorem bnd_bd (z p : Int) : 0 ≤ bnd z p ∧ bnd z p ≤ 64 := by
  unfold bnd
  split
  · have := bndN_le z p 64
    omega
  · omega
theorem bnd_pos {z p : Int} (h : insB z p = true) : 1 ≤ bnd z p := by
  rw [bnd_in h]
  refine le_bndN z p 64 1 (by omega) (by omega) ?_
  have := zp_bd h
  obtain ⟨_, _, h3, _⟩ := insB_iff.1 h
  unfold roomB
  have ht : tab 1 = 1 := rfl
  rw [ht]
  simp
  omega
theorem bnd_room {z p : Int} (h : 0 < bnd z p) : insB z p = true ∧ tab (bnd z p) ≤ p ∧ 2 * (bnd z p + tab (bnd z p)) ≤ (z - 7) * p := by
  by_cases hi : insB z p = true
  · refine ⟨hi, ?_⟩
    rw [bnd_in hi] at h ⊢
    have := bndN_room z p 64 h
    unfold roomB at this
    simpa using this
  · rw [bnd_out (by simpa using hi)] at h
    omega
theorem bnd_more_zones {z p : Int} (h1 : 11 ≤ z) (h2 : z < 24) : bnd z p ≤ bnd (z + 1) p := by
  by_cases hi : insB z p = true
  · have hi' : insB (z + 1) p = true := by have := insB_iff.1 hi; exact insB_iff.2 (by omega)
    rw [bnd_in hi, bnd_in hi']
    refine bndN_mono 64 fun n _ _ h => ?_
    have hp := insB_iff.1 hi
    unfold roomB at h ⊢
    simp only [decide_eq_true_eq] at h ⊢
    refine ⟨h.1, Int.le_trans h.2 ?_⟩
    rcases zp_cases hp.1 (by omega) with e | e | e | e | e | e | e | e | e | e | e | e | e | e | e <;> subst e <;> omega
  · rw [bnd_out (by simpa using hi)]
    exact (bnd_bd _ _).1
theorem bnd_more_pages {z p : Int} (h1 : 4 ≤ p) (h2 : p < 16) : bnd z p ≤ bnd z (p + 1) := by
  by_cases hi : insB z p = true
  · have hi' : insB z (p + 1) = true := by have := insB_iff.1 hi; exact insB_iff.2 (by omega)
    rw [bnd_in hi, bnd_in hi']
    refine bndN_mono 64 fun n _ _ h => ?_
    have hp := insB_iff.1 hi
    unfold roomB at h ⊢
    simp only [decide_eq_true_eq] at h ⊢
    refine ⟨by omega, Int.le_trans h.2 ?_⟩
    rcases zp_cases hp.1 (by omega) with e | e | e | e | e | e | e | e | e | e | e | e | e | e | e <;> subst e <;> omega
  · rw [bnd_out (by simpa using hi)]
    exact (bnd_bd _ _).1
theorem right_in {z p b : Int} (h : rightB z p b = true) : insB z p = true ∧ 1 ≤ b ∧ b ≤ bnd z p := by
  unfold rightB at h
  simp at h
  exact ⟨(bnd_room (by omega)).1, h⟩

/-- The nearest number of zones, of pages, of blocks that may be. -/
def nearZ (z : Int) : Int := min (max z 11) 24
def nearP (p : Int) : Int := min (max p 4) 16
theorem near_ins (z p : Int) : insB (nearZ z) (nearP p) = true := insB_iff.2 (by unfold nearZ nearP; omega)
theorem nearZ_in {z : Int} (h : 11 ≤ z ∧ z ≤ 24) : nearZ z = z := by unfold nearZ; omega
theorem nearP_in {p : Int} (h : 4 ≤ p ∧ p ≤ 16) : nearP p = p := by unfold nearP; omega
theorem nearZ_out {z : Int} (h : ¬ (11 ≤ z ∧ z ≤ 24)) : nearZ z ≠ z := by unfold nearZ; omega
theorem nearP_out {p : Int} (h : ¬ (4 ≤ p ∧ p ≤ 16)) : nearP p ≠ p := by unfold nearP; omega
def nearB (z p b : Int) : Int := min (max b 1) (bnd (nearZ z) (nearP p))
theorem near_eq (z p b : Int) : (decide (z = nearZ z) && decide (p = nearP p) && decide (b = nearB z p b)) = rightB z p b := by
  rw [Bool.eq_iff_iff]
  simp only [Bool.and_eq_true, decide_eq_true_eq]
  constructor
  · rintro ⟨⟨h1, h2⟩, h3⟩
    unfold nearB at h3
    rw [← h1, ← h2] at h3
    have hi := near_ins z p
    rw [← h1, ← h2] at hi
    have := bnd_pos hi
    unfold rightB
    simp
    omega
  · intro h
    obtain ⟨hi, h1, h2⟩ := right_in h
    have hi' := insB_iff.1 hi
    have e1 : nearZ z = z := nearZ_in (by omega)
    have e2 : nearP p = p := nearP_in (by omega)
    refine ⟨⟨e1.symm, e2.symm⟩, ?_⟩
    unfold nearB
    rw [e1, e2]
    omega

/-- A page's address; an address' page. -/
def ofI (z p zone page : Int) : Int := if zone < 0 ∨ z - 2 ≤ zone ∨ page < 0 ∨ p ≤ page then 0 else 1 + zone * p + page
def lastI (z p : Int) : Int := (z - 2) * p
def atI (z p a : Int) : Int × Int × Bool := if a = 0 ∨ lastI z p < a then (0, 0, false) else ((a - 1) / p, (a - 1) % p, true)

theorem mul_bd {z p zone : Int} (h : insB z p = true) (h0 : 0 ≤ zone) (h1 : zone < z - 2) : 0 ≤ zone * p ∧ zone * p + p ≤ (z - 2) * p ∧ (z - 2) * p ≤ 352 := by
  obtain ⟨g1, g2, g3, g4⟩ := insB_iff.1 h
  refine ⟨Int.mul_nonneg h0 (by omega), ?_, ?_⟩
  · have : (zone + 1) * p ≤ (z - 2) * p := Int.mul_le_mul_of_nonneg_right (by omega) (by omega)
    rw [Int.add_mul] at this
    omega
  · have h5 : (z - 2) * p ≤ 22 * p := Int.mul_le_mul_of_nonneg_right (by omega) (by omega)
    omega
theorem last_bd {z p : Int} (h : insB z p = true) : 36 ≤ lastI z p ∧ lastI z p ≤ 352 := by
  obtain ⟨g1, g2, g3, g4⟩ := insB_iff.1 h
  unfold lastI
  rcases zp_cases g1 (by omega) with e | e | e | e | e | e | e | e | e | e | e | e | e | e | e <;> subst e <;> omega
theorem ofI_bd {z p : Int} (h : insB z p = true) (zone page : Int) : 0 ≤ ofI z p zone page ∧ ofI z p zone page ≤ 352 := by
  unfold ofI
  split
  · omega
  · have := mul_bd (zone := zone) h (by omega) (by omega)
    omega
theorem ofI_in {z p zone page : Int} (h0 : 0 ≤ zone) (h1 : zone < z - 2) (h2 : 0 ≤ page) (h3 : page < p) : ofI z p zone page = 1 + zone * p + page := by
  unfold ofI
  rw [if_neg (by omega)]
theorem ofI_last {z p : Int} (h : insB z p = true) : ofI z p (z - 2 - 1) (p - 1) = lastI z p := by
  obtain ⟨g1, g2, g3, g4⟩ := insB_iff.1 h
  rw [ofI_in (by omega) (by omega) (by omega) (by omega)]
  unfold lastI
  rw [Int.sub_mul]
  omega
theorem atI_in {z p zone page : Int} (h : insB z p = true) (h0 : 0 ≤ zone) (h1 : zone < z - 2) (h2 : 0 ≤ page) (h3 : page < p) : atI z p (1 + zone * p + page) = (zone, page, true) := by
  have hm := mul_bd h h0 h1
  have hp : 0 < p := by omega
  unfold atI lastI
  rw [if_neg (by omega)]
  have e : 1 + zone * p + page - 1 = page + zone * p := by omega
  rw [e, Int.add_mul_ediv_right _ _ (by omega), Int.add_mul_emod_self_right, Int.ediv_eq_zero_of_lt h2 h3, Int.emod_eq_of_lt h2 h3]
  simp
/-- The page of an address is a page of the log, and its address is that. -/
theorem atI_page {z p a : Int} (h : insB z p = true) (h0 : 0 < a) (h1 : a ≤ lastI z p) :
    0 ≤ (a - 1) / p ∧ (a - 1) / p < z - 2 ∧ 0 ≤ (a - 1) % p ∧ (a - 1) % p < p ∧ 1 + (a - 1) / p * p + (a - 1) % p = a := by
  obtain ⟨g1, g2, g3, g4⟩ := insB_iff.1 h
  refine ⟨Int.ediv_nonneg (by omega) (by omega), ?_, Int.emod_nonneg _ (by omega), Int.emod_lt_of_pos _ (by omega), ?_⟩
  · unfold lastI at h1
    exact Int.ediv_lt_of_lt_mul (by omega) (by omega)
  · have := Int.mul_ediv_add_emod (a - 1) p
    rw [Int.mul_comm] at this
    omega
end Go.Proofs.YthmpimjmajoimaaGreatDoor
namespace Go.Proofs.YthmpimjmajoimaaGreatDoor

/-- The bytes of numbers. -/
def flatM (ns : List Int) : List Int := ns.flatMap four
theorem flatM_len (ns : List Int) : (flatM ns).length = 4 * ns.length := by
  induction ns with
  | nil => rfl
  | cons n ns ih =>
    have : flatM (n :: ns) = four n ++ flatM ns := rfl
    rw [this, List.length_append, ih, four_len, List.length_cons]
    omega
/-- How many blocks a checkpoint of so many blocks has. -/
def manyC (b : Int) : Int := (4 * (7 + tab b) + 15) / 16
def rightC (z p b : Int) (n : Nat) : Bool := rightB z p b && decide ((n : Int) = tab b)
/-- A checkpoint's bytes ahead of the sum; all of them, with 0 behind. -/
def numsC (nu se sq z p b : Int) (dir : List Int) : List Int := nu :: se :: sq :: z :: p :: b :: dir
def bodyC (nu se sq z p b : Int) (dir : List Int) : List Int := flatM (numsC nu se sq z p b dir)
def padB (xs : List Int) : List Int := xs ++ List.replicate ((16 - xs.length % 16) % 16) 0
def encC (nu se sq z p b : Int) (dir : List Int) : List Int := padB (bodyC nu se sq z p b dir ++ four (sumN (bodyC nu se sq z p b dir)))
/-- Sixteen by one. -/
def chunks : Nat → List Int → List (List Int)
  | 0, _ => []
  | k + 1, xs => xs.take 16 :: chunks k (xs.drop 16)
def blocksC (nu se sq z p b : Int) (dir : List Int) : List (List Int) := chunks ((encC nu se sq z p b dir).length / 16) (encC nu se sq z p b dir)
theorem bodyC_len (nu se sq z p b : Int) (dir : List Int) : (bodyC nu se sq z p b dir).length = 24 + 4 * dir.length := by
  unfold bodyC
  rw [flatM_len]
  simp [numsC]
  omega
theorem padB_len (xs : List Int) : (padB xs).length % 16 = 0 ∧ (padB xs).length = (xs.length + 15) / 16 * 16 := by
  simp [padB]
  omega
theorem chunks_len (k : Nat) (xs : List Int) : (chunks k xs).length = k := by
  induction k generalizing xs with
  | zero => rfl
  | succ k ih => simp [chunks, ih]
theorem chunks_get {k : Nat} {xs : List Int} {i : Nat} (h : i < k) : (chunks k xs)[i]'(by rw [chunks_len]; exact h) = (xs.drop (16 * i)).take 16 := by
  induction k generalizing xs i with
  | zero => omega
  | succ k ih =>
    cases i with
    | zero => simp [chunks]
    | succ i =>
      have := ih (xs := xs.drop 16) (i := i) (by omega)
      simp only [chunks, List.getElem_cons_succ]
      rw [this, List.drop_drop]
      congr 2
      omega
theorem chunks_flat {k : Nat} {xs : List Int} (h : xs.length = 16 * k) : (chunks k xs).flatten = xs := by
  induction k generalizing xs with
  | zero =>
    have : xs = [] := List.eq_nil_of_length_eq_zero (by omega)
    rw [this]; rfl
  | succ k ih =>
    simp only [chunks, List.flatten_cons]
    rw [ih (by simp; omega), List.take_append_drop]
theorem chunks_of {l : List (List Int)} (h : ∀ b ∈ l, b.length = 16) : chunks l.length l.flatten = l := by
  induction l with
  | nil => rfl
  | cons a l ih =>
    have ha := h a (by simp)
    simp only [List.length_cons, chunks, List.flatten_cons]
    rw [List.take_append_of_le_length (by omega), List.take_of_length_le (by omega), List.drop_append_of_le_length (by omega), List.drop_of_length_le (by omega), List.nil_append, ih (fun b hb => h b (by simp [hb]))]

/-- What blocks are of: the geometry's numbers, an error's code, the numbers. -/
def numAt (all : List Int) (i : Nat) : Int := bk all (4 * i)
def readGE (l : List (List Int)) : Int :=
  if (decide (2 ≤ l.length) && l.all fun b => decide (b.length = 16)) = false then 3
  else if rightB (numAt l.flatten 3) (numAt l.flatten 4) (numAt l.flatten 5) = false then 2
  else if (l.length : Int) ≠ manyC (numAt l.flatten 5) then 3
  else if sumN (l.flatten.take (24 + 4 * (tab (numAt l.flatten 5)).toNat)) ≠ numAt l.flatten (6 + (tab (numAt l.flatten 5)).toNat) then 4
  else if ((l.flatten.drop (28 + 4 * (tab (numAt l.flatten 5)).toNat)).all fun x => decide (x = 0)) = false then 2 else 0
def readDir (l : List (List Int)) : List Int := (List.range (tab (numAt l.flatten 5)).toNat).map fun i => numAt l.flatten (6 + i)
end Go.Proofs.YthmpimjmajoimaaGreatDoor
