/-
  Plain mathematics of checkpoints: their numbers, their bytes, their blocks; what blocks are of.
-/
import Derived.Test.YtknllfhokjedkaaDoorHeadMath
import Derived.Test.YtknllfhokjedkaaDoorGeoMath
namespace Go.Proofs.YtknllfhokjedkaaDoor

/-- The bytes of numbers. -/
def flatM (ns : List Int) : List Int := ns.flatMap four
theorem flatM_len (ns : List Int) : (flatM ns).length = 4 * ns.length := by
  induction ns with
  | nil => rfl
  | cons n ns ih =>
    have : flatM (n :: ns) = four n ++ flatM ns := rfl
    rw [this, List.length_append, ih, four_len, List.length_cons]
    omega
/-- How many blocks a checkpoint of so many blocks has. -/
def manyC (b : Int) : Int := (4 * (7 + tab b) + 15) / 16
def rightC (z p b : Int) (n : Nat) : Bool := rightB z p b && decide ((n : Int) = tab b)
/-- A checkpoint's bytes ahead of the sum; all of them, with 0 behind. -/
def numsC (nu se sq z p b : Int) (dir : List Int) : List Int := nu :: se :: sq :: z :: p :: b :: dir
def bodyC (nu se sq z p b : Int) (dir : List Int) : List Int := flatM (numsC nu se sq z p b dir)
def padB (xs : List Int) : List Int := xs ++ List.replicate ((16 - xs.length % 16) % 16) 0
def encC (nu se sq z p b : Int) (dir : List Int) : List Int := padB (bodyC nu se sq z p b dir ++ four (sumN (bodyC nu se sq z p b dir)))
/-- Sixteen by one. -/
def chunks : Nat → List Int → List (List Int)
  | 0, _ => []
  | k + 1, xs => xs.take 16 :: chunks k (xs.drop 16)
def blocksC (nu se sq z p b : Int) (dir : List Int) : List (List Int) := chunks ((encC nu se sq z p b dir).length / 16) (encC nu se sq z p b dir)
theorem bodyC_len (nu se sq z p b : Int) (dir : List Int) : (bodyC nu se sq z p b dir).length = 24 + 4 * dir.length := by
  unfold bodyC
  rw [flatM_len]
  simp [numsC]
  omega
theorem padB_len (xs : List Int) : (padB xs).length % 16 = 0 ∧ (padB xs).length = (xs.length + 15) / 16 * 16 := by
  simp [padB]
  omega
theorem chunks_len (k : Nat) (xs : List Int) : (chunks k xs).length = k := by
  induction k generalizing xs with
  | zero => rfl
  | succ k ih => simp [chunks, ih]
theorem chunks_get {k : Nat} {xs : List Int} {i : Nat} (h : i < k) : (chunks k xs)[i]'(by rw [chunks_len]; exact h) = (xs.drop (16 * i)).take 16 := by
  induction k generalizing xs i with
  | zero => omega
  | succ k ih =>
    cases i with
    | zero => simp [chunks]
    | succ i =>
      have := ih (xs := xs.drop 16) (i := i) (by omega)
      simp only [chunks, List.getElem_cons_succ]
      rw [this, List.drop_drop]
      congr 2
      omega
theorem chunks_flat {k : Nat} {xs : List Int} (h : xs.length = 16 * k) : (chunks k xs).flatten = xs := by
  induction k generalizing xs with
  | zero =>
    have : xs = [] := List.eq_nil_of_length_eq_zero (by omega)
    rw [this]; rfl
  | succ k ih =>
    simp only [chunks, List.flatten_cons]
    rw [ih (by simp; omega), List.take_append_drop]
theorem chunks_of {l : List (List Int)} (h : ∀ b ∈ l, b.length = 16) : chunks l.length l.flatten = l := by
  induction l with
  | nil => rfl
  | cons a l ih =>
    have ha := h a (by simp)
    simp only [List.length_cons, chunks, List.flatten_cons]
    rw [List.take_append_of_le_length (by omega), List.take_of_length_le (by omega), List.drop_append_of_le_length (by omega), List.drop_of_length_le (by omega), List.nil_append, ih (fun b hb => h b (by simp [hb]))]

/-- What blocks are of: the geometry's numbers, an error's code, the numbers. -/
def numAt (all : List Int) (i : Nat) : Int := bk all (4 * i)
def readGE (l : List (List Int)) : Int :=
  if (decide (2 ≤ l.length) && l.all fun b => decide (b.length = 16)) = false then 3
  else if rightB (numAt l.flatten 3) (numAt l.flatten 4) (numAt l.flatten 5) = false then 2
  else if (l.length : Int) ≠ manyC (numAt l.flatten 5) then 3
  else if sumN (l.flatten.take (24 + 4 * (tab (numAt l.flatten 5)).toNat)) ≠ numAt l.flatten (6 + (tab (numAt l.flatten 5)).toNat) then 4
  else if ((l.flatten.drop (28 + 4 * (tab (numAt l.flatten 5)).toNat)).all fun x => decide (x = 0)) = false then 2 else 0
def readDir (l : List (List Int)) : List Int := (List.range (tab (numAt l.flatten 5)).toNat).map fun i => numAt l.flatten (6 + i)
end Go.Proofs.YtknllfhokjedkaaDoor
