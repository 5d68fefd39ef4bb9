/-
  Plain mathematics of checkpoints: they come back from their blocks, and blocks from their checkpoints; of blocks of which one byte is another one nothing comes back.
-/
import Derived.Test.YtknllfhokjedkaaDoorCkptMath
namespace Go.Proofs.YtknllfhokjedkaaDoor

def Word4 (n : Int) : Prop := 0 ≤ n ∧ n ≤ 4294967295
def Words4 (ns : List Int) : Prop := ∀ n ∈ ns, Word4 n
theorem flatM_cons (n : Int) (ns : List Int) : flatM (n :: ns) = (n % 256) :: (n / 256 % 256) :: (n / 65536 % 256) :: (n / 16777216 % 256) :: flatM ns := rfl
theorem flatM_app (xs ys : List Int) : flatM (xs ++ ys) = flatM xs ++ flatM ys := by simp [flatM]
theorem byt_flatM' (ns : List Int) : Byt (flatM ns) := by
  induction ns with
  | nil => exact Byt.nil
  | cons n ns ih => exact (byt_four n).app ih
theorem numAt_zero (n : Int) (ns ys : List Int) (h : Word4 n) : numAt (flatM (n :: ns) ++ ys) 0 = n := back_four h.1 h.2
theorem numAt_succ (n : Int) (ns ys : List Int) (i : Nat) : numAt (flatM (n :: ns) ++ ys) (i + 1) = numAt (flatM ns ++ ys) i := by
  unfold numAt bk
  rw [flatM_cons]
  rw [show 4 * (i + 1) = 4 * i + 1 + 1 + 1 + 1 by omega]
  simp only [List.cons_append, List.getD_cons_succ]
theorem numAt_flat {ns : List Int} (h : Words4 ns) (ys : List Int) (i : Nat) (hi : i < ns.length) : numAt (flatM ns ++ ys) i = ns[i] := by
  induction ns generalizing i with
  | nil => simp at hi
  | cons n ns ih =>
    cases i with
    | zero => exact numAt_zero n ns ys (h n (by simp))
    | succ i =>
      rw [numAt_succ]
      simpa using ih (fun x hx => h x (by simp [hx])) i (by simpa using hi)
/-- Bytes are the bytes of their numbers. -/
theorem flat_nums {all : List Int} (hb : Byt all) : ∀ (m : Nat), 4 * m ≤ all.length → flatM ((List.range m).map (numAt all)) = all.take (4 * m) := by
  intro m
  induction m with
  | zero => intro _; rfl
  | succ m ih =>
    intro h
    have g : ∀ k, 0 ≤ all.getD k 0 ∧ all.getD k 0 ≤ 255 := fun j => by
      rw [List.getD_eq_getElem?_getD]
      by_cases h : j < all.length
      · rw [List.getElem?_eq_getElem h]; exact hb.get j h
      · rw [List.getElem?_eq_none (by omega)]; simp
    rw [List.range_succ, List.map_append, flatM_app, ih (by omega)]
    have e : flatM (List.map (numAt all) [m]) = four (bk all (4 * m)) := by simp [flatM, numAt]
    rw [e]
    unfold bk
    rw [four_back (g _).1 (g _).2 (g _).1 (g _).2 (g _).1 (g _).2 (g _).1 (g _).2]
    have ge : ∀ k (h : k < all.length), all.getD k 0 = all[k] := fun k h => by simp [List.getD_eq_getElem?_getD, h]
    rw [ge _ (by omega), ge _ (by omega), ge _ (by omega), ge _ (by omega)]
    rw [show 4 * (m + 1) = 4 * m + 1 + 1 + 1 + 1 by omega, List.take_succ_eq_append_getElem (by omega), List.take_succ_eq_append_getElem (by omega), List.take_succ_eq_append_getElem (by omega), List.take_succ_eq_append_getElem (by omega)]
    simp only [List.append_assoc, List.cons_append, List.nil_append]

/-- What a geometry that may be is bounded by. -/
theorem rightB_bd {z p b : Int} (h : rightB z p b = true) : (11 ≤ z ∧ z ≤ 24) ∧ (4 ≤ p ∧ p ≤ 16) ∧ (1 ≤ b ∧ b ≤ 64) ∧ 1 ≤ tab b ∧ tab b ≤ 16 ∧ tab b ≤ p := by
  unfold rightB at h
  simp only [decide_eq_true_eq] at h
  have h3 := (bnd_bd z p).2
  have h4 := bnd_room (z := z) (p := p) (by omega)
  have h5 := tab_le (n := b) (by omega) (by omega)
  have h6 := insB_iff.1 h4.1
  have h7 : tab b ≤ tab (bnd z p) := by
    rw [tab_pos (by omega), tab_pos (by omega)]
    omega
  omega
/-- The sum of a few bytes is not 0. -/
theorem sumN_pos {xs : List Int} (h : Byt xs) (hl : xs.length ≤ 200) : 1 ≤ sumN xs := by
  have h1 := sS_bd h
  have h2 : aL 1 xs = 1 + sS xs := by
    unfold aL rL
    omega
  have h3 := aH_bd 1 0 xs
  unfold sumN wN
  omega

section
variable {nu se sq z p b : Int} {dir : List Int} {T : Nat}

theorem encC_is (hT : dir.length = T) : encC nu se sq z p b dir = flatM (numsC nu se sq z p b dir ++ [sumN (bodyC nu se sq z p b dir)]) ++ List.replicate ((16 - (28 + 4 * T) % 16) % 16) 0 := by
  unfold encC padB
  rw [flatM_app]
  have e : flatM [sumN (bodyC nu se sq z p b dir)] = four (sumN (bodyC nu se sq z p b dir)) := rfl
  rw [e]
  have hl : (bodyC nu se sq z p b dir ++ four (sumN (bodyC nu se sq z p b dir))).length = 28 + 4 * T := by
    rw [List.length_append, bodyC_len, four_len, hT]
    omega
  rw [hl]
  rfl
theorem encC_len (hT : dir.length = T) : (encC nu se sq z p b dir).length = 16 * ((43 + 4 * T) / 16) := by
  rw [encC_is hT, List.length_append, flatM_len, List.length_append, List.length_replicate]
  simp [numsC, hT]
  omega
theorem encC_take (hT : dir.length = T) : (encC nu se sq z p b dir).take (24 + 4 * T) = bodyC nu se sq z p b dir := by
  unfold encC padB
  rw [List.append_assoc, List.take_append_of_le_length (by rw [bodyC_len, hT]; omega), List.take_of_length_le (by rw [bodyC_len, hT]; omega)]
theorem encC_drop (hT : dir.length = T) : (encC nu se sq z p b dir).drop (28 + 4 * T) = List.replicate ((16 - (28 + 4 * T) % 16) % 16) 0 := by
  rw [encC_is hT, List.drop_append_of_le_length (by rw [flatM_len, List.length_append]; simp [numsC, hT]; omega), List.drop_of_length_le (by rw [flatM_len, List.length_append]; simp [numsC, hT]; omega), List.nil_append]
theorem byt_enc : Byt (encC nu se sq z p b dir) := by
  rw [encC_is rfl]
  exact (byt_flatM' _).app (byt_zeros _)
theorem sum_word (xs : List Int) : Word4 (sumN xs) := by
  have := sumN_bd xs
  exact ⟨this.1, by omega⟩
theorem encC_num (hw : Words4 (numsC nu se sq z p b dir)) (i : Nat) (hi : i < 6 + dir.length) : numAt (encC nu se sq z p b dir) i = (numsC nu se sq z p b dir)[i]'(by simp [numsC]; omega) := by
  rw [encC_is rfl, numAt_flat (fun x hx => by
    rcases List.mem_append.1 hx with hx | hx
    · exact hw x hx
    · obtain rfl := List.mem_singleton.1 hx
      exact sum_word _) _ i (by simp [numsC]; omega)]
  rw [List.getElem_append_left (by simp [numsC]; omega)]
theorem encC_sum (hw : Words4 (numsC nu se sq z p b dir)) : numAt (encC nu se sq z p b dir) (6 + dir.length) = sumN (bodyC nu se sq z p b dir) := by
  rw [encC_is rfl, numAt_flat (fun x hx => by
    rcases List.mem_append.1 hx with hx | hx
    · exact hw x hx
    · obtain rfl := List.mem_singleton.1 hx
      exact sum_word _) _ (6 + dir.length) (by simp [numsC]; omega)]
  rw [List.getElem_append_right (by simp [numsC]; omega)]
  simp [numsC]
end
end Go.Proofs.YtknllfhokjedkaaDoor
