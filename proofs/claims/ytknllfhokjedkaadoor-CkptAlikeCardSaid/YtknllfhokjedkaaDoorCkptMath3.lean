/-
  Plain mathematics of checkpoints, on: there and back; changed bytes; alike.
-/
import Derived.Test.YtknllfhokjedkaaDoorCkptMath2
namespace Go.Proofs.YtknllfhokjedkaaDoor

section
variable {nu se sq z p b : Int} {dir : List Int}
theorem right_parts {n : Nat} (h : rightC z p b n = true) : rightB z p b = true ∧ (n : Int) = tab b := by
  unfold rightC at h
  simpa using h
theorem blocksC_len (h : rightC z p b dir.length = true) : ((blocksC nu se sq z p b dir).length : Int) = manyC b := by
  have ht := (right_parts h).2
  unfold blocksC manyC
  rw [chunks_len, encC_len rfl]
  omega
theorem blocksC_flat : (blocksC nu se sq z p b dir).flatten = encC nu se sq z p b dir := by
  unfold blocksC
  exact chunks_flat (by rw [encC_len rfl]; omega)
theorem chunks_16 {k : Nat} {xs : List Int} (h : xs.length = 16 * k) : ∀ x ∈ chunks k xs, x.length = 16 := by
  induction k generalizing xs with
  | zero => intro x hx; simp [chunks] at hx
  | succ k ih =>
    intro x hx
    simp only [chunks, List.mem_cons] at hx
    rcases hx with rfl | hx
    · simp; omega
    · exact ih (xs := xs.drop 16) (by simp; omega) x hx
theorem blocksC_16 : ∀ x ∈ blocksC nu se sq z p b dir, x.length = 16 := by
  unfold blocksC
  exact chunks_16 (by rw [encC_len rfl]; omega)
theorem blocksC_byt : ∀ x ∈ blocksC nu se sq z p b dir, Byt x := by
  intro x hx y hy
  have h := byt_enc (nu := nu) (se := se) (sq := sq) (z := z) (p := p) (b := b) (dir := dir)
  rw [← blocksC_flat] at h
  exact h y (List.mem_flatten.2 ⟨x, hx, hy⟩)
theorem nums_words (h : rightC z p b dir.length = true) (hw : Words4 (nu :: se :: sq :: dir)) : Words4 (numsC nu se sq z p b dir) := by
  have hb := rightB_bd (right_parts h).1
  intro x hx
  unfold numsC at hx
  simp only [List.mem_cons] at hx
  rcases hx with rfl | rfl | rfl | rfl | rfl | rfl | hx
  · exact hw _ (by simp)
  · exact hw _ (by simp)
  · exact hw _ (by simp)
  · exact ⟨by omega, by omega⟩
  · exact ⟨by omega, by omega⟩
  · exact ⟨by omega, by omega⟩
  · exact hw _ (by simp [hx])

/-- What the blocks of a checkpoint that may be say. -/
theorem blocksC_num (h : rightC z p b dir.length = true) (hw : Words4 (nu :: se :: sq :: dir)) (i : Nat) (hi : i < 6 + dir.length) : numAt (blocksC nu se sq z p b dir).flatten i = (numsC nu se sq z p b dir)[i]'(by simp [numsC]; omega) := by
  rw [blocksC_flat]
  exact encC_num (nums_words h hw) i hi
theorem read_blocks (h : rightC z p b dir.length = true) (hw : Words4 (nu :: se :: sq :: dir)) : readGE (blocksC nu se sq z p b dir) = 0 := by
  have hp := right_parts h
  have hb := rightB_bd hp.1
  have n3 := blocksC_num h hw 3 (by omega)
  have n4 := blocksC_num h hw 4 (by omega)
  have n5 := blocksC_num h hw 5 (by omega)
  simp only [numsC, List.getElem_cons_succ, List.getElem_cons_zero] at n3 n4 n5
  have hl := blocksC_len (nu := nu) (se := se) (sq := sq) h
  have hT : (tab b).toNat = dir.length := by omega
  unfold readGE
  have hall : ((blocksC nu se sq z p b dir).all fun x => decide (x.length = 16)) = true := List.all_eq_true.2 (fun x hx => by simpa using blocksC_16 x hx)
  have h2 : 2 ≤ (blocksC nu se sq z p b dir).length := by
    unfold manyC at hl
    omega
  rw [if_neg (by rw [hall]; simp [h2]), n3, n4, n5, if_neg (by rw [hp.1]; decide), if_neg (by omega), hT, blocksC_flat, encC_take rfl, encC_sum (nums_words h hw), if_neg (by simp), encC_drop rfl, if_neg (by simp)]
theorem read_dir (h : rightC z p b dir.length = true) (hw : Words4 (nu :: se :: sq :: dir)) : readDir (blocksC nu se sq z p b dir) = dir := by
  have hp := right_parts h
  have n5 := blocksC_num h hw 5 (by omega)
  simp only [numsC, List.getElem_cons_succ, List.getElem_cons_zero] at n5
  have hT : (tab b).toNat = dir.length := by omega
  unfold readDir
  rw [n5, hT]
  refine List.ext_getElem (by simp) fun i h1 h2 => ?_
  rw [List.getElem_map, List.getElem_range]
  have := blocksC_num h hw (6 + i) (by omega)
  rw [this]
  simp only [numsC, Nat.add_comm 6 i, List.getElem_cons_succ]
end

/-! ### what reading says of the blocks -/
/-- Everything that reading looks at. -/
theorem read_parts {l : List (List Int)} (h : readGE l = 0) : (2 ≤ l.length ∧ (∀ x ∈ l, x.length = 16)) ∧ rightB (numAt l.flatten 3) (numAt l.flatten 4) (numAt l.flatten 5) = true ∧ (l.length : Int) = manyC (numAt l.flatten 5) ∧
    sumN (l.flatten.take (24 + 4 * (tab (numAt l.flatten 5)).toNat)) = numAt l.flatten (6 + (tab (numAt l.flatten 5)).toNat) ∧ (∀ x ∈ l.flatten.drop (28 + 4 * (tab (numAt l.flatten 5)).toNat), x = 0) := by
  unfold readGE at h
  split at h
  · omega
  · rename_i h1
    split at h
    · omega
    · rename_i h2
      split at h
      · omega
      · rename_i h3
        split at h
        · omega
        · rename_i h4
          split at h
          · omega
          · rename_i h5
            simp only [Bool.not_eq_false, Bool.and_eq_true, decide_eq_true_eq, List.all_eq_true] at h1 h2 h5
            exact ⟨h1, h2, by omega, by omega, h5⟩
theorem flat_len16 {l : List (List Int)} (h : ∀ x ∈ l, x.length = 16) : l.flatten.length = 16 * l.length := by
  induction l with
  | nil => rfl
  | cons a l ih =>
    rw [List.flatten_cons, List.length_append, h a (by simp), ih (fun x hx => h x (by simp [hx])), List.length_cons]
    omega
theorem byt_flat16 {l : List (List Int)} (h : ∀ x ∈ l, Byt x) : Byt l.flatten := by
  intro x hx
  obtain ⟨y, hy, hxy⟩ := List.mem_flatten.1 hx
  exact h y hy x hxy
theorem zeros_of {xs : List Int} (h : ∀ x ∈ xs, x = 0) : xs = List.replicate xs.length 0 := List.eq_replicate_iff.2 ⟨rfl, h⟩

/-- Blocks come back from their checkpoints. -/
theorem blocks_read {l : List (List Int)} (hx : ∀ x ∈ l, Byt x) (h : readGE l = 0) :
    rightC (numAt l.flatten 3) (numAt l.flatten 4) (numAt l.flatten 5) (readDir l).length = true ∧ blocksC (numAt l.flatten 0) (numAt l.flatten 1) (numAt l.flatten 2) (numAt l.flatten 3) (numAt l.flatten 4) (numAt l.flatten 5) (readDir l) = l ∧
    Words4 (numAt l.flatten 0 :: numAt l.flatten 1 :: numAt l.flatten 2 :: readDir l) := by
  obtain ⟨⟨h2, h16⟩, hr, hm, hs, hz⟩ := read_parts h
  have hb := rightB_bd hr
  have hlen := flat_len16 h16
  have hbyt := byt_flat16 hx
  have hdl : (readDir l).length = (tab (numAt l.flatten 5)).toNat := by simp [readDir]
  generalize hA : l.flatten = A at *
  obtain ⟨T, hT⟩ : ∃ T : Nat, tab (numAt A 5) = (T : Int) := ⟨(tab (numAt A 5)).toNat, by omega⟩
  have hTn : (tab (numAt A 5)).toNat = T := by omega
  rw [hTn] at hs hz hdl
  have hN : 28 + 4 * T ≤ A.length ∧ A.length = 16 * ((43 + 4 * T) / 16) := by
    unfold manyC at hm
    omega
  have hword : ∀ i, Word4 (numAt A i) := fun i => by
    have g : ∀ j, 0 ≤ A.getD j 0 ∧ A.getD j 0 ≤ 255 := fun j => by
      rw [List.getD_eq_getElem?_getD]
      by_cases h : j < A.length
      · rw [List.getElem?_eq_getElem h]; exact hbyt.get j h
      · rw [List.getElem?_eq_none (by omega)]; simp
    exact back4_bd (g _).1 (g _).2 (g _).1 (g _).2 (g _).1 (g _).2 (g _).1 (g _).2
  have hnums : numsC (numAt A 0) (numAt A 1) (numAt A 2) (numAt A 3) (numAt A 4) (numAt A 5) (readDir l) = (List.range (6 + T)).map (numAt A) := by
    have e : readDir l = (List.range T).map fun i => numAt A (6 + i) := by unfold readDir; rw [hA, hTn]
    rw [e, Nat.add_comm 6 T, Nat.add_comm T 6, List.range_add, List.map_append, List.map_map]
    rfl
  have hbody : bodyC (numAt A 0) (numAt A 1) (numAt A 2) (numAt A 3) (numAt A 4) (numAt A 5) (readDir l) = A.take (24 + 4 * T) := by
    unfold bodyC
    rw [hnums, flat_nums hbyt (6 + T) (by omega)]
    congr 1
    omega
  have henc : encC (numAt A 0) (numAt A 1) (numAt A 2) (numAt A 3) (numAt A 4) (numAt A 5) (readDir l) = A := by
    rw [encC_is hdl, hbody, hs, hnums]
    have e : List.map (numAt A) (List.range (6 + T)) ++ [numAt A (6 + T)] = (List.range (7 + T)).map (numAt A) := by
      rw [show 7 + T = 6 + T + 1 by omega, List.range_succ, List.map_append]
      rfl
    rw [e, flat_nums hbyt (7 + T) (by omega), show 4 * (7 + T) = 28 + 4 * T by omega]
    have hzz := zeros_of hz
    rw [List.length_drop] at hzz
    rw [show (16 - (28 + 4 * T) % 16) % 16 = A.length - (28 + 4 * T) by omega, ← hzz, List.take_append_drop]
  refine ⟨?_, ?_, ?_⟩
  · unfold rightC
    rw [hr, hdl]
    simp
    omega
  · unfold blocksC
    rw [henc, hlen, ← hA, Nat.mul_div_cancel_left _ (by decide)]
    exact chunks_of h16
  · intro x hx
    simp only [List.mem_cons] at hx
    rcases hx with rfl | rfl | rfl | hx
    · exact hword 0
    · exact hword 1
    · exact hword 2
    · unfold readDir at hx
      rw [hA] at hx
      obtain ⟨i, _, rfl⟩ := List.mem_map.1 hx
      exact hword _
end Go.Proofs.YtknllfhokjedkaaDoor
