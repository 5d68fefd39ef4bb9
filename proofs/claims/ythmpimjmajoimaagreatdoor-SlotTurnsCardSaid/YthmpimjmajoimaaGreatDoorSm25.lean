/-
  Plain mathematics of checkpoints: they come back from their blocks, and blocks from their checkpoints; of blocks of which one byte is another one nothing comes back.
  Plain mathematics of checkpoints, on: there and back; changed bytes; alike.
  Plain mathematics of checkpoints, on: of blocks of which one byte is another one nothing comes back, nor of one block less; checkpoints are alike just if their blocks are.
-/
import Derived.Test.YthmpimjmajoimaaGreatDoorSm18
namespace Go.Proofs.YthmpimjmajoimaaGreatDoor

def Word4 (n : Int) : Prop := 0 ≤ n ∧ n ≤ 4294967295
def Words4 (ns : List Int) : Prop := ∀ n ∈ ns, Word4 n
theorem flatM_cons (n : Int) (ns : List Int) : flatM (n :: ns) = (n % 256) :: (n / 256 % 256) :: (n / 65536 % 256) :: (n / 16777216 % 256) :: flatM ns := rfl
theorem flatM_app (xs ys : List Int) : flatM (xs ++ ys) = flatM xs ++ flatM ys := by simp [flatM]
theorem byt_flatM' (ns : List Int) : Byt (flatM ns) := by
  induction ns with
  | nil => exact Byt.nil
  | cons n ns ih => exact (byt_four n).app ih
theorem numAt_zero (n : Int) (ns ys : List Int) (h : Word4 n) : numAt (flatM (n :: ns) ++ ys) 0 = n := back_four h.1 h.2
theorem numAt_succ (n : Int) (ns ys : List Int) (i : Nat) : numAt (flatM (n :: ns) ++ ys) (i + 1) = numAt (flatM ns ++ ys) i := by
  unfold numAt bk
  rw [flatM_cons]
  rw [show 4 * (i + 1) = 4 * i + 1 + 1 + 1 + 1 by omega]
  simp only [List.cons_append, List.getD_cons_succ]
theorem numAt_flat {ns : List Int} (h : Words4 ns) (ys : List Int) (i : Nat) (hi : i < ns.length) : numAt (flatM ns ++ ys) i = ns[i] := by
  induction ns generalizing i with
  | nil => simp at hi
  | cons n ns ih =>
    cases i with
    | zero => exact numAt_zero n ns ys (h n (by simp))
    | succ i =>
      rw [numAt_succ]
      simpa using ih (fun x hx => h x (by simp [hx])) i (by simpa using hi)
/-- Bytes are the bytes of their numbers. -/
theorem flat_nums {all : List Int} (hb : Byt all) : ∀ (m : Nat), 4 * m ≤ all.length → flatM ((List.range m).map (numAt all)) = all.take (4 * m) := by
  intro m
  induction m with
  | zero => intro _; rfl
  | succ m ih =>
    intro h
    have g : ∀ k, 0 ≤ all.getD k 0 ∧ all.getD k 0 ≤ 255 := fun j => by
      rw [List.getD_eq_getElem?_getD]
      by_cases h : j < all.length
      · rw [List.getElem?_eq_getElem h]; exact hb.get j h
      · rw [List.getElem?_eq_none (by omega)]; simp
    rw [List.range_succ, List.map_append, flatM_app, ih (by omega)]
    have e : flatM (List.map (numAt all) [m]) = four (bk all (4 * m)) := by simp [flatM, numAt]
    rw [e]
    unfold bk
    rw [four_back (g _).1 (g _).2 (g _).1 (g _).2 (g _).1 (g _).2 (g _).1 (g _).2]
    have ge : ∀ k (h : k < all.length), all.getD k 0 = all[k] := fun k h => by simp [List.getD_eq_getElem?_getD, h]
    rw [ge _ (by omega), ge _ (by omega), ge _ (by omega), ge _ (by omega)]
    rw [show 4 * (m + 1) = 4 * m + 1 + 1 + 1 + 1 by omega, List.take_succ_eq_append_getElem (by omega), List.take_succ_eq_append_getElem (by omega), List.take_succ_eq_append_getElem (by omega), List.take_succ_eq_append_getElem (by omega)]
    simp only [List.append_assoc, List.cons_append, List.nil_append]

/-- What a geometry that may be is bounded by. -/
theorem rightB_bd {z p b : Int} (h : rightB z p b = true) : (11 ≤ z ∧ z ≤ 24) ∧ (4 ≤ p ∧ p ≤ 16) ∧ (1 ≤ b ∧ b ≤ 64) ∧ 1 ≤ tab b ∧ tab b ≤ 16 ∧ tab b ≤ p := by
  unfold rightB at h
  simp only [decide_eq_true_eq] at h
  have h3 := (bnd_bd z p).2
  have h4 := bnd_room (z := z) (p := p) (by omega)
  have h5 := tab_le (n := b) (by omega) (by omega)
  have h6 := insB_iff.1 h4.1
  have h7 : tab b ≤ tab (bnd z p) := by
    rw [tab_pos (by omega), tab_pos (by omega)]
    omega
  omega
/-- The sum of a few bytes is not 0. -/
theorem sumN_pos {xs : List Int} (h : Byt xs) (hl : xs.length ≤ 200) : 1 ≤ sumN xs := by
  have h1 := sS_bd h
  have h2 : aL 1 xs = 1 + sS xs := by
    unfold aL rL
    omega
  have h3 := aH_bd 1 0 xs
  unfold sumN wN
  omega

section
variable {nu se sq z p b : Int} {dir : List Int} {T : Nat}

theorem encC_is (hT : dir.length = T) : encC nu se sq z p b dir = flatM (numsC nu se sq z p b dir ++ [sumN (bodyC nu se sq z p b dir)]) ++ List.replicate ((16 - (28 + 4 * T) % 16) % 16) 0 := by
  unfold encC padB
  rw [flatM_app]
  have e : flatM [sumN (bodyC nu se sq z p b dir)] = four (sumN (bodyC nu se sq z p b dir)) := rfl
  rw [e]
  have hl : (bodyC nu se sq z p b dir ++ four (sumN (bodyC nu se sq z p b dir))).length = 28 + 4 * T := by
    rw [List.length_append, bodyC_len, four_len, hT]
    omega
  rw [hl]
  rfl
theorem encC_len (hT : dir.length = T) : (encC nu se sq z p b dir).length = 16 * ((43 + 4 * T) / 16) := by
  rw [encC_is hT, List.length_append, flatM_len, List.length_append, List.length_replicate]
  simp [numsC, hT]
  omega
theorem encC_take (hT : dir.length = T) : (encC nu se sq z p b dir).take (24 + 4 * T) = bodyC nu se sq z p b dir := by
  unfold encC padB
  rw [List.append_assoc, List.take_append_of_le_length (by rw [bodyC_len, hT]; omega), List.take_of_length_le (by rw [bodyC_len, hT]; omega)]
theorem encC_drop (hT : dir.length = T) : (encC nu se sq z p b dir).drop (28 + 4 * T) = List.replicate ((16 - (28 + 4 * T) % 16) % 16) 0 := by
  rw [encC_is hT, List.drop_append_of_le_length (by rw [flatM_len, List.length_append]; simp [numsC, hT]; omega), List.drop_of_length_le (by rw [flatM_len, List.length_append]; simp [numsC, hT]; omega), List.nil_append]
theorem byt_enc : Byt (encC nu se sq z p b dir) := by
  rw [encC_is rfl]
  exact (byt_flatM' _).app (byt_zeros _)
theorem sum_word (xs : List Int) : Word4 (sumN xs) := by
  have := sumN_bd xs
  exact ⟨this.1, by omega⟩
theorem encC_num (hw : Words4 (numsC nu se sq z p b dir)) (i : Nat) (hi : i < 6 + dir.length) : numAt (encC nu se sq z p b dir) i = (numsC nu se sq z p b dir)[i]'(by simp [numsC]; omega) := by
  rw [encC_is rfl, numAt_flat (fun x hx => by
    rcases List.mem_append.1 hx with hx | hx
    · exact hw x hx
    · obtain rfl := List.mem_singleton.1 hx
      exact sum_word _) _ i (by simp [numsC]; omega)]
  rw [List.getElem_append_left (by simp [numsC]; omega)]
theorem encC_sum (hw : Words4 (numsC nu se sq z p b dir)) : numAt (encC nu se sq z p b dir) (6 + dir.length) = sumN (bodyC nu se sq z p b dir) := by
  rw [encC_is rfl, numAt_flat (fun x hx => by
    rcases List.mem_append.1 hx with hx | hx
    · exact hw x hx
    · obtain rfl := List.mem_singleton.1 hx
      exact sum_word _) _ (6 + dir.length) (by simp [numsC]; omega)]
  rw [List.getElem_append_right (by simp [numsC]; omega)]
  simp [numsC]
end
end Go.Proofs.YthmpimjmajoimaaGreatDoor
namespace Go.Proofs.YthmpimjmajoimaaGreatDoor

section
variable {nu se sq z p b : Int} {dir : List Int}
theorem right_parts {n : Nat} (h : rightC z p b n = true) : rightB z p b = true ∧ (n : Int) = tab b := by
  unfold rightC at h
  simpa using h
theorem blocksC_len (h : rightC z p b dir.length = true) : ((blocksC nu se sq z p b dir).length : Int) = manyC b := by
  have ht := (right_parts h).2
  unfold blocksC manyC
  rw [chunks_len, encC_len rfl]
  omega
theorem blocksC_flat : (blocksC nu se sq z p b dir).flatten = encC nu se sq z p b dir := by
  unfold blocksC
  exact chunks_flat (by rw [encC_len rfl]; omega)
theorem chunks_16 {k : Nat} {xs : List Int} (h : xs.length = 16 * k) : ∀ x ∈ chunks k xs, x.length = 16 := by
  induction k generalizing xs with
  | zero => intro x hx; simp [chunks] at hx
  | succ k ih =>
    intro x hx
    simp only [chunks, List.mem_cons] at hx
    rcases hx with rfl | hx
    · simp; omega
    · exact ih (xs := xs.drop 16) (by simp; omega) x hx
theorem blocksC_16 : ∀ x ∈ blocksC nu se sq z p b dir, x.length = 16 := by
  unfold blocksC
  exact chunks_16 (by rw [encC_len rfl]; omega)
theorem blocksC_byt : ∀ x ∈ blocksC nu se sq z p b dir, Byt x := by
  intro x hx y hy
  have h := byt_enc (nu := nu) (se := se) (sq := sq) (z := z) (p := p) (b := b) (dir := dir)
  rw [← blocksC_flat] at h
  exact h y (List.mem_flatten.2 ⟨x, hx, hy⟩)
theorem nums_words (h : rightC z p b dir.length = true) (hw : Words4 (nu :: se :: sq :: dir)) : Words4 (numsC nu se sq z p b dir) := by
  have hb := rightB_bd (right_parts h).1
  intro x hx
  unfold numsC at hx
  simp only [List.mem_cons] at hx
  rcases hx with rfl | rfl | rfl | rfl | rfl | rfl | hx
  · exact hw _ (by simp)
  · exact hw _ (by simp)
  · exact hw _ (by simp)
  · exact ⟨by omega, by omega⟩
  · exact ⟨by omega, by omega⟩
  · exact ⟨by omega, by omega⟩
  · exact hw _ (by simp [hx])

/-- What the blocks of a checkpoint that may be say. -/
theorem blocksC_num (h : rightC z p b dir.length = true) (hw : Words4 (nu :: se :: sq :: dir)) (i : Nat) (hi : i < 6 + dir.length) : numAt (blocksC nu se sq z p b dir).flatten i = (numsC nu se sq z p b dir)[i]'(by simp [numsC]; omega) := by
  rw [blocksC_flat]
  exact encC_num (nums_words h hw) i hi
theorem read_blocks (h : rightC z p b dir.length = true) (hw : Words4 (nu :: se :: sq :: dir)) : readGE (blocksC nu se sq z p b dir) = 0 := by
  have hp := right_parts h
  have hb := rightB_bd hp.1
  have n3 := blocksC_num h hw 3 (by omega)
  have n4 := blocksC_num h hw 4 (by omega)
  have n5 := blocksC_num h hw 5 (by omega)
  simp only [numsC, List.getElem_cons_succ, List.getElem_cons_zero] at n3 n4 n5
  have hl := blocksC_len (nu := nu) (se := se) (sq := sq) h
  have hT : (tab b).toNat = dir.length := by omega
  unfold readGE
  have hall : ((blocksC nu se sq z p b dir).all fun x => decide (x.length = 16)) = true := List.all_eq_true.2 (fun x hx => by simpa using blocksC_16 x hx)
  have h2 : 2 ≤ (blocksC nu se sq z p b dir).length := by
    unfold manyC at hl
    omega
  rw [if_neg (by rw [hall]; simp [h2]), n3, n4, n5, if_neg (by rw [hp.1]; decide), if_neg (by omega), hT, blocksC_flat, encC_take rfl, encC_sum (nums_words h hw), if_neg (by simp), encC_drop rfl, if_neg (by simp)]
theorem read_dir (h : rightC z p b dir.length = true) (hw : Words4 (nu :: se :: sq :: dir)) : readDir (blocksC nu se sq z p b dir) = dir := by
  have hp := right_parts h
  have n5 := blocksC_num h hw 5 (by omega)
  simp only [numsC, List.getElem_cons_succ, List.getElem_cons_zero] at n5
  have hT : (tab b).toNat = dir.length := by omega
  unfold readDir
  rw [n5, hT]
  refine List.ext_getElem (by simp) fun i h1 h2 => ?_
  rw [List.getElem_map, List.getElem_range]
  have := blocksC_num h hw (6 + i) (by omega)
  rw [this]
  simp only [numsC, Nat.add_comm 6 i, List.getElem_cons_succ]
end

/-! ### what reading says of the blocks -/
/-- Everything that reading looks at. -/
theorem read_parts {l : List (List Int)} (h : readGE l = 0) : (2 ≤ l.length ∧ (∀ x ∈ l, x.length = 16)) ∧ rightB (numAt l.flatten 3) (numAt l.flatten 4) (numAt l.flatten 5) = true ∧ (l.length : Int) = manyC (numAt l.flatten 5) ∧
    sumN (l.flatten.take (24 + 4 * (tab (numAt l.flatten 5)).toNat)) = numAt l.flatten (6 + (tab (numAt l.flatten 5)).toNat) ∧ (∀ x ∈ l.flatten.drop (28 + 4 * (tab (numAt l.flatten 5)).toNat), x = 0) := by
  unfold readGE at h
  split at h
  · omega
  · rename_i h1
    split at h
    · omega
    · rename_i h2
      split at h
      · omega
      · rename_i h3
        split at h
        · omega
        · rename_i h4
          split at h
          · omega
          · rename_i h5
            simp only [Bool.not_eq_false, Bool.and_eq_true, decide_eq_true_eq, List.all_eq_true] at h1 h2 h5
            exact ⟨h1, h2, by omega, by omega, h5⟩
theorem flat_len16 {l : List (List Int)} (h : ∀ x ∈ l, x.length = 16) : l.flatten.length = 16 * l.length := by
  induction l with
  | nil => rfl
  | cons a l ih =>
    rw [List.flatten_cons, List.length_append, h a (by simp), ih (fun x hx => h x (by simp [hx])), List.length_cons]
    omega
theorem byt_flat16 {l : List (List Int)} (h : ∀ x ∈ l, Byt x) : Byt l.flatten := by
  intro x hx
  obtain ⟨y, hy, hxy⟩ := List.mem_flatten.1 hx
  exact h y hy x hxy
theorem zeros_of {xs : List Int} (h : ∀ x ∈ xs, x = 0) : xs = List.replicate xs.length 0 := List.eq_replicate_iff.2 ⟨rfl, h⟩

/-- Blocks come back from their checkpoints. -/
theorem blocks_read {l : List (List Int)} (hx : ∀ x ∈ l, Byt x) (h : readGE l = 0) :
    rightC (numAt l.flatten 3) (numAt l.flatten 4) (numAt l.flatten 5) (readDir l).length = true ∧ blocksC (numAt l.flatten 0) (numAt l.flatten 1) (numAt l.flatten 2) (numAt l.flatten 3) (numAt l.flatten 4) (numAt l.flatten 5) (readDir l) = l ∧
    Words4 (numAt l.flatten 0 :: numAt l.flatten 1 :: numAt l.flatten 2 :: readDir l) := by
  obtain ⟨⟨h2, h16⟩, hr, hm, hs, hz⟩ := read_parts h
  have hb := rightB_bd hr
  have hlen := flat_len16 h16
  have hbyt := byt_flat16 hx
  have hdl : (readDir l).length = (tab (numAt l.flatten 5)).toNat := by simp [readDir]
  generalize hA : l.flatten = A at *
  obtain ⟨T, hT⟩ : ∃ T : Nat, tab (numAt A 5) = (T : Int) := ⟨(tab (numAt A 5)).toNat, by omega⟩
  have hTn : (tab (numAt A 5)).toNat = T := by omega
  rw [hTn] at hs hz hdl
  have hN : 28 + 4 * T ≤ A.length ∧ A.length = 16 * ((43 + 4 * T) / 16) := by
    unfold manyC at hm
    omega
  have hword : ∀ i, Word4 (numAt A i) := fun i => by
    have g : ∀ j, 0 ≤ A.getD j 0 ∧ A.getD j 0 ≤ 255 := fun j => by
      rw [List.getD_eq_getElem?_getD]
      by_cases h : j < A.length
      · rw [List.getElem?_eq_getElem h]; exact hbyt.get j h
      · rw [List.getElem?_eq_none (by omega)]; simp
    exact back4_bd (g _).1 (g _).2 (g _).1 (g _).2 (g _).1 (g _).2 (g _).1 (g _).2
  have hnums : numsC (numAt A 0) (numAt A 1) (numAt A 2) (numAt A 3) (numAt A 4) (numAt A 5) (readDir l) = (List.range (6 + T)).map (numAt A) := by
    have e : readDir l = (List.range T).map fun i => numAt A (6 + i) := by unfold readDir; rw [hA, hTn]
    rw [e, Nat.add_comm 6 T, Nat.add_comm T 6, List.range_add, List.map_append, List.map_map]
    rfl
  have hbody : bodyC (numAt A 0) (numAt A 1) (numAt A 2) (numAt A 3) (numAt A 4) (numAt A 5) (readDir l) = A.take (24 + 4 * T) := by
    unfold bodyC
    rw [hnums, flat_nums hbyt (6 + T) (by omega)]
    congr 1
    omega
  have henc : encC (numAt A 0) (numAt A 1) (numAt A 2) (numAt A 3) (numAt A 4) (numAt A 5) (readDir l) = A := by
    rw [encC_is hdl, hbody, hs, hnums]
    have e : List.map (numAt A) (List.range (6 + T)) ++ [numAt A (6 + T)] = (List.range (7 + T)).map (numAt A) := by
      rw [show 7 + T = 6 + T + 1 by omega, List.range_succ, List.map_append]
      rfl
    rw [e, flat_nums hbyt (7 + T) (by omega), show 4 * (7 + T) = 28 + 4 * T by omega]
    have hzz := zeros_of hz
    rw [List.length_drop] at hzz
    rw [show (16 - (28 + 4 * T) % 16) % 16 = A.length - (28 + 4 * T) by omega, ← hzz, List.take_append_drop]
  refine ⟨?_, ?_, ?_⟩
  · unfold rightC
    rw [hr, hdl]
    simp
    omega
  · unfold blocksC
    rw [henc, hlen, ← hA, Nat.mul_div_cancel_left _ (by decide)]
    exact chunks_of h16
  · intro x hx
    simp only [List.mem_cons] at hx
    rcases hx with rfl | rfl | rfl | hx
    · exact hword 0
    · exact hword 1
    · exact hword 2
    · unfold readDir at hx
      rw [hA] at hx
      obtain ⟨i, _, rfl⟩ := List.mem_map.1 hx
      exact hword _
end Go.Proofs.YthmpimjmajoimaaGreatDoor
namespace Go.Proofs.YthmpimjmajoimaaGreatDoor

theorem getD_set (xs : List Int) (P : Nat) (c : Int) (i : Nat) (hP : P < xs.length) : (xs.set P c).getD i 0 = if i = P then c else xs.getD i 0 := by
  rw [List.getD_eq_getElem?_getD, List.getD_eq_getElem?_getD, List.getElem?_set]
  by_cases h : P = i
  · subst h
    simp [hP]
  · simp [h, Ne.symm h]
theorem numAt_congr {A B : List Int} {i : Nat} (h0 : A.getD (4 * i) 0 = B.getD (4 * i) 0) (h1 : A.getD (4 * i + 1) 0 = B.getD (4 * i + 1) 0) (h2 : A.getD (4 * i + 2) 0 = B.getD (4 * i + 2) 0) (h3 : A.getD (4 * i + 3) 0 = B.getD (4 * i + 3) 0) : numAt A i = numAt B i := by
  unfold numAt bk
  rw [h0, h1, h2, h3]
theorem numAt_none {A : List Int} {i : Nat} (h0 : A.getD (4 * i) 0 = 0) (h1 : A.getD (4 * i + 1) 0 = 0) (h2 : A.getD (4 * i + 2) 0 = 0) (h3 : A.getD (4 * i + 3) 0 = 0) : numAt A i = 0 := by
  unfold numAt bk
  rw [h0, h1, h2, h3]
  rfl
theorem getD_byt {A : List Int} (h : Byt A) (i : Nat) : 0 ≤ A.getD i 0 ∧ A.getD i 0 ≤ 255 := by
  rw [List.getD_eq_getElem?_getD]
  by_cases h' : i < A.length
  · rw [List.getElem?_eq_getElem h']; exact h.get i h'
  · rw [List.getElem?_eq_none (by omega)]; simp
theorem getD_take {A : List Int} {n i : Nat} (h : i < n) : (A.take n).getD i 0 = A.getD i 0 := by
  rw [List.getD_eq_getElem?_getD, List.getD_eq_getElem?_getD, List.getElem?_take_of_lt h]
theorem enc_zero {nu se sq z p b : Int} {dir : List Int} {i : Nat} (h : 28 + 4 * dir.length ≤ i) : (encC nu se sq z p b dir).getD i 0 = 0 := by
  have hd := encC_drop (nu := nu) (se := se) (sq := sq) (z := z) (p := p) (b := b) (dir := dir) rfl
  have e : (encC nu se sq z p b dir).getD i 0 = ((encC nu se sq z p b dir).drop (28 + 4 * dir.length)).getD (i - (28 + 4 * dir.length)) 0 := by
    rw [List.getD_eq_getElem?_getD, List.getD_eq_getElem?_getD, List.getElem?_drop]
    congr 2
    omega
  rw [e, hd, List.getD_eq_getElem?_getD, List.getElem?_replicate]
  split <;> rfl
theorem set_flatten {l : List (List Int)} (h : ∀ x ∈ l, x.length = 16) {k t : Nat} (hk : k < l.length) (ht : t < 16) (c : Int) : (l.set k (l[k].set t c)).flatten = l.flatten.set (16 * k + t) c := by
  induction l generalizing k with
  | nil => simp at hk
  | cons a l ih =>
    have ha := h a (by simp)
    cases k with
    | zero =>
      simp only [List.set_cons_zero, List.getElem_cons_zero, List.flatten_cons]
      rw [List.set_append_left _ _ (by omega)]
      simp
    | succ k =>
      simp only [List.set_cons_succ, List.getElem_cons_succ, List.flatten_cons]
      rw [ih (fun x hx => h x (by simp [hx])) (by simpa using hk), List.set_append_right _ _ (by omega)]
      congr 2
      omega
theorem take_flatten16 {l : List (List Int)} (h : ∀ x ∈ l, x.length = 16) (m : Nat) : (l.take m).flatten = l.flatten.take (16 * m) := by
  induction l generalizing m with
  | nil => simp
  | cons a l ih =>
    have ha := h a (by simp)
    cases m with
    | zero => simp
    | succ m =>
      rw [List.take_succ_cons, List.flatten_cons, List.flatten_cons, ih (fun x hx => h x (by simp [hx])), List.take_append]
      rw [List.take_of_length_le (l := a) (by omega), ha]
      congr 2

section
variable {nu se sq z p b nu2 se2 sq2 z2 p2 b2 : Int} {dir dir2 : List Int}
theorem back4_inj {a b c d a' b' c' d' : Int} (ha : 0 ≤ a ∧ a ≤ 255) (hb : 0 ≤ b ∧ b ≤ 255) (hc : 0 ≤ c ∧ c ≤ 255) (_hd : 0 ≤ d ∧ d ≤ 255) (ha' : 0 ≤ a' ∧ a' ≤ 255) (hb' : 0 ≤ b' ∧ b' ≤ 255) (hc' : 0 ≤ c' ∧ c' ≤ 255) (_hd' : 0 ≤ d' ∧ d' ≤ 255)
    (h : back4 a b c d = back4 a' b' c' d') : a = a' ∧ b = b' ∧ c = c' ∧ d = d' := by
  unfold back4 at h
  omega
/-- Two encodings that are another in one place alone are not both there. -/
theorem enc_apart (h : rightC z p b dir.length = true) (hw : Words4 (nu :: se :: sq :: dir)) (h2 : rightC z2 p2 b2 dir2.length = true) (hw2 : Words4 (nu2 :: se2 :: sq2 :: dir2)) {P : Nat} {c : Int} (hP : P < (encC nu se sq z p b dir).length) (c0 : 0 ≤ c) (c1 : c ≤ 255)
    (hc : c ≠ (encC nu se sq z p b dir).getD P 0) (he : encC nu2 se2 sq2 z2 p2 b2 dir2 = (encC nu se sq z p b dir).set P c) : False := by
  have hn := nums_words h hw
  have hn2 := nums_words h2 hw2
  have hT := (right_parts h).2
  have hT2 := (right_parts h2).2
  have hr := rightB_bd (right_parts h).1
  have hr2 := rightB_bd (right_parts h2).1
  have hs := encC_sum hn
  have hs2 := encC_sum hn2
  have h5 := encC_num hn 5 (by omega)
  have h52 := encC_num hn2 5 (by omega)
  simp only [numsC, List.getElem_cons_succ, List.getElem_cons_zero] at h5 h52
  have hz := fun i => enc_zero (nu := nu) (se := se) (sq := sq) (z := z) (p := p) (b := b) (dir := dir) (i := i)
  have hz2 := fun i => enc_zero (nu := nu2) (se := se2) (sq := sq2) (z := z2) (p := p2) (b := b2) (dir := dir2) (i := i)
  have ht := encC_take (nu := nu) (se := se) (sq := sq) (z := z) (p := p) (b := b) (dir := dir) rfl
  have ht2 := encC_take (nu := nu2) (se := se2) (sq := sq2) (z := z2) (p := p2) (b := b2) (dir := dir2) rfl
  have hby := byt_enc (nu := nu) (se := se) (sq := sq) (z := z) (p := p) (b := b) (dir := dir)
  have hby2 := byt_enc (nu := nu2) (se := se2) (sq := sq2) (z := z2) (p := p2) (b := b2) (dir := dir2)
  have hpos : 1 ≤ sumN (bodyC nu se sq z p b dir) := sumN_pos (byt_flatM' _) (by rw [bodyC_len]; omega)
  have hpos2 : 1 ≤ sumN (bodyC nu2 se2 sq2 z2 p2 b2 dir2) := sumN_pos (byt_flatM' _) (by rw [bodyC_len]; omega)
  have hbl := bodyC_len nu se sq z p b dir
  have hbb : Byt (bodyC nu se sq z p b dir) := byt_flatM' _
  have hg : ∀ i, (encC nu2 se2 sq2 z2 p2 b2 dir2).getD i 0 = if i = P then c else (encC nu se sq z p b dir).getD i 0 := fun i => by rw [he, getD_set _ _ _ _ hP]
  generalize hE : encC nu se sq z p b dir = E at *
  generalize hE2 : encC nu2 se2 sq2 z2 p2 b2 dir2 = E2 at *
  have same : ∀ i, i ≠ P → E2.getD i 0 = E.getD i 0 := fun i hi => by rw [hg, if_neg hi]
  by_cases hTT : dir.length = dir2.length
  · rcases Nat.lt_or_ge P (24 + 4 * dir.length) with hp1 | hp1
    · -- ahead of the sum
      have e1 : bodyC nu2 se2 sq2 z2 p2 b2 dir2 = (bodyC nu se sq z p b dir).set P c := by
        rw [← ht2, ← ht, ← hTT, he, List.take_set]
      have e2 : numAt E2 (6 + dir.length) = numAt E (6 + dir.length) := numAt_congr (same _ (by omega)) (same _ (by omega)) (same _ (by omega)) (same _ (by omega))
      rw [← hTT, e2, hs, e1] at hs2
      have := (changed_iff hbb (by rw [hbl]; exact hp1) c0 c1).1 hs2.symm
      apply hc
      rw [this, List.getD_eq_getElem?_getD, List.getElem?_eq_getElem hP, Option.getD_some]
      have : (E.take (24 + 4 * dir.length))[P]'(by rw [List.length_take]; omega) = E[P] := List.getElem_take
      rw [← this]
      congr 1
      exact ht.symm
    · rcases Nat.lt_or_ge P (28 + 4 * dir.length) with hp2 | hp2
      · -- the sum
        have e1 : bodyC nu2 se2 sq2 z2 p2 b2 dir2 = bodyC nu se sq z p b dir := by
          rw [← ht2, ← ht, ← hTT, he, List.take_set_of_le (by omega)]
        rw [e1, ← hTT, ← hs] at hs2
        have hi := back4_inj (getD_byt hby2 _) (getD_byt hby2 _) (getD_byt hby2 _) (getD_byt hby2 _) (getD_byt hby _) (getD_byt hby _) (getD_byt hby _) (getD_byt hby _) hs2
        have hgP := hg P
        rw [if_pos rfl] at hgP
        apply hc
        rw [← hgP]
        have hP4 : P = 4 * (6 + dir.length) ∨ P = 4 * (6 + dir.length) + 1 ∨ P = 4 * (6 + dir.length) + 2 ∨ P = 4 * (6 + dir.length) + 3 := by omega
        rcases hP4 with e | e | e | e
        · rw [e]; exact hi.1
        · rw [e]; exact hi.2.1
        · rw [e]; exact hi.2.2.1
        · rw [e]; exact hi.2.2.2
      · -- behind
        have hgP := hg P
        rw [if_pos rfl, hz2 P (by omega)] at hgP
        exact hc (by rw [← hgP, hz P hp2])
  · have hPn : 20 ≤ P ∧ P < 24 := by
      by_cases hx : 20 ≤ P ∧ P < 24
      · exact hx
      · exfalso
        have : numAt E2 5 = numAt E 5 := numAt_congr (same _ (by omega)) (same _ (by omega)) (same _ (by omega)) (same _ (by omega))
        rw [h5, h52] at this
        rw [this] at hT2
        omega
    rcases Nat.lt_or_ge dir.length dir2.length with hlt | hge
    · have : numAt E2 (6 + dir2.length) = 0 := numAt_none (by rw [same _ (by omega)]; exact hz _ (by omega)) (by rw [same _ (by omega)]; exact hz _ (by omega)) (by rw [same _ (by omega)]; exact hz _ (by omega)) (by rw [same _ (by omega)]; exact hz _ (by omega))
      omega
    · have : numAt E (6 + dir.length) = 0 := numAt_none (by rw [← same _ (by omega)]; exact hz2 _ (by omega)) (by rw [← same _ (by omega)]; exact hz2 _ (by omega)) (by rw [← same _ (by omega)]; exact hz2 _ (by omega)) (by rw [← same _ (by omega)]; exact hz2 _ (by omega))
      omega

/-- Of blocks of which one byte is another one nothing comes back. -/
theorem read_changed (h : rightC z p b dir.length = true) (hw : Words4 (nu :: se :: sq :: dir)) {k t : Nat} {c : Int} (hk : k < (blocksC nu se sq z p b dir).length) (ht : t < 16) (c0 : 0 ≤ c) (c1 : c ≤ 255)
    (hc : c ≠ ((blocksC nu se sq z p b dir)[k]).getD t 0) : readGE ((blocksC nu se sq z p b dir).set k (((blocksC nu se sq z p b dir)[k]).set t c)) ≠ 0 := by
  intro h0
  have h16 := blocksC_16 (nu := nu) (se := se) (sq := sq) (z := z) (p := p) (b := b) (dir := dir)
  have hby := blocksC_byt (nu := nu) (se := se) (sq := sq) (z := z) (p := p) (b := b) (dir := dir)
  have hfl := blocksC_flat (nu := nu) (se := se) (sq := sq) (z := z) (p := p) (b := b) (dir := dir)
  have hset := set_flatten h16 hk ht c
  have hby2 : ∀ x ∈ (blocksC nu se sq z p b dir).set k (((blocksC nu se sq z p b dir)[k]).set t c), Byt x := by
    intro x hx
    rcases List.mem_or_eq_of_mem_set hx with hx | rfl
    · exact hby x hx
    · intro y hy
      rcases List.mem_or_eq_of_mem_set hy with hy | rfl
      · exact hby _ (List.getElem_mem hk) y hy
      · exact ⟨c0, c1⟩
  obtain ⟨hr2, hb2, hw2⟩ := blocks_read hby2 h0
  have hf2 := congrArg List.flatten hb2
  rw [blocksC_flat] at hf2
  replace hf2 := hf2.trans (hset.trans (by rw [hfl]))
  have hlen : 16 * k + t < (encC nu se sq z p b dir).length := by
    have := flat_len16 h16
    rw [hfl] at this
    omega
  refine enc_apart h hw hr2 hw2 hlen c0 c1 ?_ hf2
  intro e
  apply hc
  rw [e, ← hfl]
  have hrow : ((blocksC nu se sq z p b dir)[k]).length = 16 := h16 _ (List.getElem_mem hk)
  have e1 : (blocksC nu se sq z p b dir)[k] = ((encC nu se sq z p b dir).drop (16 * k)).take 16 := by
    unfold blocksC
    exact chunks_get (by rw [blocksC, chunks_len] at hk; exact hk)
  rw [e1, hfl, getD_take ht, List.getD_eq_getElem?_getD, List.getD_eq_getElem?_getD, List.getElem?_drop]
/-- Nor of one block less. -/
theorem read_less (h : rightC z p b dir.length = true) (hw : Words4 (nu :: se :: sq :: dir)) : readGE ((blocksC nu se sq z p b dir).take ((blocksC nu se sq z p b dir).length - 1)) ≠ 0 := by
  intro h0
  have h16 := blocksC_16 (nu := nu) (se := se) (sq := sq) (z := z) (p := p) (b := b) (dir := dir)
  obtain ⟨⟨h2, _⟩, _, hm, _⟩ := read_parts h0
  have hl := blocksC_len (nu := nu) (se := se) (sq := sq) h
  have h5 := blocksC_num h hw 5 (by omega)
  simp only [numsC, List.getElem_cons_succ, List.getElem_cons_zero] at h5
  rw [List.length_take] at h2 hm
  rw [take_flatten16 h16] at hm
  have e : numAt ((blocksC nu se sq z p b dir).flatten.take (16 * ((blocksC nu se sq z p b dir).length - 1))) 5 = numAt (blocksC nu se sq z p b dir).flatten 5 := numAt_congr (getD_take (by omega)) (getD_take (by omega)) (getD_take (by omega)) (getD_take (by omega))
  rw [e, h5] at hm
  omega
/-- They fit into a zone. -/
theorem many_fits (h : rightC z p b dir.length = true) : manyC b ≤ p := by
  have hr := rightB_bd (right_parts h).1
  unfold manyC
  omega
/-- Two checkpoints are the same just if their blocks are. -/
theorem blocks_same (h : rightC z p b dir.length = true) (hw : Words4 (nu :: se :: sq :: dir)) (h2 : rightC z2 p2 b2 dir2.length = true) (hw2 : Words4 (nu2 :: se2 :: sq2 :: dir2)) :
    blocksC nu se sq z p b dir = blocksC nu2 se2 sq2 z2 p2 b2 dir2 ↔ nu = nu2 ∧ se = se2 ∧ sq = sq2 ∧ z = z2 ∧ p = p2 ∧ b = b2 ∧ dir = dir2 := by
  constructor
  · intro e
    have hd := read_dir h hw
    have hd2 := read_dir h2 hw2
    have n := blocksC_num h hw
    have n2 := blocksC_num h2 hw2
    rw [e] at hd n
    have m0 := (n 0 (by omega)).symm.trans (n2 0 (by omega))
    have m1 := (n 1 (by omega)).symm.trans (n2 1 (by omega))
    have m2 := (n 2 (by omega)).symm.trans (n2 2 (by omega))
    have m3 := (n 3 (by omega)).symm.trans (n2 3 (by omega))
    have m4 := (n 4 (by omega)).symm.trans (n2 4 (by omega))
    have m5 := (n 5 (by omega)).symm.trans (n2 5 (by omega))
    exact ⟨m0, m1, m2, m3, m4, m5, hd.symm.trans hd2⟩
  · rintro ⟨rfl, rfl, rfl, rfl, rfl, rfl, rfl⟩
    rfl
end
end Go.Proofs.YthmpimjmajoimaaGreatDoor
