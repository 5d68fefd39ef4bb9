/-
  Plain mathematics of checkpoints, on: of blocks of which one byte is another one nothing comes back, nor of one block less; checkpoints are alike just if their blocks are.
-/
import Derived.Test.YtknllfhokjedkaaDoorCkptMath3
namespace Go.Proofs.YtknllfhokjedkaaDoor

theorem getD_set (xs : List Int) (P : Nat) (c : Int) (i : Nat) (hP : P < xs.length) : (xs.set P c).getD i 0 = if i = P then c else xs.getD i 0 := by
  rw [List.getD_eq_getElem?_getD, List.getD_eq_getElem?_getD, List.getElem?_set]
  by_cases h : P = i
  · subst h
    simp [hP]
  · simp [h, Ne.symm h]
theorem numAt_congr {A B : List Int} {i : Nat} (h0 : A.getD (4 * i) 0 = B.getD (4 * i) 0) (h1 : A.getD (4 * i + 1) 0 = B.getD (4 * i + 1) 0) (h2 : A.getD (4 * i + 2) 0 = B.getD (4 * i + 2) 0) (h3 : A.getD (4 * i + 3) 0 = B.getD (4 * i + 3) 0) : numAt A i = numAt B i := by
  unfold numAt bk
  rw [h0, h1, h2, h3]
theorem numAt_none {A : List Int} {i : Nat} (h0 : A.getD (4 * i) 0 = 0) (h1 : A.getD (4 * i + 1) 0 = 0) (h2 : A.getD (4 * i + 2) 0 = 0) (h3 : A.getD (4 * i + 3) 0 = 0) : numAt A i = 0 := by
  unfold numAt bk
  rw [h0, h1, h2, h3]
  rfl
theorem getD_byt {A : List Int} (h : Byt A) (i : Nat) : 0 ≤ A.getD i 0 ∧ A.getD i 0 ≤ 255 := by
  rw [List.getD_eq_getElem?_getD]
  by_cases h' : i < A.length
  · rw [List.getElem?_eq_getElem h']; exact h.get i h'
  · rw [List.getElem?_eq_none (by omega)]; simp
theorem getD_take {A : List Int} {n i : Nat} (h : i < n) : (A.take n).getD i 0 = A.getD i 0 := by
  rw [List.getD_eq_getElem?_getD, List.getD_eq_getElem?_getD, List.getElem?_take_of_lt h]
theorem enc_zero {nu se sq z p b : Int} {dir : List Int} {i : Nat} (h : 28 + 4 * dir.length ≤ i) : (encC nu se sq z p b dir).getD i 0 = 0 := by
  have hd := encC_drop (nu := nu) (se := se) (sq := sq) (z := z) (p := p) (b := b) (dir := dir) rfl
  have e : (encC nu se sq z p b dir).getD i 0 = ((encC nu se sq z p b dir).drop (28 + 4 * dir.length)).getD (i - (28 + 4 * dir.length)) 0 := by
    rw [List.getD_eq_getElem?_getD, List.getD_eq_getElem?_getD, List.getElem?_drop]
    congr 2
    omega
  rw [e, hd, List.getD_eq_getElem?_getD, List.getElem?_replicate]
  split <;> rfl
theorem set_flatten {l : List (List Int)} (h : ∀ x ∈ l, x.length = 16) {k t : Nat} (hk : k < l.length) (ht : t < 16) (c : Int) : (l.set k (l[k].set t c)).flatten = l.flatten.set (16 * k + t) c := by
  induction l generalizing k with
  | nil => simp at hk
  | cons a l ih =>
    have ha := h a (by simp)
    cases k with
    | zero =>
      simp only [List.set_cons_zero, List.getElem_cons_zero, List.flatten_cons]
      rw [List.set_append_left _ _ (by omega)]
      simp
    | succ k =>
      simp only [List.set_cons_succ, List.getElem_cons_succ, List.flatten_cons]
      rw [ih (fun x hx => h x (by simp [hx])) (by simpa using hk), List.set_append_right _ _ (by omega)]
      congr 2
      omega
theorem take_flatten16 {l : List (List Int)} (h : ∀ x ∈ l, x.length = 16) (m : Nat) : (l.take m).flatten = l.flatten.take (16 * m) := by
  induction l generalizing m with
  | nil => simp
  | cons a l ih =>
    have ha := h a (by simp)
    cases m with
    | zero => simp
    | succ m =>
      rw [List.take_succ_cons, List.flatten_cons, List.flatten_cons, ih (fun x hx => h x (by simp [hx])), List.take_append]
      rw [List.take_of_length_le (l := a) (by omega), ha]
      congr 2

section
variable {nu se sq z p b nu2 se2 sq2 z2 p2 b2 : Int} {dir dir2 : List Int}
theorem back4_inj {a b c d a' b' c' d' : Int} (ha : 0 ≤ a ∧ a ≤ 255) (hb : 0 ≤ b ∧ b ≤ 255) (hc : 0 ≤ c ∧ c ≤ 255) (_hd : 0 ≤ d ∧ d ≤ 255) (ha' : 0 ≤ a' ∧ a' ≤ 255) (hb' : 0 ≤ b' ∧ b' ≤ 255) (hc' : 0 ≤ c' ∧ c' ≤ 255) (_hd' : 0 ≤ d' ∧ d' ≤ 255)
    (h : back4 a b c d = back4 a' b' c' d') : a = a' ∧ b = b' ∧ c = c' ∧ d = d' := by
  unfold back4 at h
  omega
/-- Two encodings that are another in one place alone are not both there. -/
theorem enc_apart (h : rightC z p b dir.length = true) (hw : Words4 (nu :: se :: sq :: dir)) (h2 : rightC z2 p2 b2 dir2.length = true) (hw2 : Words4 (nu2 :: se2 :: sq2 :: dir2)) {P : Nat} {c : Int} (hP : P < (encC nu se sq z p b dir).length) (c0 : 0 ≤ c) (c1 : c ≤ 255)
    (hc : c ≠ (encC nu se sq z p b dir).getD P 0) (he : encC nu2 se2 sq2 z2 p2 b2 dir2 = (encC nu se sq z p b dir).set P c) : False := by
  have hn := nums_words h hw
  have hn2 := nums_words h2 hw2
  have hT := (right_parts h).2
  have hT2 := (right_parts h2).2
  have hr := rightB_bd (right_parts h).1
  have hr2 := rightB_bd (right_parts h2).1
  have hs := encC_sum hn
  have hs2 := encC_sum hn2
  have h5 := encC_num hn 5 (by omega)
  have h52 := encC_num hn2 5 (by omega)
  simp only [numsC, List.getElem_cons_succ, List.getElem_cons_zero] at h5 h52
  have hz := fun i => enc_zero (nu := nu) (se := se) (sq := sq) (z := z) (p := p) (b := b) (dir := dir) (i := i)
  have hz2 := fun i => enc_zero (nu := nu2) (se := se2) (sq := sq2) (z := z2) (p := p2) (b := b2) (dir := dir2) (i := i)
  have ht := encC_take (nu := nu) (se := se) (sq := sq) (z := z) (p := p) (b := b) (dir := dir) rfl
  have ht2 := encC_take (nu := nu2) (se := se2) (sq := sq2) (z := z2) (p := p2) (b := b2) (dir := dir2) rfl
  have hby := byt_enc (nu := nu) (se := se) (sq := sq) (z := z) (p := p) (b := b) (dir := dir)
  have hby2 := byt_enc (nu := nu2) (se := se2) (sq := sq2) (z := z2) (p := p2) (b := b2) (dir := dir2)
  have hpos : 1 ≤ sumN (bodyC nu se sq z p b dir) := sumN_pos (byt_flatM' _) (by rw [bodyC_len]; omega)
  have hpos2 : 1 ≤ sumN (bodyC nu2 se2 sq2 z2 p2 b2 dir2) := sumN_pos (byt_flatM' _) (by rw [bodyC_len]; omega)
  have hbl := bodyC_len nu se sq z p b dir
  have hbb : Byt (bodyC nu se sq z p b dir) := byt_flatM' _
  have hg : ∀ i, (encC nu2 se2 sq2 z2 p2 b2 dir2).getD i 0 = if i = P then c else (encC nu se sq z p b dir).getD i 0 := fun i => by rw [he, getD_set _ _ _ _ hP]
  generalize hE : encC nu se sq z p b dir = E at *
  generalize hE2 : encC nu2 se2 sq2 z2 p2 b2 dir2 = E2 at *
  have same : ∀ i, i ≠ P → E2.getD i 0 = E.getD i 0 := fun i hi => by rw [hg, if_neg hi]
  by_cases hTT : dir.length = dir2.length
  · rcases Nat.lt_or_ge P (24 + 4 * dir.length) with hp1 | hp1
    · -- ahead of the sum
      have e1 : bodyC nu2 se2 sq2 z2 p2 b2 dir2 = (bodyC nu se sq z p b dir).set P c := by
        rw [← ht2, ← ht, ← hTT, he, List.take_set]
      have e2 : numAt E2 (6 + dir.length) = numAt E (6 + dir.length) := numAt_congr (same _ (by omega)) (same _ (by omega)) (same _ (by omega)) (same _ (by omega))
      rw [← hTT, e2, hs, e1] at hs2
      have := (changed_iff hbb (by rw [hbl]; exact hp1) c0 c1).1 hs2.symm
      apply hc
      rw [this, List.getD_eq_getElem?_getD, List.getElem?_eq_getElem hP, Option.getD_some]
      have : (E.take (24 + 4 * dir.length))[P]'(by rw [List.length_take]; omega) = E[P] := List.getElem_take
      rw [← this]
      congr 1
      exact ht.symm
    · rcases Nat.lt_or_ge P (28 + 4 * dir.length) with hp2 | hp2
      · -- the sum
        have e1 : bodyC nu2 se2 sq2 z2 p2 b2 dir2 = bodyC nu se sq z p b dir := by
          rw [← ht2, ← ht, ← hTT, he, List.take_set_of_le (by omega)]
        rw [e1, ← hTT, ← hs] at hs2
        have hi := back4_inj (getD_byt hby2 _) (getD_byt hby2 _) (getD_byt hby2 _) (getD_byt hby2 _) (getD_byt hby _) (getD_byt hby _) (getD_byt hby _) (getD_byt hby _) hs2
        have hgP := hg P
        rw [if_pos rfl] at hgP
        apply hc
        rw [← hgP]
        have hP4 : P = 4 * (6 + dir.length) ∨ P = 4 * (6 + dir.length) + 1 ∨ P = 4 * (6 + dir.length) + 2 ∨ P = 4 * (6 + dir.length) + 3 := by omega
        rcases hP4 with e | e | e | e
        · rw [e]; exact hi.1
        · rw [e]; exact hi.2.1
        · rw [e]; exact hi.2.2.1
        · rw [e]; exact hi.2.2.2
      · -- behind
        have hgP := hg P
        rw [if_pos rfl, hz2 P (by omega)] at hgP
        exact hc (by rw [← hgP, hz P hp2])
  · have hPn : 20 ≤ P ∧ P < 24 := by
      by_cases hx : 20 ≤ P ∧ P < 24
      · exact hx
      · exfalso
        have : numAt E2 5 = numAt E 5 := numAt_congr (same _ (by omega)) (same _ (by omega)) (same _ (by omega)) (same _ (by omega))
        rw [h5, h52] at this
        rw [this] at hT2
        omega
    rcases Nat.lt_or_ge dir.length dir2.length with hlt | hge
    · have : numAt E2 (6 + dir2.length) = 0 := numAt_none (by rw [same _ (by omega)]; exact hz _ (by omega)) (by rw [same _ (by omega)]; exact hz _ (by omega)) (by rw [same _ (by omega)]; exact hz _ (by omega)) (by rw [same _ (by omega)]; exact hz _ (by omega))
      omega
    · have : numAt E (6 + dir.length) = 0 := numAt_none (by rw [← same _ (by omega)]; exact hz2 _ (by omega)) (by rw [← same _ (by omega)]; exact hz2 _ (by omega)) (by rw [← same _ (by omega)]; exact hz2 _ (by omega)) (by rw [← same _ (by omega)]; exact hz2 _ (by omega))
      omega

/-- Of blocks of which one byte is another one nothing comes back. -/
theorem read_changed (h : rightC z p b dir.length = true) (hw : Words4 (nu :: se :: sq :: dir)) {k t : Nat} {c : Int} (hk : k < (blocksC nu se sq z p b dir).length) (ht : t < 16) (c0 : 0 ≤ c) (c1 : c ≤ 255)
    (hc : c ≠ ((blocksC nu se sq z p b dir)[k]).getD t 0) : readGE ((blocksC nu se sq z p b dir).set k (((blocksC nu se sq z p b dir)[k]).set t c)) ≠ 0 := by
  intro h0
  have h16 := blocksC_16 (nu := nu) (se := se) (sq := sq) (z := z) (p := p) (b := b) (dir := dir)
  have hby := blocksC_byt (nu := nu) (se := se) (sq := sq) (z := z) (p := p) (b := b) (dir := dir)
  have hfl := blocksC_flat (nu := nu) (se := se) (sq := sq) (z := z) (p := p) (b := b) (dir := dir)
  have hset := set_flatten h16 hk ht c
  have hby2 : ∀ x ∈ (blocksC nu se sq z p b dir).set k (((blocksC nu se sq z p b dir)[k]).set t c), Byt x := by
    intro x hx
    rcases List.mem_or_eq_of_mem_set hx with hx | rfl
    · exact hby x hx
    · intro y hy
      rcases List.mem_or_eq_of_mem_set hy with hy | rfl
      · exact hby _ (List.getElem_mem hk) y hy
      · exact ⟨c0, c1⟩
  obtain ⟨hr2, hb2, hw2⟩ := blocks_read hby2 h0
  have hf2 := congrArg List.flatten hb2
  rw [blocksC_flat] at hf2
  replace hf2 := hf2.trans (hset.trans (by rw [hfl]))
  have hlen : 16 * k + t < (encC nu se sq z p b dir).length := by
    have := flat_len16 h16
    rw [hfl] at this
    omega
  refine enc_apart h hw hr2 hw2 hlen c0 c1 ?_ hf2
  intro e
  apply hc
  rw [e, ← hfl]
  have hrow : ((blocksC nu se sq z p b dir)[k]).length = 16 := h16 _ (List.getElem_mem hk)
  have e1 : (blocksC nu se sq z p b dir)[k] = ((encC nu se sq z p b dir).drop (16 * k)).take 16 := by
    unfold blocksC
    exact chunks_get (by rw [blocksC, chunks_len] at hk; exact hk)
  rw [e1, hfl, getD_take ht, List.getD_eq_getElem?_getD, List.getD_eq_getElem?_getD, List.getElem?_drop]
/-- Nor of one block less. -/
theorem read_less (h : rightC z p b dir.length = true) (hw : Words4 (nu :: se :: sq :: dir)) : readGE ((blocksC nu se sq z p b dir).take ((blocksC nu se sq z p b dir).length - 1)) ≠ 0 := by
  intro h0
  have h16 := blocksC_16 (nu := nu) (se := se) (sq := sq) (z := z) (p := p) (b := b) (dir := dir)
  obtain ⟨⟨h2, _⟩, _, hm, _⟩ := read_parts h0
  have hl := blocksC_len (nu := nu) (se := se) (sq := sq) h
  have h5 := blocksC_num h hw 5 (by omega)
  simp only [numsC, List.getElem_cons_succ, List.getElem_cons_zero] at h5
  rw [List.length_take] at h2 hm
  rw [take_flatten16 h16] at hm
  have e : numAt ((blocksC nu se sq z p b dir).flatten.take (16 * ((blocksC nu se sq z p b dir).length - 1))) 5 = numAt (blocksC nu se sq z p b dir).flatten 5 := numAt_congr (getD_take (by omega)) (getD_take (by omega)) (getD_take (by omega)) (getD_take (by omega))
  rw [e, h5] at hm
  omega
/-- They fit into a zone. -/
theorem many_fits (h : rightC z p b dir.length = true) : manyC b ≤ p := by
  have hr := rightB_bd (right_parts h).1
  unfold manyC
  omega
/-- Two checkpoints are the same just if their blocks are. -/
theorem blocks_same (h : rightC z p b dir.length = true) (hw : Words4 (nu :: se :: sq :: dir)) (h2 : rightC z2 p2 b2 dir2.length = true) (hw2 : Words4 (nu2 :: se2 :: sq2 :: dir2)) :
    blocksC nu se sq z p b dir = blocksC nu2 se2 sq2 z2 p2 b2 dir2 ↔ nu = nu2 ∧ se = se2 ∧ sq = sq2 ∧ z = z2 ∧ p = p2 ∧ b = b2 ∧ dir = dir2 := by
  constructor
  · intro e
    have hd := read_dir h hw
    have hd2 := read_dir h2 hw2
    have n := blocksC_num h hw
    have n2 := blocksC_num h2 hw2
    rw [e] at hd n
    have m0 := (n 0 (by omega)).symm.trans (n2 0 (by omega))
    have m1 := (n 1 (by omega)).symm.trans (n2 1 (by omega))
    have m2 := (n 2 (by omega)).symm.trans (n2 2 (by omega))
    have m3 := (n 3 (by omega)).symm.trans (n2 3 (by omega))
    have m4 := (n 4 (by omega)).symm.trans (n2 4 (by omega))
    have m5 := (n 5 (by omega)).symm.trans (n2 5 (by omega))
    exact ⟨m0, m1, m2, m3, m4, m5, hd.symm.trans hd2⟩
  · rintro ⟨rfl, rfl, rfl, rfl, rfl, rfl, rfl⟩
    rfl
end
end Go.Proofs.YtknllfhokjedkaaDoor
