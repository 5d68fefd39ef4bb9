/-
  Plain mathematics of package zones: zones that take turns.
-/
import Derived.Test.YteoohafadijkmaaTaMath
namespace Go.Proofs.Yteoohafadijkmaa

namespace TaS
def rot (n i : Nat) (k : Nat) : Int := (((i + k) % n : Nat) : Int)
theorem rot_in {n i k : Nat} (hn : 0 < n) : 0 ≤ rot n i k ∧ rot n i k < (n : Int) := by
  unfold rot
  have := Nat.mod_lt (i + k) hn
  omega
theorem rot_ne' {n t i k : Nat} (hi : i < n) (h : k < i) : rot n t k ≠ rot n t i := by
  unfold rot
  intro e
  have e : (t + i) % n = (t + k) % n := by omega
  have h1 := Nat.sub_mod_eq_zero_of_mod_eq e
  rw [show t + i - (t + k) = i - k by omega, Nat.mod_eq_of_lt (by omega)] at h1
  omega
theorem rot_ne {n t i k : Nat} (hk : k < n) (hi : i < n) (h : k ≠ i) : rot n t k ≠ rot n t i := by
  rcases Nat.lt_or_ge k i with h1 | h1
  · exact rot_ne' hi h1
  · exact fun e => rot_ne' hk (show i < k by omega) e.symm
/-- i turns were taken, all zones are free. -/
structure Ph1 (T : TaS) (n i : Nat) : Prop where
  len : T.st.length = n
  st : ∀ z, T.stA z = 0
  row : T.row = (List.range n).map (rot n i)
  dn : T.done.length = i
theorem Ph1.new {n : Nat} (hn : 0 < n) : Ph1 (TaS.new n) n 0 := by
  refine ⟨by simp [TaS.new], fun z => ?_, ?_, rfl⟩
  · unfold stA
    split
    · simp only [TaS.new, List.getD_eq_getElem?_getD, List.getElem?_replicate]
      split <;> rfl
    · rfl
  · show (List.range n).map (fun (i : Nat) => (i : Int)) = _
    refine List.map_congr_left fun k hk => ?_
    rw [List.mem_range] at hk
    unfold rot
    rw [Nat.zero_add, Nat.mod_eq_of_lt hk]
theorem rot_cons {n i m : Nat} : (List.range (m + 1)).map (rot n i) = rot n i 0 :: (List.range m).map (rot n (i + 1)) := by
  rw [List.range_succ_eq_map, List.map_cons, List.map_map]
  congr 1
  refine List.map_congr_left fun k _ => ?_
  unfold rot
  simp only [Function.comp]
  rw [show i + (k + 1) = i + 1 + k by omega]
theorem rot_wrap {n i : Nat} (hn : 0 < n) : rot n (i + 1) (n - 1) = rot n i 0 := by
  unfold rot
  rw [show i + 1 + (n - 1) = i + n by omega, Nat.add_mod_right, Nat.add_zero]
theorem take_cons {T : TaS} {z : Int} {r : List Int} (h : T.row = z :: r) : T.takeN = z ∧ T.takeB = true ∧ T.takeS = ⟨T.st.set z.toNat 1, r, T.done⟩ := by
  unfold takeN takeB takeS
  rw [h]
  simp
/-- One turn. -/
theorem Ph1.step {T : TaS} {n i : Nat} (hn : 0 < n) (h : Ph1 T n i) : T.takeN = rot n i 0 ∧ T.takeB = true ∧ T.takeS.closeB (rot n i 0) = true ∧ (T.takeS.closeS (rot n i 0)).ageN (rot n i 0) = 0 ∧ (T.takeS.closeS (rot n i 0)).giveB (rot n i 0) = true ∧ T.takeS.done.length = i ∧ (T.takeS.closeS (rot n i 0)).done.length = i + 1 ∧ Ph1 ((T.takeS.closeS (rot n i 0)).giveS (rot n i 0)) n (i + 1) := by
  obtain ⟨m, rfl⟩ : ∃ m, n = m + 1 := ⟨n - 1, by omega⟩
  have hr := h.row
  rw [rot_cons] at hr
  obtain ⟨e1, e2, e3⟩ := take_cons hr
  obtain ⟨b1, b2⟩ := rot_in (n := m + 1) (i := i) (k := 0) hn
  have hlen := h.len
  have hz : 0 ≤ rot (m + 1) i 0 ∧ rot (m + 1) i 0 < (T.st.length : Int) := by rw [hlen]; exact ⟨b1, b2⟩
  have s1 := fun y => st_set (st := T.st) (row := T.row) (row' := (List.range m).map (rot (m + 1) (i + 1))) (done := T.done) (done' := T.done) (s := 1) hz y
  rw [e1, e2, e3]
  have hs1 : TaS.stA ⟨T.st.set (rot (m + 1) i 0).toNat 1, (List.range m).map (rot (m + 1) (i + 1)), T.done⟩ (rot (m + 1) i 0) = 1 := by rw [s1, if_pos rfl]
  have ec : TaS.closeS ⟨T.st.set (rot (m + 1) i 0).toNat 1, (List.range m).map (rot (m + 1) (i + 1)), T.done⟩ (rot (m + 1) i 0) = ⟨(T.st.set (rot (m + 1) i 0).toNat 1).set (rot (m + 1) i 0).toNat 2, (List.range m).map (rot (m + 1) (i + 1)), T.done ++ [rot (m + 1) i 0]⟩ := by
    unfold closeS
    rw [if_pos hs1]
  have hz2 : 0 ≤ rot (m + 1) i 0 ∧ rot (m + 1) i 0 < ((T.st.set (rot (m + 1) i 0).toNat 1).length : Int) := by simpa using hz
  have s2 := fun y => st_set (st := T.st.set (rot (m + 1) i 0).toNat 1) (row := (List.range m).map (rot (m + 1) (i + 1))) (row' := (List.range m).map (rot (m + 1) (i + 1))) (done := T.done) (done' := T.done ++ [rot (m + 1) i 0]) (s := 2) hz2 y
  have hs2 : TaS.stA ⟨(T.st.set (rot (m + 1) i 0).toNat 1).set (rot (m + 1) i 0).toNat 2, (List.range m).map (rot (m + 1) (i + 1)), T.done ++ [rot (m + 1) i 0]⟩ (rot (m + 1) i 0) = 2 := by rw [s2, if_pos rfl]
  have hag := age_self hs1
  have hz3 : 0 ≤ rot (m + 1) i 0 ∧ rot (m + 1) i 0 < (((T.st.set (rot (m + 1) i 0).toNat 1).set (rot (m + 1) i 0).toNat 2).length : Int) := by simpa using hz
  have s3 := fun y => st_set (st := (T.st.set (rot (m + 1) i 0).toNat 1).set (rot (m + 1) i 0).toNat 2) (row := (List.range m).map (rot (m + 1) (i + 1))) (row' := (List.range m).map (rot (m + 1) (i + 1)) ++ [rot (m + 1) i 0]) (done := T.done ++ [rot (m + 1) i 0]) (done' := T.done ++ [rot (m + 1) i 0]) (s := 0) hz3 y
  refine ⟨rfl, rfl, by unfold closeB; rw [hs1]; rfl, hag, by rw [ec]; unfold giveB; rw [hs2]; rfl, h.dn, by rw [ec, List.length_append, h.dn]; rfl, ?_⟩
  rw [ec]
  have eg : TaS.giveS ⟨(T.st.set (rot (m + 1) i 0).toNat 1).set (rot (m + 1) i 0).toNat 2, (List.range m).map (rot (m + 1) (i + 1)), T.done ++ [rot (m + 1) i 0]⟩ (rot (m + 1) i 0) = ⟨((T.st.set (rot (m + 1) i 0).toNat 1).set (rot (m + 1) i 0).toNat 2).set (rot (m + 1) i 0).toNat 0, (List.range m).map (rot (m + 1) (i + 1)) ++ [rot (m + 1) i 0], T.done ++ [rot (m + 1) i 0]⟩ := by
    unfold giveS
    rw [if_neg (by rw [hs2]; decide)]
  rw [eg]
  refine ⟨by simpa using hlen, fun z => ?_, ?_, by rw [List.length_append, h.dn]; rfl⟩
  · rw [s3]
    by_cases e : z = rot (m + 1) i 0
    · rw [if_pos e]
    · rw [if_neg e, s2, if_neg e, s1, if_neg e]
      exact h.st z
  · show (List.range m).map (rot (m + 1) (i + 1)) ++ [rot (m + 1) i 0] = _
    have e := rot_wrap (n := m + 1) (i := i) hn
    rw [Nat.add_sub_cancel] at e
    rw [List.range_succ, List.map_append, ← e]
    rfl
/-- Behind t turns i zones were taken and closed. -/
structure Ph2 (T : TaS) (n t i : Nat) : Prop where
  len : T.st.length = n
  st : ∀ k, k < n → T.stA (rot n t k) = if k < i then 2 else 0
  row : T.row = (List.range (n - i)).map (rot n (t + i))
  dn : T.done.length = t + i
  last : ∀ k, k < i → lastK T.done (rot n t k) T.done.length = t + k
theorem Ph1.ph2 {T : TaS} {n t : Nat} (h : Ph1 T n t) : Ph2 T n t 0 := ⟨h.len, fun k _ => by rw [h.st, if_neg (by omega)], by rw [Nat.sub_zero, Nat.add_zero]; exact h.row, h.dn, fun k hk => by omega⟩
theorem Ph2.age {T : TaS} {n t i k : Nat} (h : Ph2 T n t i) (hk : k < i) (hi : i ≤ n) : T.ageN (rot n t k) = i - 1 - k := by
  unfold ageN
  rw [if_pos (by rw [h.st k (by omega), if_pos hk]), h.last k hk, h.dn]
  omega
theorem Ph2.step {T : TaS} {n t i : Nat} (h : Ph2 T n t i) (hi : i < n) : T.takeN = rot n t i ∧ T.takeB = true ∧ T.takeS.closeB (rot n t i) = true ∧ T.takeS.done.length = t + i ∧ Ph2 (T.takeS.closeS (rot n t i)) n t (i + 1) := by
  have hr := h.row
  obtain ⟨m, hm⟩ : ∃ m, n - i = m + 1 := ⟨n - i - 1, by omega⟩
  rw [hm, rot_cons] at hr
  have e0 : rot n (t + i) 0 = rot n t i := by unfold rot; rw [Nat.add_zero]
  rw [e0] at hr
  obtain ⟨e1, e2, e3⟩ := take_cons hr
  obtain ⟨b1, b2⟩ := rot_in (n := n) (i := t) (k := i) (by omega)
  have hlen := h.len
  have hz : 0 ≤ rot n t i ∧ rot n t i < (T.st.length : Int) := by rw [hlen]; exact ⟨b1, b2⟩
  have s1 := fun y => st_set (st := T.st) (row := T.row) (row' := (List.range m).map (rot n (t + i + 1))) (done := T.done) (done' := T.done) (s := 1) hz y
  rw [e1, e2, e3]
  have hs1 : TaS.stA ⟨T.st.set (rot n t i).toNat 1, (List.range m).map (rot n (t + i + 1)), T.done⟩ (rot n t i) = 1 := by rw [s1, if_pos rfl]
  have ec : TaS.closeS ⟨T.st.set (rot n t i).toNat 1, (List.range m).map (rot n (t + i + 1)), T.done⟩ (rot n t i) = ⟨(T.st.set (rot n t i).toNat 1).set (rot n t i).toNat 2, (List.range m).map (rot n (t + i + 1)), T.done ++ [rot n t i]⟩ := by
    unfold closeS
    rw [if_pos hs1]
  have hz2 : 0 ≤ rot n t i ∧ rot n t i < ((T.st.set (rot n t i).toNat 1).length : Int) := by simpa using hz
  have s2 := fun y => st_set (st := T.st.set (rot n t i).toNat 1) (row := (List.range m).map (rot n (t + i + 1))) (row' := (List.range m).map (rot n (t + i + 1))) (done := T.done) (done' := T.done ++ [rot n t i]) (s := 2) hz2 y
  refine ⟨rfl, rfl, by unfold closeB; rw [hs1]; rfl, h.dn, ?_⟩
  rw [ec]
  refine ⟨by simpa using hlen, fun k hk => ?_, ?_, by rw [List.length_append, h.dn]; rfl, fun k hk => ?_⟩
  · rw [s2]
    by_cases e : k = i
    · subst e
      rw [if_pos rfl, if_pos (by omega)]
    · rw [if_neg (rot_ne hk hi e), s1, if_neg (rot_ne hk hi e)]
      show T.stA (rot n t k) = _
      rw [h.st k hk]
      by_cases h1 : k < i
      · rw [if_pos h1, if_pos (by omega)]
      · rw [if_neg h1, if_neg (by omega)]
  · show (List.range m).map (rot n (t + i + 1)) = _
    rw [show n - (i + 1) = m by omega, Nat.add_assoc]
  · show lastK (T.done ++ [rot n t i]) (rot n t k) (T.done ++ [rot n t i]).length = t + k
    by_cases e : k = i
    · subst e
      rw [lastK_self, h.dn]
    · rw [lastK_ne _ (rot_ne (by omega) hi e)]
      exact h.last k (by omega)
theorem Ph2.all {T : TaS} {n t : Nat} (h : Ph2 T n t n) (hw : T.WF) : T.takeN = 0 ∧ T.takeB = false ∧ T.takeS = T ∧ T.closedL.length = n := by
  have hr : T.row = [] := by rw [h.row, Nat.sub_self]; rfl
  refine ⟨by unfold takeN; rw [hr]; rfl, by unfold takeB; rw [hr]; rfl, by unfold takeS; rw [if_pos hr], Nat.le_antisymm ?_ ?_⟩
  · have := all_len (n := T.st.length) (closed_nodup T) (fun z hz => in_iff.1 (in_of (by rw [(closed_mem hw z).1 hz]; omega)))
    rw [h.len] at this
    exact this
  · have hnd : ((List.range n).map (rot n t)).Nodup := by
      rw [List.Nodup, List.pairwise_map]
      refine List.pairwise_lt_range.imp_of_mem fun {a b} ha hb hab => ?_
      rw [List.mem_range] at ha hb
      exact rot_ne ha hb (by omega)
    have := List.Nodup.length_le_of_subset (l₂ := T.closedL) hnd (fun z hz => by
      obtain ⟨k, hk, rfl⟩ := List.mem_map.1 hz
      rw [List.mem_range] at hk
      rw [closed_mem hw, h.st k hk, if_pos hk])
    simpa using this
end TaS
end Go.Proofs.Yteoohafadijkmaa
