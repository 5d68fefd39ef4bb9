/-
  What is got of an index, behind puts and drops. Plain mathematics.
-/
import Derived.Test.YtekaeeckhfghpaaDoorIxD
namespace Go.Proofs.YtekaeeckhfghpaaDoor

theorem getL_ext {A B : PL} {q : Nat} (hA : Asc A) (hB : Asc B) (h : ∀ s, (q, s) ∈ A ↔ (q, s) ∈ B) : getL A q = getL B q := by
  cases e : getL A q with
  | some s => exact (getL_some hB ((h s).1 (getL_mem e))).symm
  | none =>
    cases e2 : getL B q with
    | none => rfl
    | some s => exact absurd rfl (getL_no e _ ((h s).2 (getL_mem e2)))
theorem get_put_same {L : PL} (h : Asc L) (k : Nat) (s : Int) : getL (putL L k s) k = some s := getL_some (putL_asc h k s) (mem_putL.2 (.inr rfl))
theorem get_put_ne {L : PL} (h : Asc L) {k q : Nat} (s : Int) (hn : k ≠ q) : getL (putL L k s) q = getL L q := getL_ext (putL_asc h k s) h fun r => by
  rw [mem_putL]
  constructor
  · rintro (⟨h1, _⟩ | h1)
    · exact h1
    · injection h1 with h1
      exact absurd h1.symm hn
  · intro h1
    exact .inl ⟨h1, fun e => hn e.symm⟩
theorem get_drop_same (L : PL) (k : Nat) : getL (dropL L k) k = none := getL_none fun e he => (mem_dropL.1 he).2
theorem get_drop_ne {L : PL} (h : Asc L) {k q : Nat} (hn : k ≠ q) : getL (dropL L k) q = getL L q := getL_ext (dropL_asc h k) h fun r => by
  rw [mem_dropL]
  constructor
  · exact fun h1 => h1.1
  · exact fun h1 => ⟨h1, fun e => hn e.symm⟩
namespace IxS
theorem put_yes {S : IxS} {k : Nat} {s : Int} (h : S.putB k = true) : S.putS k s = { S with L := putL S.L k s } := by
  unfold putS
  rw [if_pos h]
theorem put_no {S : IxS} {k : Nat} {s : Int} (h : S.putB k = false) : S.putS k s = S := by
  unfold putS
  rw [if_neg (by rw [h]; simp)]
theorem put_full {S : IxS} {k : Nat} (h : S.putB k = false) : ¬ S.L.length < S.room := by
  unfold putB at h
  simp only [Bool.or_eq_false_iff, decide_eq_false_iff_not] at h
  exact h.2
theorem put_same {S : IxS} (hw : S.WF) {k : Nat} {s : Int} (h : S.putB k = true) : (S.putS k s).getN k = s ∧ (S.putS k s).has k = true := by
  rw [put_yes h]
  unfold getN has
  show (getL (putL S.L k s) k).getD 0 = s ∧ (getL (putL S.L k s) k).isSome = true
  rw [get_put_same hw.asc]
  exact ⟨rfl, rfl⟩
theorem put_ne {S : IxS} (hw : S.WF) {k q : Nat} {s : Int} (hn : k ≠ q) : (S.putS k s).getN q = S.getN q ∧ (S.putS k s).has q = S.has q := by
  cases h : S.putB k with
  | true =>
    rw [put_yes h]
    unfold getN has
    show (getL (putL S.L k s) q).getD 0 = _ ∧ (getL (putL S.L k s) q).isSome = _
    rw [get_put_ne hw.asc s hn]
    exact ⟨rfl, rfl⟩
  | false =>
    rw [put_no h]
    exact ⟨rfl, rfl⟩
theorem drop_same {S : IxS} {k : Nat} : (S.dropS k).getN k = 0 ∧ (S.dropS k).has k = false := by
  unfold getN has dropS
  show (getL (dropL S.L k) k).getD 0 = 0 ∧ (getL (dropL S.L k) k).isSome = false
  rw [get_drop_same]
  exact ⟨rfl, rfl⟩
theorem drop_ne {S : IxS} (hw : S.WF) {k q : Nat} (hn : k ≠ q) : (S.dropS k).getN q = S.getN q ∧ (S.dropS k).has q = S.has q := by
  unfold getN has dropS
  show (getL (dropL S.L k) q).getD 0 = _ ∧ (getL (dropL S.L k) q).isSome = _
  rw [get_drop_ne hw.asc hn]
  exact ⟨rfl, rfl⟩
theorem put_room (S : IxS) (k : Nat) (s : Int) : (S.putS k s).room = S.room := by
  unfold putS
  split <;> rfl
end IxS
end Go.Proofs.YtekaeeckhfghpaaDoor
