/-
  A region that draws its order, in two parts: where each operation from number k on waits for each one ahead of k, the first part may be walked as a region of its own, and then the rest. For whatever program.
-/
import Derived.Deep.RegionHeldLaw
namespace Go.Proofs.Ytndapbfaaglcgaa

section
variable {P : Program} {ops ops1 : Array Oper} {Q : Exit → Act → World → Prop} {md : Region.Mode}

/-- What the first part ends in. -/
def upto (R : Act → World → Prop) (Q : Exit → Act → World → Prop) : Exit → Act → World → Prop
  | .normal, a, w => R a w
  | .exit i, a, w => Q (.exit i) a w
  | .goto l, a, w => Q (.goto l) a w
  | .ret, a, w => Q .ret a w
  | .panic c, a, w => Q (.panic c) a w
  | .outgrown, a, w => Q .outgrown a w

theorem wp_upto {o : Oper} {a : Act} {w : World} {K R : Act → World → Prop} (h : o.wp P a w K (upto R Q)) : o.wp P a w K Q := by
  unfold Oper.wp at *
  generalize (execOp a.eval o).run P w = r at *
  cases r with
  | ok n w' =>
    cases n <;> simp only [Oper.upon] at h ⊢ <;>
      first
        | exact h
        | exact Calls.mono h (fun e w'' he => by cases e <;> exact he)
  | halt x w' => cases x <;> simp only [Oper.upon] at h ⊢ <;> exact h

/-- Each operation from k on waits for each one ahead of k; the ones ahead of k wait for earlier ones alone, and their guards are ahead of k. -/
def inParts (md : Region.Mode) (ops : Array Oper) (k : Nat) : Bool :=
  (List.range ops.size).all fun j => match ops[j]? with
    | none => true
    | some o => bif Nat.blt j k then (o.after.all fun e => Nat.blt e.on j) && (match o.guard with | none => true | some (g, _) => Nat.blt g k)
      else (List.range k).all fun i => o.after.any fun e => Region.binds md e && Nat.beq e.on i

theorem inParts_low {k j : Nat} {o : Oper} (h : inParts md ops k = true) (ho : ops[j]? = some o) (hj : j < k) : (∀ e ∈ o.after, e.on < j) ∧ ∀ g b, o.guard = some (g, b) → g < k := by
  unfold inParts at h
  rw [List.all_eq_true] at h
  have h1 := h j (List.mem_range.2 (Array.getElem?_eq_some_iff.1 ho).1)
  have e1 : Nat.blt j k = true := by simpa using hj
  simp only [ho, e1, cond_true, Bool.and_eq_true, Array.all_eq_true_iff_forall_mem] at h1
  refine ⟨fun e he => by simpa using h1.1 e he, fun g b hg => ?_⟩
  have h2 := h1.2
  rw [hg] at h2
  simpa using h2
theorem inParts_high {k j i : Nat} {o : Oper} (h : inParts md ops k = true) (ho : ops[j]? = some o) (hj : k ≤ j) (hi : i < k) : ∃ e ∈ o.after, Region.binds md e = true ∧ e.on = i := by
  unfold inParts at h
  rw [List.all_eq_true] at h
  have h1 := h j (List.mem_range.2 (Array.getElem?_eq_some_iff.1 ho).1)
  have e1 : Nat.blt j k = false := by rw [← Bool.not_eq_true, Nat.blt_eq]; omega
  simp only [ho, e1, cond_false, List.all_eq_true] at h1
  obtain ⟨e, he, hb⟩ := Array.any_eq_true'.1 (h1 i (List.mem_range.2 hi))
  simp only [Bool.and_eq_true] at hb
  exact ⟨e, he, hb.1, by simpa using hb.2⟩

/-- More room does no harm. -/
theorem wpAny_more : ∀ (n : Nat) (listed : Array Bool) (a : Act) (w : World), wpAny P md ops Q n listed a w → wpAny P md ops Q (n + 1) listed a w
  | 0, _, _, _, h => ⟨fun _ => h.2, fun i hi => by rw [h.1] at hi; cases hi⟩
  | n + 1, _, _, _, h => ⟨h.1, fun i hi => wpOp_mono (fun a' w' h' => wpAny_more n _ a' w' h') (h.2 i hi)⟩
theorem wpAny_more' {n m : Nat} {listed : Array Bool} {a : Act} {w : World} (h : wpAny P md ops Q m listed a w) : wpAny P md ops Q (n + m) listed a w := by
  induction n with
  | zero => rw [Nat.zero_add]; exact h
  | succ n ih => rw [Nat.succ_add]; exact wpAny_more _ _ _ _ ih

/-- One operation of the first part. -/
theorem wpOp_part {k i : Nat} {K K' R : Act → World → Prop} {a : Act} {w : World} (hp : inParts md ops k = true) (hops : ∀ j, j < k → ops1[j]? = ops[j]?) (hi : i < k) (hK : ∀ a w, K a w → K' a w) (h : wpOp P ops1 (upto R Q) i K a w) : wpOp P ops Q i K' a w := by
  have h0 : wpOp P ops Q i K a w := by
    unfold wpOp at *
    rw [hops i hi] at h
    cases ho : ops[i]? with
    | none => rw [ho] at h; exact h
    | some o =>
      rw [ho] at h
      have hw : Region.wanted o (yielded ops1 a.tmps) = Region.wanted o (yielded ops a.tmps) := by
        unfold Region.wanted
        cases hg : o.guard with
        | none => rfl
        | some gb =>
          obtain ⟨g, b⟩ := gb
          have hgk := (inParts_low hp ho hi).2 g b hg
          simp only [yielded, hops g hgk]
      simp only [hw] at h
      split at h
      · rename_i h1
        simp only [h1, if_true]
        exact h.imp wp_upto id
      · rename_i h1
        simp only [h1]
        exact h
  exact wpOp_mono hK h0

structure Halves (ops : Array Oper) (k : Nat) (listed listed1 : Array Bool) : Prop where
  size : listed.size = ops.size
  size1 : listed1.size = k
  same : ∀ j, j < k → listed1[j]? = listed[j]?
  late : ∀ j, k ≤ j → j < ops.size → listed[j]? = some false

theorem Halves.put {k i : Nat} {listed listed1 : Array Bool} (h : Halves ops k listed listed1) (hi : i < k) : Halves ops k (listed.setIfInBounds i true) (listed1.setIfInBounds i true) := by
  refine ⟨by simp [h.size], by simp [h.size1], fun j hj => ?_, fun j hj hjs => ?_⟩
  · by_cases e : i = j
    · subst e
      have h1 := h.same i hj
      by_cases hs : i < listed.size
      · have hs1 : i < listed1.size := by rw [h.size1]; exact hj
        simp [hs, hs1]
      · have hs1 : i < listed1.size := by rw [h.size1]; exact hj
        rw [Array.getElem?_eq_getElem hs1, Array.getElem?_eq_none (by omega)] at h1
        cases h1
    · rw [Array.getElem?_setIfInBounds_ne e, Array.getElem?_setIfInBounds_ne e]
      exact h.same j hj
  · rw [Array.getElem?_setIfInBounds_ne (by omega)]
    exact h.late j hj hjs

theorem getD_of {xs : Array Bool} {j : Nat} {b d : Bool} (h : xs[j]? = some b) : xs.getD j d = b := by
  simp [h]

theorem Halves.ready {k i0 : Nat} {listed listed1 : Array Bool} (h : Halves ops k listed listed1) (hp : inParts md ops k = true) (hops : ∀ j, j < k → ops1[j]? = ops[j]?) (_hs1 : ops1.size = k) (hi0 : i0 < k) (hu : listed[i0]? = some false) (j : Nat) : j ∈ Region.ready md ops listed ↔ j ∈ Region.ready md ops1 listed1 ∧ j < k := by
  rw [mem_ready, mem_ready]
  have key : ∀ j, j < k → ∀ d, listed1.getD j d = listed.getD j d := fun j hj d => by
    have := h.same j hj
    simp [this]
  constructor
  · rintro ⟨h1, o, ho, h2⟩
    have hjk : j < k := by
      rcases Nat.lt_or_ge j k with hj | hj
      · exact hj
      · obtain ⟨e, he, hb, hon⟩ := inParts_high hp ho hj hi0
        have := h2 e he hb
        rw [hon, getD_of hu] at this
        cases this
    exact ⟨⟨by rw [key j hjk]; exact h1, o, by rw [hops j hjk]; exact ho, fun e he hb => by rw [key e.on (by have := (inParts_low hp ho hjk).1 e he; omega)]; exact h2 e he hb⟩, hjk⟩
  · rintro ⟨⟨h1, o, ho, h2⟩, hjk⟩
    rw [hops j hjk] at ho
    exact ⟨by rw [← key j hjk]; exact h1, o, ho, fun e he hb => by rw [← key e.on (by have := (inParts_low hp ho hjk).1 e he; omega)]; exact h2 e he hb⟩

theorem Halves.some_ready {k : Nat} {listed listed1 : Array Bool} (h : Halves ops k listed listed1) (hp : inParts md ops k = true) (hops : ∀ j, j < k → ops1[j]? = ops[j]?) (hs1 : ops1.size = k) : ∀ (n i0 : Nat), i0 ≤ n → i0 < k → listed[i0]? = some false → ∃ j, j ∈ Region.ready md ops1 listed1 := by
  intro n
  induction n with
  | zero =>
    intro i0 hn hk hu
    obtain rfl : i0 = 0 := by omega
    have ho : ops1[0]? = some ops1[0] := Array.getElem?_eq_getElem (by omega)
    refine ⟨0, mem_ready.2 ⟨getD_of (by rw [h.same 0 hk]; exact hu), _, ho, fun e he _ => ?_⟩⟩
    have := (inParts_low hp (by rw [← hops 0 hk]; exact ho) hk).1 e he
    omega
  | succ n ih =>
    intro i0 hn hk hu
    by_cases hex : ∃ i, i < i0 ∧ listed[i]? = some false
    · obtain ⟨i, hi, hiu⟩ := hex
      exact ih i (by omega) (by omega) hiu
    · have ho : ops1[i0]? = some ops1[i0] := Array.getElem?_eq_getElem (by omega)
      refine ⟨i0, mem_ready.2 ⟨getD_of (by rw [h.same i0 hk]; exact hu), _, ho, fun e he _ => ?_⟩⟩
      have hlt := (inParts_low hp (by rw [← hops i0 hk]; exact ho) hk).1 e he
      have hsz : e.on < listed1.size := by rw [h.size1]; omega
      cases hb : listed1[e.on] with
      | true => simp [hsz, hb]
      | false => exact absurd ⟨e.on, hlt, by rw [← h.same e.on (by omega), Array.getElem?_eq_getElem hsz, hb]⟩ hex

/-- The first k have come up. -/
def marks (k n : Nat) : Array Bool := (List.replicate k true ++ List.replicate (n - k) false).toArray

theorem Halves.all {k : Nat} {listed listed1 : Array Bool} (h : Halves ops k listed listed1) (hk : k ≤ ops.size) (hall : ¬ ∃ i, i < k ∧ listed[i]? = some false) : listed = marks k ops.size := by
  apply Array.ext
  · simp [marks, h.size]; omega
  · intro i h1 h2
    have hm : (marks k ops.size)[i] = decide (i < k) := by
      simp only [marks, List.getElem_toArray]
      by_cases hi : i < k
      · rw [List.getElem_append_left (by simpa using hi)]; simp [hi]
      · rw [List.getElem_append_right (by simpa using hi)]; simp [hi]
    rw [hm]
    by_cases hi : i < k
    · cases hb : listed[i] with
      | true => simp [hi]
      | false => exact absurd ⟨i, hi, by rw [Array.getElem?_eq_getElem h1, hb]⟩ hall
    · have := h.late i (by omega) (by rw [← h.size]; exact h1)
      rw [Array.getElem?_eq_getElem h1] at this
      rw [Option.some.inj this]
      simp [hi]

theorem wpAny_parts {k m : Nat} (hp : inParts md ops k = true) (hops : ∀ j, j < k → ops1[j]? = ops[j]?) (hs1 : ops1.size = k) (hk : k ≤ ops.size) : ∀ (n : Nat) (listed listed1 : Array Bool) (a : Act) (w : World), Halves ops k listed listed1 →
    wpAny P md ops1 (upto (fun a w => wpAny P md ops Q m (marks k ops.size) a w) Q) n listed1 a w → wpAny P md ops Q (n + m) listed a w := by
  intro n
  induction n with
  | zero =>
    intro listed listed1 a w H h
    rw [Nat.zero_add]
    have hall : ¬ ∃ i, i < k ∧ listed[i]? = some false := by
      rintro ⟨i, hi, hu⟩
      obtain ⟨j, hj⟩ := H.some_ready hp hops hs1 i i (Nat.le_refl _) hi hu
      rw [h.1] at hj
      cases hj
    rw [H.all hk hall]
    exact h.2
  | succ n ih =>
    intro listed listed1 a w H h
    by_cases hex : ∃ i, i < k ∧ listed[i]? = some false
    · obtain ⟨i0, hi0, hu⟩ := hex
      rw [Nat.succ_add]
      refine ⟨fun hr => ?_, fun i hi => ?_⟩
      · obtain ⟨j, hj⟩ := H.some_ready hp hops hs1 i0 i0 (Nat.le_refl _) hi0 hu
        have hjk : j < k := by
          obtain ⟨_, o, ho, _⟩ := mem_ready.1 hj
          rw [← hs1]
          exact (Array.getElem?_eq_some_iff.1 ho).1
        have := (H.ready hp hops hs1 hi0 hu j).2 ⟨hj, hjk⟩
        rw [hr] at this
        cases this
      · obtain ⟨hi1, hik⟩ := (H.ready hp hops hs1 hi0 hu i).1 hi
        exact wpOp_part hp hops hik (fun a' w' h' => ih _ _ a' w' (H.put hik) h') (h.2 i hi1)
    · have hr : Region.ready md ops1 listed1 = [] := by
        cases hrr : Region.ready md ops1 listed1 with
        | nil => rfl
        | cons j js =>
          have hj : j ∈ Region.ready md ops1 listed1 := by rw [hrr]; exact List.mem_cons_self
          obtain ⟨hd, o, ho, _⟩ := mem_ready.1 hj
          have hjk : j < k := by
            rw [← hs1]
            exact (Array.getElem?_eq_some_iff.1 ho).1
          refine absurd ⟨j, hjk, ?_⟩ hex
          rw [← H.same j hjk]
          have hsz : j < listed1.size := by rw [H.size1]; exact hjk
          rw [Array.getElem?_eq_getElem hsz]
          simp [hsz] at hd
          rw [hd]
      have h2 := h.1 hr
      rw [H.all hk hex]
      exact wpAny_more' h2

/-- **The beginning**: the first part as a region of its own; what it ends in is the rest of the region. -/
theorem wp_region_parts {S : World → Prop} {id : Nat} {a : Act} {w : World} (k m : Nat) (l1 : List Oper) (hm : P.follows .mixedOrders = true) (hp : inParts .any ops k = true) (hs : ops.size = k + m) (h1 : ops.toList.take k = l1) (hS : S w.drew)
    (h : S w.drew → wpAnyH P .any l1.toArray (upto (fun a w => wpAny P .any ops Q m (marks k (k + m)) a w) Q) S k (Array.replicate k false) a w.drew) : (Code.region id ops true).wp P Q a w := by
  refine wp_region_any hm ?_
  have hs1 : l1.toArray.size = k := by rw [← h1, List.size_toArray, List.length_take, Array.length_toList]; omega
  have hops : ∀ j, j < k → l1.toArray[j]? = ops[j]? := fun j hj => by
    rw [← Array.getElem?_toList, ← Array.getElem?_toList, ← h1, List.toList_toArray, List.getElem?_take]
    simp [hj]
  have h2 := wpAny_of_held _ _ _ _ (h hS)
  rw [← hs] at h2
  have H : Halves ops k (Array.replicate ops.size false) (Array.replicate k false) := by
    refine ⟨by simp, by simp, fun j hj => ?_, fun j _ hj => ?_⟩
    · rw [Array.getElem?_replicate, Array.getElem?_replicate]
      simp [hj, show j < ops.size by omega]
    · rw [Array.getElem?_replicate]
      simp [hj]
  have := wpAny_parts hp hops hs1 (by omega) k _ _ a _ H h2
  rw [← hs] at this
  exact this
end
end Go.Proofs.Ytndapbfaaglcgaa
