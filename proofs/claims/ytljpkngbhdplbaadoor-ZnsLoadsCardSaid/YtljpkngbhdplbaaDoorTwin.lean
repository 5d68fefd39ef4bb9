/-
  A region that draws its order: two calls, each of which gets a variable of its own that is made in the region, in whatever order; what holds is told by which operations have come up. For whatever program.
-/
import Derived.Test.YtljpkngbhdplbaaDoorPhase
import Derived.Deep.RegionHeld
import Derived.RegionTactic
namespace Go.Proofs.YtljpkngbhdplbaaDoor

section
variable {P : Program} {ops : Array Oper} {Q : Exit → Act → World → Prop} {S : World → Prop}

/-- Which have come up: the two calls (2 and 5), the two variables (6 and 7), the two stores (8 and 9). -/
def twinL (c1 c2 a1 a2 s1 s2 : Bool) : Array Bool := #[true, true, c1, true, true, c2, a1, a2, s1, s2]
def twinF (a0 : Act) (d1 d2 e1 e2 : Nat) (x1 x2 y1 y2 : Value) : Act := (((a0.put (some d1) x1).put (some d2) x2).put (some e1) y1).put (some e2) y2
def left6 (c1 c2 a1 a2 s1 s2 : Bool) : Nat := (if c1 = true then 0 else 1) + (if c2 = true then 0 else 1) + (if a1 = true then 0 else 1) + (if a2 = true then 0 else 1) + (if s1 = true then 0 else 1) + (if s2 = true then 0 else 1)
/-- Operation i comes up; behind it R holds. -/
def TwinOp (P : Program) (ops : Array Oper) (Q : Exit → Act → World → Prop) (i : Nat) (a : Act) (w : World) (R : Act → World → Prop) : Prop :=
  ∃ o, ops[i]? = some o ∧ ∀ K : Act → World → Prop, Shut (∀ a w, R a w → K a w) → if Region.wanted o (yielded ops a.tmps) = true then Oper.wp P o a w K Q else K (a.put o.dst undef) w
theorem TwinOp.wp {i : Nat} {a : Act} {w : World} {R K : Act → World → Prop} (h : TwinOp P ops Q i a w R) (hn : ∀ a w, R a w → K a w) : wpOp P ops Q i K a w := by
  obtain ⟨o, ho, h⟩ := h
  exact wpOp_step ho (fun K' hK => h K' (fun a w hr => hK a w (hn a w hr)))
theorem twins (Inv : Bool → Bool → Bool → Bool → Bool → Bool → Value → Value → Value → Value → World → Prop) (a0 : Act) (d1 d2 e1 e2 : Nat)
    (hready : ∀ c1 c2 a1 a2 s1 s2 i, i ∈ Region.ready .any ops (twinL c1 c2 a1 a2 s1 s2) → (i = 2 ∧ c1 = false) ∨ (i = 5 ∧ c2 = false) ∨ (i = 6 ∧ a1 = false) ∨ (i = 7 ∧ a2 = false) ∨ (i = 8 ∧ s1 = false ∧ c1 = true ∧ a1 = true) ∨ (i = 9 ∧ s2 = false ∧ c2 = true ∧ a2 = true))
    (hnil : ∀ c1 c2 a1 a2 s1 s2, Region.ready .any ops (twinL c1 c2 a1 a2 s1 s2) = [] → c1 = true ∧ c2 = true ∧ a1 = true ∧ a2 = true ∧ s1 = true ∧ s2 = true)
    (hS : ∀ {c1 c2 a1 a2 s1 s2 x1 x2 y1 y2 w}, Inv c1 c2 a1 a2 s1 s2 x1 x2 y1 y2 w → S w)
    (h2 : ∀ c2 a1 a2 s2 x1 x2 y1 y2 w, Inv false c2 a1 a2 false s2 x1 x2 y1 y2 w → TwinOp P ops Q 2 (twinF a0 d1 d2 e1 e2 x1 x2 y1 y2) w (fun a w' => ∃ v, a = twinF a0 d1 d2 e1 e2 v x2 y1 y2 ∧ Inv true c2 a1 a2 false s2 v x2 y1 y2 w'))
    (h5 : ∀ c1 a1 a2 s1 x1 x2 y1 y2 w, Inv c1 false a1 a2 s1 false x1 x2 y1 y2 w → TwinOp P ops Q 5 (twinF a0 d1 d2 e1 e2 x1 x2 y1 y2) w (fun a w' => ∃ v, a = twinF a0 d1 d2 e1 e2 x1 v y1 y2 ∧ Inv c1 true a1 a2 s1 false x1 v y1 y2 w'))
    (h6 : ∀ c1 c2 a2 s2 x1 x2 y1 y2 w, Inv c1 c2 false a2 false s2 x1 x2 y1 y2 w → TwinOp P ops Q 6 (twinF a0 d1 d2 e1 e2 x1 x2 y1 y2) w (fun a w' => ∃ v, a = twinF a0 d1 d2 e1 e2 x1 x2 v y2 ∧ Inv c1 c2 true a2 false s2 x1 x2 v y2 w'))
    (h7 : ∀ c1 c2 a1 s1 x1 x2 y1 y2 w, Inv c1 c2 a1 false s1 false x1 x2 y1 y2 w → TwinOp P ops Q 7 (twinF a0 d1 d2 e1 e2 x1 x2 y1 y2) w (fun a w' => ∃ v, a = twinF a0 d1 d2 e1 e2 x1 x2 y1 v ∧ Inv c1 c2 a1 true s1 false x1 x2 y1 v w'))
    (h8 : ∀ c2 a2 s2 x1 x2 y1 y2 w, Inv true c2 true a2 false s2 x1 x2 y1 y2 w → TwinOp P ops Q 8 (twinF a0 d1 d2 e1 e2 x1 x2 y1 y2) w (fun a w' => a = twinF a0 d1 d2 e1 e2 x1 x2 y1 y2 ∧ Inv true c2 true a2 true s2 x1 x2 y1 y2 w'))
    (h9 : ∀ c1 a1 s1 x1 x2 y1 y2 w, Inv c1 true a1 true s1 false x1 x2 y1 y2 w → TwinOp P ops Q 9 (twinF a0 d1 d2 e1 e2 x1 x2 y1 y2) w (fun a w' => a = twinF a0 d1 d2 e1 e2 x1 x2 y1 y2 ∧ Inv c1 true a1 true s1 true x1 x2 y1 y2 w'))
    (hend : ∀ x1 x2 y1 y2 w, Inv true true true true true true x1 x2 y1 y2 w → Q .normal (twinF a0 d1 d2 e1 e2 x1 x2 y1 y2) w) :
    ∀ (n : Nat) (c1 c2 a1 a2 s1 s2 : Bool) (x1 x2 y1 y2 : Value) (w : World), (s1 = true → c1 = true ∧ a1 = true) → (s2 = true → c2 = true ∧ a2 = true) → left6 c1 c2 a1 a2 s1 s2 ≤ n →
      Inv c1 c2 a1 a2 s1 s2 x1 x2 y1 y2 w → wpAnyH P .any ops Q S n (twinL c1 c2 a1 a2 s1 s2) (twinF a0 d1 d2 e1 e2 x1 x2 y1 y2) w
  | n, c1, c2, a1, a2, s1, s2, x1, x2, y1, y2, w, k1, k2, hl, hi => by
    have hfin : Region.ready .any ops (twinL c1 c2 a1 a2 s1 s2) = [] → Q .normal (twinF a0 d1 d2 e1 e2 x1 x2 y1 y2) w := fun h => by
      obtain ⟨rfl, rfl, rfl, rfl, rfl, rfl⟩ := hnil _ _ _ _ _ _ h
      exact hend _ _ _ _ _ hi
    cases n with
    | zero =>
      have h0 : c1 = true ∧ c2 = true ∧ a1 = true ∧ a2 = true ∧ s1 = true ∧ s2 = true := by
        revert hl
        cases c1 <;> cases c2 <;> cases a1 <;> cases a2 <;> cases s1 <;> cases s2 <;> simp [left6]
      obtain ⟨rfl, rfl, rfl, rfl, rfl, rfl⟩ := h0
      have hr : Region.ready .any ops (twinL true true true true true true) = [] := List.eq_nil_iff_forall_not_mem.2 fun i h => by
        have := hready _ _ _ _ _ _ i h
        simp at this
      exact ⟨hr, hfin hr⟩
    | succ n =>
      refine ⟨hfin, fun i h => ?_⟩
      have again := twins Inv a0 d1 d2 e1 e2 hready hnil hS h2 h5 h6 h7 h8 h9 hend n
      rcases hready _ _ _ _ _ _ i h with ⟨rfl, rfl⟩ | ⟨rfl, rfl⟩ | ⟨rfl, rfl⟩ | ⟨rfl, rfl⟩ | ⟨rfl, rfl, rfl, rfl⟩ | ⟨rfl, rfl, rfl, rfl⟩
      · have hs : s1 = false := by cases s1 with | false => rfl | true => exact absurd (k1 rfl).1 (by simp)
        subst hs
        refine (h2 _ _ _ _ _ _ _ _ _ hi).wp ?_
        rintro a w' ⟨v, rfl, hi'⟩
        exact ⟨hS hi', again true c2 a1 a2 false s2 _ _ _ _ _ (fun h => by cases h) k2 (by simp [left6] at hl ⊢; omega) hi'⟩
      · have hs : s2 = false := by cases s2 with | false => rfl | true => exact absurd (k2 rfl).1 (by simp)
        subst hs
        refine (h5 _ _ _ _ _ _ _ _ _ hi).wp ?_
        rintro a w' ⟨v, rfl, hi'⟩
        exact ⟨hS hi', again c1 true a1 a2 s1 false _ _ _ _ _ k1 (fun h => by cases h) (by simp [left6] at hl ⊢; omega) hi'⟩
      · have hs : s1 = false := by cases s1 with | false => rfl | true => exact absurd (k1 rfl).2 (by simp)
        subst hs
        refine (h6 _ _ _ _ _ _ _ _ _ hi).wp ?_
        rintro a w' ⟨v, rfl, hi'⟩
        exact ⟨hS hi', again c1 c2 true a2 false s2 _ _ _ _ _ (fun h => by cases h) k2 (by simp [left6] at hl ⊢; omega) hi'⟩
      · have hs : s2 = false := by cases s2 with | false => rfl | true => exact absurd (k2 rfl).2 (by simp)
        subst hs
        refine (h7 _ _ _ _ _ _ _ _ _ hi).wp ?_
        rintro a w' ⟨v, rfl, hi'⟩
        exact ⟨hS hi', again c1 c2 a1 true s1 false _ _ _ _ _ k1 (fun h => by cases h) (by simp [left6] at hl ⊢; omega) hi'⟩
      · refine (h8 _ _ _ _ _ _ _ _ hi).wp ?_
        rintro a w' ⟨rfl, hi'⟩
        exact ⟨hS hi', again true c2 true a2 true s2 _ _ _ _ _ (fun _ => ⟨rfl, rfl⟩) k2 (by simp [left6] at hl ⊢; omega) hi'⟩
      · refine (h9 _ _ _ _ _ _ _ _ hi).wp ?_
        rintro a w' ⟨rfl, hi'⟩
        exact ⟨hS hi', again c1 true a1 true s1 true _ _ _ _ _ k1 (fun _ => ⟨rfl, rfl⟩) (by simp [left6] at hl ⊢; omega) hi'⟩
theorem put_same (a : Act) (d : Nat) : a.put (some d) (a.tmps.getD d undef) = a := by
  obtain ⟨t, df⟩ := a
  simp only [Act.put]
  congr 1
  refine Array.ext (by simp) fun j h1 h2 => ?_
  rw [Array.getElem_setIfInBounds]
  split
  · rename_i h
    subst h
    simp [h2]
  · rfl
/-- The region's form, as a look. -/
def twinOk (ops : Array Oper) : Bool :=
  [false, true].all fun c1 => [false, true].all fun c2 => [false, true].all fun a1 => [false, true].all fun a2 => [false, true].all fun s1 => [false, true].all fun s2 =>
    ((Region.ready .any ops (twinL c1 c2 a1 a2 s1 s2)).all fun i => (i == 2 && !c1) || (i == 5 && !c2) || (i == 6 && !a1) || (i == 7 && !a2) || (i == 8 && !s1 && c1 && a1) || (i == 9 && !s2 && c2 && a2)) &&
    (!(Region.ready .any ops (twinL c1 c2 a1 a2 s1 s2)).isEmpty || (c1 && c2 && a1 && a2 && s1 && s2))
theorem twin_ok (h : twinOk ops = true) (c1 c2 a1 a2 s1 s2 : Bool) :
    (∀ i, i ∈ Region.ready .any ops (twinL c1 c2 a1 a2 s1 s2) → (i = 2 ∧ c1 = false) ∨ (i = 5 ∧ c2 = false) ∨ (i = 6 ∧ a1 = false) ∨ (i = 7 ∧ a2 = false) ∨ (i = 8 ∧ s1 = false ∧ c1 = true ∧ a1 = true) ∨ (i = 9 ∧ s2 = false ∧ c2 = true ∧ a2 = true)) ∧
    (Region.ready .any ops (twinL c1 c2 a1 a2 s1 s2) = [] → c1 = true ∧ c2 = true ∧ a1 = true ∧ a2 = true ∧ s1 = true ∧ s2 = true) := by
  unfold twinOk at h
  have hm : ∀ b : Bool, b ∈ [false, true] := fun b => by cases b <;> simp
  have h1 := List.all_eq_true.1 (List.all_eq_true.1 (List.all_eq_true.1 (List.all_eq_true.1 (List.all_eq_true.1 (List.all_eq_true.1 h c1 (hm _)) c2 (hm _)) a1 (hm _)) a2 (hm _)) s1 (hm _)) s2 (hm _)
  rw [Bool.and_eq_true] at h1
  refine ⟨fun i hi => ?_, fun hr => ?_⟩
  · have := List.all_eq_true.1 h1.1 i hi
    simp only [Bool.or_eq_true, Bool.and_eq_true, beq_iff_eq, Bool.not_eq_true'] at this
    rcases this with ((((h | h) | h) | h) | h) | h
    · exact .inl h
    · exact .inr (.inl h)
    · exact .inr (.inr (.inl h))
    · exact .inr (.inr (.inr (.inl h)))
    · exact .inr (.inr (.inr (.inr (.inl ⟨h.1.1.1, h.1.1.2, h.1.2, h.2⟩))))
    · exact .inr (.inr (.inr (.inr (.inr ⟨h.1.1.1, h.1.1.2, h.1.2, h.2⟩))))
  · have := h1.2
    rw [hr] at this
    simp only [List.isEmpty_nil, Bool.not_true, Bool.false_or, Bool.and_eq_true] at this
    obtain ⟨⟨⟨⟨⟨k1, k2⟩, k3⟩, k4⟩, k5⟩, k6⟩ := this
    exact ⟨k1, k2, k3, k4, k5, k6⟩
theorem twins_start (Inv : Bool → Bool → Bool → Bool → Bool → Bool → Value → Value → Value → Value → World → Prop) {a0 : Act} {w0 : World} (d1 d2 e1 e2 : Nat) {listed : Array Bool} (hlisted : listed = twinL false false false false false false)
    (hok : twinOk ops = true)
    (hS : ∀ {c1 c2 a1 a2 s1 s2 x1 x2 y1 y2 w}, Inv c1 c2 a1 a2 s1 s2 x1 x2 y1 y2 w → S w)
    (h2 : ∀ c2 a1 a2 s2 x1 x2 y1 y2 w, Inv false c2 a1 a2 false s2 x1 x2 y1 y2 w → TwinOp P ops Q 2 (twinF a0 d1 d2 e1 e2 x1 x2 y1 y2) w (fun a w' => ∃ v, a = twinF a0 d1 d2 e1 e2 v x2 y1 y2 ∧ Inv true c2 a1 a2 false s2 v x2 y1 y2 w'))
    (h5 : ∀ c1 a1 a2 s1 x1 x2 y1 y2 w, Inv c1 false a1 a2 s1 false x1 x2 y1 y2 w → TwinOp P ops Q 5 (twinF a0 d1 d2 e1 e2 x1 x2 y1 y2) w (fun a w' => ∃ v, a = twinF a0 d1 d2 e1 e2 x1 v y1 y2 ∧ Inv c1 true a1 a2 s1 false x1 v y1 y2 w'))
    (h6 : ∀ c1 c2 a2 s2 x1 x2 y1 y2 w, Inv c1 c2 false a2 false s2 x1 x2 y1 y2 w → TwinOp P ops Q 6 (twinF a0 d1 d2 e1 e2 x1 x2 y1 y2) w (fun a w' => ∃ v, a = twinF a0 d1 d2 e1 e2 x1 x2 v y2 ∧ Inv c1 c2 true a2 false s2 x1 x2 v y2 w'))
    (h7 : ∀ c1 c2 a1 s1 x1 x2 y1 y2 w, Inv c1 c2 a1 false s1 false x1 x2 y1 y2 w → TwinOp P ops Q 7 (twinF a0 d1 d2 e1 e2 x1 x2 y1 y2) w (fun a w' => ∃ v, a = twinF a0 d1 d2 e1 e2 x1 x2 y1 v ∧ Inv c1 c2 a1 true s1 false x1 x2 y1 v w'))
    (h8 : ∀ c2 a2 s2 x1 x2 y1 y2 w, Inv true c2 true a2 false s2 x1 x2 y1 y2 w → TwinOp P ops Q 8 (twinF a0 d1 d2 e1 e2 x1 x2 y1 y2) w (fun a w' => a = twinF a0 d1 d2 e1 e2 x1 x2 y1 y2 ∧ Inv true c2 true a2 true s2 x1 x2 y1 y2 w'))
    (h9 : ∀ c1 a1 s1 x1 x2 y1 y2 w, Inv c1 true a1 true s1 false x1 x2 y1 y2 w → TwinOp P ops Q 9 (twinF a0 d1 d2 e1 e2 x1 x2 y1 y2) w (fun a w' => a = twinF a0 d1 d2 e1 e2 x1 x2 y1 y2 ∧ Inv c1 true a1 true s1 true x1 x2 y1 y2 w'))
    (hi : ∀ x1 x2 y1 y2, Inv false false false false false false x1 x2 y1 y2 w0)
    (hend : ∀ x1 x2 y1 y2 w, Inv true true true true true true x1 x2 y1 y2 w → Q .normal (twinF a0 d1 d2 e1 e2 x1 x2 y1 y2) w) :
    wpAnyH P .any ops Q S 6 listed a0 w0 := by
  subst hlisted
  have h := twins Inv a0 d1 d2 e1 e2 (fun c1 c2 a1 a2 s1 s2 => (twin_ok hok c1 c2 a1 a2 s1 s2).1) (fun c1 c2 a1 a2 s1 s2 => (twin_ok hok c1 c2 a1 a2 s1 s2).2) hS h2 h5 h6 h7 h8 h9 hend 6 false false false false false false (a0.tmps.getD d1 undef) (a0.tmps.getD d2 undef) (a0.tmps.getD e1 undef) (a0.tmps.getD e2 undef) w0 (fun h => by cases h) (fun h => by cases h) (by simp [left6]) (hi _ _ _ _)
  have h0 : twinF a0 d1 d2 e1 e2 (a0.tmps.getD d1 undef) (a0.tmps.getD d2 undef) (a0.tmps.getD e1 undef) (a0.tmps.getD e2 undef) = a0 := by
    unfold twinF
    rw [put_same, put_same, put_same, put_same]
  rwa [h0] at h
end
end Go.Proofs.YtljpkngbhdplbaaDoor
