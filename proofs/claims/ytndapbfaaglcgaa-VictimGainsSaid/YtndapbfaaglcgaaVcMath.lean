/-
  Plain mathematics of package victim: zones, their order, which are chosen; what is chosen gains; a choice where half is live; the order of the list; fewer live pages.
-/
import Derived.Below
namespace Go.Proofs.Ytndapbfaaglcgaa

/-- A zone: its number, its live pages, its age. -/
structure VZ where
  id : Int
  v : Int
  age : Nat
deriving DecidableEq
namespace VZ
def sumV : List VZ → Int
  | [] => 0
  | z :: l => z.v + sumV l
def ids (l : List VZ) : List Int := l.map VZ.id
def Fit (p : Int) (l : List VZ) : Prop := ∀ z ∈ l, 0 ≤ z.id ∧ 0 ≤ z.v ∧ z.v ≤ p
instance (p : Int) (l : List VZ) : Decidable (Fit p l) := inferInstanceAs (Decidable (∀ z ∈ l, _))
def rightL (p : Int) (l : List VZ) : Bool := decide (Fit p l ∧ (ids l).Nodup ∧ l.length ≤ 24)
/-- The benefit's two products. -/
def prod (p : Int) (a b : VZ) : Int := ((a.age : Int) + 1) * (p - a.v) * (b.v + 1)
def ahead (pol p : Int) (a b : VZ) : Bool :=
  if pol = 0 then (if a.v = b.v then decide (a.id < b.id) else decide (a.v < b.v))
  else (if prod p a b = prod p b a then decide (a.id < b.id) else decide (prod p b a < prod p a b))
def insZ (pol p : Int) (out : List VZ) (x : VZ) : List VZ := out.takeWhile (fun y => ahead pol p y x) ++ x :: out.dropWhile (fun y => ahead pol p y x)
def sortZ (pol p : Int) (l : List VZ) : List VZ := l.foldl (insZ pol p) []
/-- How many zones so many pages need. -/
def need (p n : Int) : Int := (n + p - 1) / p
def gain (p extra : Int) (o : List VZ) (k : Nat) : Bool := decide (need p (extra + sumV (o.take k)) < (k : Int) ∧ need p (extra + sumV (o.take k)) ≤ 3)
def pickK (p extra : Int) (o : List VZ) : Option Nat := (List.range o.length).find? (fun i => gain p extra o (i + 1))
def pickL (p extra : Int) (o : List VZ) : List Int := match pickK p extra o with
  | some i => ids (o.take (i + 1))
  | none => []
def chooseL (pol p extra : Int) (l : List VZ) : List Int := match pickK p extra (sortZ pol p l) with
  | some i => ids ((sortZ pol p l).take (i + 1))
  | none => if pol = 0 then [] else pickL p extra (sortZ 0 p l)

section
variable {p : Int} {l m : List VZ}
theorem right_iff : rightL p l = true ↔ Fit p l ∧ (ids l).Nodup ∧ l.length ≤ 24 := by unfold rightL; simp
/-- Two of the zones are of different numbers. -/
def Apart (l : List VZ) : Prop := l.Pairwise (fun a b => a.id ≠ b.id)
theorem apart_iff : (ids l).Nodup ↔ Apart l := by
  unfold ids Apart List.Nodup
  rw [List.pairwise_map]
theorem Apart.nodup (h : Apart l) : l.Nodup := List.Pairwise.imp (fun hn e => hn (by rw [e])) h
theorem Apart.perm (h : Apart l) (hp : l.Perm m) : Apart m := (hp.pairwise_iff (fun hn => hn.symm)).1 h
theorem Apart.eq (h : Apart l) {a b : VZ} (ha : a ∈ l) (hb : b ∈ l) (e : a.id = b.id) : a = b := by
  induction l with
  | nil => cases ha
  | cons x l ih =>
    unfold Apart at h
    rw [List.pairwise_cons] at h
    rcases List.mem_cons.1 ha with e1 | ha'
    · rcases List.mem_cons.1 hb with e2 | hb'
      · rw [e1, e2]
      · subst e1
        exact absurd e (h.1 b hb')
    · rcases List.mem_cons.1 hb with e2 | hb'
      · subst e2
        exact absurd e.symm (h.1 a ha')
      · exact ih h.2 ha' hb'
theorem Fit.perm (h : Fit p l) (hp : l.Perm m) : Fit p m := fun z hz => h z (hp.mem_iff.2 hz)

theorem sumV_app (a b : List VZ) : sumV (a ++ b) = sumV a + sumV b := by
  induction a with
  | nil => simp [sumV]
  | cons x a ih => simp only [List.cons_append, sumV, ih]; omega
theorem sumV_perm (h : l.Perm m) : sumV l = sumV m := by
  induction h with
  | nil => rfl
  | cons x _ ih => simp only [sumV, ih]
  | swap x y l => simp only [sumV]; omega
  | trans _ _ h1 h2 => rw [h1, h2]
theorem sumV_nonneg (h : Fit p l) : 0 ≤ sumV l := by
  induction l with
  | nil => simp [sumV]
  | cons x l ih =>
    have h1 := h x (by simp)
    have h2 := ih (fun z hz => h z (by simp [hz]))
    simp only [sumV]
    omega
theorem sumV_le (h : Fit p l) : sumV l ≤ l.length * p := by
  induction l with
  | nil => simp [sumV]
  | cons x l ih =>
    have h1 := h x (by simp)
    have h2 := ih (fun z hz => h z (by simp [hz]))
    simp only [sumV, List.length_cons]
    rw [Int.natCast_add, Int.add_mul]
    omega
end

section
variable {pol p : Int} {a b c : VZ}
theorem prod_trans (ha : 0 ≤ a.v) (hb : 0 ≤ b.v) (hc : 0 ≤ c.v) (h1 : prod p b a ≤ prod p a b) (h2 : prod p c b ≤ prod p b c) : prod p c a ≤ prod p a c := by
  unfold prod at *
  generalize ((a.age : Int) + 1) * (p - a.v) = na at *
  generalize ((b.age : Int) + 1) * (p - b.v) = nb at *
  generalize ((c.age : Int) + 1) * (p - c.v) = nc at *
  have ea : 0 < a.v + 1 := by omega
  have eb : 0 < b.v + 1 := by omega
  have ec : 0 < c.v + 1 := by omega
  generalize a.v + 1 = da at *
  generalize b.v + 1 = db at *
  generalize c.v + 1 = dc at *
  have k1 : nb * da * dc ≤ na * db * dc := Int.mul_le_mul_of_nonneg_right h1 (by omega)
  have k2 : nc * db * da ≤ nb * dc * da := Int.mul_le_mul_of_nonneg_right h2 (by omega)
  have e1 : nb * da * dc = nb * dc * da := by rw [Int.mul_assoc, Int.mul_comm da dc, ← Int.mul_assoc]
  have e2 : nc * db * da = nc * da * db := by rw [Int.mul_assoc, Int.mul_comm db da, ← Int.mul_assoc]
  have e3 : na * db * dc = na * dc * db := by rw [Int.mul_assoc, Int.mul_comm db dc, ← Int.mul_assoc]
  have k3 : nc * da * db ≤ na * dc * db := by omega
  exact Int.le_of_mul_le_mul_right k3 eb
/-- One stands ahead of another one, or that one of it. -/
theorem ahead_or (h : a.id ≠ b.id) : ahead pol p a b = true ∨ ahead pol p b a = true := by
  unfold ahead
  split
  · by_cases e : a.v = b.v
    · rw [if_pos e, if_pos e.symm]; simp; omega
    · rw [if_neg e, if_neg (fun x => e x.symm)]; simp; omega
  · by_cases e : prod p a b = prod p b a
    · rw [if_pos e, if_pos e.symm]; simp; omega
    · rw [if_neg e, if_neg (fun x => e x.symm)]; simp; omega
theorem ahead_asym (h : ahead pol p a b = true) : ahead pol p b a = false := by
  unfold ahead at *
  by_cases h0 : pol = 0
  · rw [if_pos h0] at *
    by_cases e : a.v = b.v
    · rw [if_pos e] at h
      rw [if_pos e.symm]
      simp at h ⊢
      omega
    · rw [if_neg e] at h
      rw [if_neg (fun x => e x.symm)]
      simp at h ⊢
      omega
  · rw [if_neg h0] at *
    by_cases e : prod p a b = prod p b a
    · rw [if_pos e] at h
      rw [if_pos e.symm]
      simp at h ⊢
      omega
    · rw [if_neg e] at h
      rw [if_neg (fun x => e x.symm)]
      simp at h ⊢
      omega
theorem ahead_trans (ha : 0 ≤ a.v) (hb : 0 ≤ b.v) (hc : 0 ≤ c.v) (h1 : ahead pol p a b = true) (h2 : ahead pol p b c = true) : ahead pol p a c = true := by
  unfold ahead at *
  by_cases h0 : pol = 0
  · rw [if_pos h0] at *
    by_cases e : a.v = b.v
    · rw [if_pos e] at h1
      by_cases e2 : b.v = c.v
      · rw [if_pos e2] at h2
        rw [if_pos (e.trans e2)]
        simp at *
        omega
      · rw [if_neg e2] at h2
        rw [if_neg (by omega)]
        simp at *
        omega
    · rw [if_neg e] at h1
      by_cases e2 : b.v = c.v
      · rw [if_pos e2] at h2
        rw [if_neg (by omega)]
        simp at *
        omega
      · rw [if_neg e2] at h2
        simp at h1 h2
        rw [if_neg (by omega)]
        simp
        omega
  · rw [if_neg h0] at *
    have le1 : prod p b a ≤ prod p a b := by
      by_cases e : prod p a b = prod p b a
      · omega
      · rw [if_neg e] at h1
        simp at h1
        omega
    have le2 : prod p c b ≤ prod p b c := by
      by_cases e : prod p b c = prod p c b
      · omega
      · rw [if_neg e] at h2
        simp at h2
        omega
    have le3 := prod_trans ha hb hc le1 le2
    by_cases e : prod p a c = prod p c a
    · rw [if_pos e]
      have k1 := prod_trans hb hc ha le2 (by omega : prod p a c ≤ prod p c a)
      have k2 := prod_trans hc ha hb (by omega : prod p a c ≤ prod p c a) le1
      rw [if_pos (by omega)] at h1
      rw [if_pos (by omega)] at h2
      simp at *
      omega
    · rw [if_neg e]
      simp
      omega
theorem ahead_v (h : ahead 0 p a b = true) : a.v ≤ b.v := by
  unfold ahead at h
  rw [if_pos rfl] at h
  split at h
  · omega
  · simp at h
    omega
end

section
variable {pol p : Int} {l m : List VZ}
theorem ins_perm (out : List VZ) (x : VZ) : (insZ pol p out x).Perm (x :: out) := by
  unfold insZ
  have h : (out.takeWhile (fun y => ahead pol p y x) ++ x :: out.dropWhile (fun y => ahead pol p y x)).Perm (x :: (out.takeWhile (fun y => ahead pol p y x) ++ out.dropWhile (fun y => ahead pol p y x))) := List.perm_middle
  rw [List.takeWhile_append_dropWhile] at h
  exact h
theorem fold_perm : ∀ (l out : List VZ), (l.foldl (insZ pol p) out).Perm (l ++ out)
  | [], _ => List.Perm.refl _
  | x :: l, out => (fold_perm l _).trans (((ins_perm out x).append_left l).trans List.perm_middle)
theorem sort_perm : (sortZ pol p l).Perm l := by
  have := fold_perm (pol := pol) (p := p) l []
  rwa [List.append_nil] at this
/-- In order. -/
def InOrd (pol p : Int) (o : List VZ) : Prop := o.Pairwise (fun a b => ahead pol p a b = true)
theorem ins_ord {out : List VZ} {x : VZ} (h : InOrd pol p out) (hv : ∀ z ∈ x :: out, 0 ≤ z.v) (hx : ∀ z ∈ out, z.id ≠ x.id) : InOrd pol p (insZ pol p out x) := by
  induction out with
  | nil => simp [insZ, InOrd]
  | cons y out ih =>
    unfold InOrd at h
    rw [List.pairwise_cons] at h
    have hyx := hx y (by simp)
    have h0y := hv y (by simp)
    have h0x := hv x (by simp)
    cases hay : ahead pol p y x with
    | true =>
      have e : insZ pol p (y :: out) x = y :: insZ pol p out x := by simp [insZ, hay]
      rw [e]
      have ih' := ih h.2 (fun z hz => hv z (by simp only [List.mem_cons] at hz ⊢; rcases hz with h | h; exact .inl h; exact .inr (.inr h))) (fun z hz => hx z (by simp [hz]))
      unfold InOrd
      rw [List.pairwise_cons]
      refine ⟨fun z hz => ?_, ih'⟩
      rcases List.mem_cons.1 ((ins_perm out x).mem_iff.1 hz) with rfl | hz
      · exact hay
      · exact h.1 z hz
    | false =>
      have e : insZ pol p (y :: out) x = x :: y :: out := by simp [insZ, hay]
      rw [e]
      have hxy : ahead pol p x y = true := (ahead_or (a := x) (b := y) (fun e => hyx e.symm)).elim (fun h' => h') (fun h' => by rw [hay] at h'; cases h')
      unfold InOrd
      rw [List.pairwise_cons, List.pairwise_cons]
      refine ⟨fun z hz => ?_, h⟩
      rcases List.mem_cons.1 hz with rfl | hz
      · exact hxy
      · exact ahead_trans h0x h0y (hv z (by simp [hz])) hxy (h.1 z hz)
theorem fold_ord : ∀ (l out : List VZ), InOrd pol p out → (∀ z ∈ l ++ out, 0 ≤ z.v) → Apart (l ++ out) → InOrd pol p (l.foldl (insZ pol p) out)
  | [], _, h, _, _ => h
  | x :: l, out, h, hv, ha => by
    have ha' : Apart (l ++ x :: out) := ha.perm List.perm_middle.symm
    have hax := ha'
    unfold Apart at hax
    rw [List.pairwise_append, List.pairwise_cons] at hax
    refine fold_ord l _ (ins_ord h (fun z hz => hv z (by simp only [List.mem_cons, List.cons_append, List.mem_append] at hz ⊢; rcases hz with h | h; exact .inl h; exact .inr (.inr h))) (fun z hz e => hax.2.1.1 z hz e.symm)) ?_ ?_
    · intro z hz
      rw [List.mem_append] at hz
      rcases hz with hz | hz
      · exact hv z (by simp [hz])
      · exact hv z (by rcases List.mem_cons.1 ((ins_perm out x).mem_iff.1 hz) with rfl | h; simp; simp [h])
    · exact ha'.perm ((ins_perm out x).symm.append_left l)
theorem sort_ord (hf : Fit p l) (ha : Apart l) : InOrd pol p (sortZ pol p l) :=
  fold_ord l [] List.Pairwise.nil (fun z hz => (hf z (by simpa using hz)).2.1) (by simpa using ha)
/-- Two orders of the same are one. -/
theorem ord_one : ∀ {a b : List VZ}, InOrd pol p a → InOrd pol p b → a.Perm b → a = b
  | [], b, _, _, h => (List.perm_nil.1 h.symm).symm ▸ rfl
  | x :: a, [], _, _, h => by have := h.length_eq; simp at this
  | x :: a, y :: b, ha, hb, h => by
    unfold InOrd at ha hb
    rw [List.pairwise_cons] at ha hb
    have e : x = y := by
      rcases List.mem_cons.1 (h.mem_iff.1 (by simp : x ∈ x :: a)) with e | hx
      · exact e
      · rcases List.mem_cons.1 (h.mem_iff.2 (by simp : y ∈ y :: b)) with e | hy
        · exact e.symm
        · have h1 := ahead_asym (hb.1 x hx)
          rw [ha.1 y hy] at h1
          cases h1
    subst e
    rw [ord_one ha.2 hb.2 (List.Perm.cons_inv h)]
theorem sort_is {o : List VZ} (hf : Fit p l) (ha : Apart l) (ho : InOrd pol p o) (hp : o.Perm l) : o = sortZ pol p l :=
  ord_one ho (sort_ord hf ha) (hp.trans sort_perm.symm)
theorem sort_same (hf : Fit p l) (ha : Apart l) (h : m.Perm l) : sortZ pol p m = sortZ pol p l :=
  sort_is hf ha (sort_ord (hf.perm h.symm) (ha.perm h.symm)) (sort_perm.trans h)
theorem choose_same {extra : Int} (hf : Fit p l) (ha : Apart l) (h : m.Perm l) : chooseL pol p extra m = chooseL pol p extra l := by
  unfold chooseL
  rw [sort_same hf ha h, sort_same (pol := 0) hf ha h]
end

/-- What may be found. -/
theorem pick_some {p extra : Int} {o : List VZ} {i : Nat} (h : pickK p extra o = some i) : i < o.length ∧ gain p extra o (i + 1) = true ∧ ∀ j < i, gain p extra o (j + 1) = false := by
  unfold pickK at h
  rw [List.find?_range_eq_some] at h
  obtain ⟨h1, h2, h3⟩ := h
  rw [List.mem_range] at h2
  exact ⟨h2, h1, fun j hj => by simpa using h3 j hj⟩
theorem pick_none {p extra : Int} {o : List VZ} (h : pickK p extra o = none) : ∀ i < o.length, gain p extra o (i + 1) = false := by
  unfold pickK at h
  intro i hi
  rw [List.find?_eq_none] at h
  simpa using h i (List.mem_range.2 hi)
/-- What is chosen is a beginning of some order that gains. -/
theorem choose_some {pol p extra : Int} {l : List VZ} (h : chooseL pol p extra l ≠ []) : ∃ (q : Int) (i : Nat), i < l.length ∧ chooseL pol p extra l = ids ((sortZ q p l).take (i + 1)) ∧ gain p extra (sortZ q p l) (i + 1) = true := by
  unfold chooseL at *
  cases hk : pickK p extra (sortZ pol p l) with
  | some i =>
    obtain ⟨h1, h2, _⟩ := pick_some hk
    exact ⟨pol, i, by rw [sort_perm.length_eq] at h1; exact h1, rfl, h2⟩
  | none =>
    rw [hk] at h
    simp only at h ⊢
    by_cases h0 : pol = 0
    · rw [if_pos h0] at h
      exact absurd rfl h
    · rw [if_neg h0] at h ⊢
      unfold pickL at *
      cases hk2 : pickK p extra (sortZ 0 p l) with
      | none => rw [hk2] at h; exact absurd rfl h
      | some i =>
        obtain ⟨h1, h2, _⟩ := pick_some hk2
        exact ⟨0, i, by rw [sort_perm.length_eq] at h1; exact h1, rfl, h2⟩
theorem choose_none {pol p extra : Int} {l : List VZ} (h : chooseL pol p extra l = []) : ∀ i < l.length, gain p extra (sortZ 0 p l) (i + 1) = false := by
  have hne : ∀ {q : Int} {i : Nat}, i < l.length → ids ((sortZ q p l).take (i + 1)) ≠ [] := fun {q i} hi e => by
    have h1 := congrArg List.length e
    have h2 := (sort_perm (pol := q) (p := p) (l := l)).length_eq
    simp [ids] at h1
    rcases h1 with h1
    have : (sortZ q p l).length = 0 := by rw [h1]; rfl
    omega
  unfold chooseL at h
  cases hk : pickK p extra (sortZ pol p l) with
  | some i =>
    rw [hk] at h
    have h1 := (pick_some hk).1
    rw [sort_perm.length_eq] at h1
    exact absurd h (hne h1)
  | none =>
    rw [hk] at h
    simp only at h
    by_cases h0 : pol = 0
    · subst h0
      intro i hi
      exact pick_none hk i (by rw [sort_perm.length_eq]; exact hi)
    · rw [if_neg h0] at h
      unfold pickL at h
      cases hk2 : pickK p extra (sortZ 0 p l) with
      | none => exact fun i hi => pick_none hk2 i (by rw [sort_perm.length_eq]; exact hi)
      | some i =>
        rw [hk2] at h
        have h1 := (pick_some hk2).1
        rw [sort_perm.length_eq] at h1
        exact absurd h (hne h1)

theorem choose_len {pol p extra : Int} {l : List VZ} {n : Nat} (hn : n ≤ 24) (hl : l.length = n) : (chooseL pol p extra l).length ≤ 24 := by
  have h : ∀ (q : Int) (i : Nat), (ids ((sortZ q p l).take i)).length ≤ 24 := fun q i => by
    unfold ids
    rw [List.length_map, List.length_take, sort_perm.length_eq, hl]
    omega
  unfold chooseL
  split
  · exact h _ _
  · split
    · simp
    · unfold pickL
      split
      · exact h _ _
      · simp
theorem need_le {p n k : Int} (hp : 0 < p) (h : n ≤ k * p) : need p n ≤ k := by
  unfold need
  have : n + p - 1 < (k + 1) * p := by rw [Int.add_mul]; omega
  have := Int.ediv_lt_of_lt_mul hp this
  omega
theorem need_mono {p n k : Int} (hp : 0 < p) (h : n ≤ k) : need p n ≤ need p k := by
  unfold need
  exact Int.ediv_le_ediv hp (by omega)
theorem gain_mono {p e : Int} {o o2 : List VZ} {k : Nat} (hp : 0 < p) (h : sumV (o2.take k) ≤ sumV (o.take k)) (hg : gain p e o k = true) : gain p e o2 k = true := by
  unfold gain at *
  simp only [decide_eq_true_eq] at *
  have := need_mono hp (show e + sumV (o2.take k) ≤ e + sumV (o.take k) by omega)
  omega

/-- By rising live pages. -/
def Up (o : List VZ) : Prop := o.Pairwise (fun a b => a.v ≤ b.v)
theorem ord_up {p : Int} {o : List VZ} (h : InOrd 0 p o) : Up o := List.Pairwise.imp (fun h => ahead_v h) h
/-- The first ones are the fewest. -/
theorem first_least : ∀ {s t r : List VZ}, Up s → s.Perm (t ++ r) → sumV (s.take t.length) ≤ sumV t
  | [], t, r, _, h => by
    have := h.length_eq
    simp at this
    have ht : t = [] := List.eq_nil_of_length_eq_zero (by omega)
    subst ht
    simp [sumV]
  | x :: s, t, r, hu, h => by
    unfold Up at hu
    rw [List.pairwise_cons] at hu
    by_cases hx : x ∈ t
    · obtain ⟨t1, t2, rfl⟩ := List.append_of_mem hx
      have h1 : (x :: s).Perm (x :: (t1 ++ t2 ++ r)) := h.trans (by
        have : (t1 ++ x :: t2).Perm (x :: (t1 ++ t2)) := List.perm_middle
        exact (this.append_right r))
      have h2 := first_least hu.2 (List.Perm.cons_inv h1)
      have e : (t1 ++ x :: t2).length = (t1 ++ t2).length + 1 := by simp; omega
      rw [e, List.take_succ_cons]
      have e2 := sumV_perm (show (t1 ++ x :: t2).Perm (x :: (t1 ++ t2)) from List.perm_middle)
      rw [e2]
      simp only [sumV]
      omega
    · match t, h, hx with
      | [], h, _ => simp [sumV]
      | y :: t, h, hx =>
        have hr : x ∈ r := by
          have := h.mem_iff.1 (by simp : x ∈ x :: s)
          rw [List.mem_append] at this
          exact this.resolve_left hx
        have hxy : x.v ≤ y.v := by
          rcases List.mem_cons.1 (h.mem_iff.2 (by simp : y ∈ y :: t ++ r)) with e | hy
          · rw [e]; exact Int.le_refl _
          · exact hu.1 y hy
        obtain ⟨r1, r2, rfl⟩ := List.append_of_mem hr
        have h1 : (x :: s).Perm (x :: (t ++ (y :: (r1 ++ r2)))) := h.trans (by
          have e1 : (y :: t ++ (r1 ++ x :: r2)).Perm (y :: t ++ (x :: (r1 ++ r2))) := (List.perm_middle).append_left (y :: t)
          have e2 : (y :: t ++ (x :: (r1 ++ r2))).Perm (x :: (y :: t ++ (r1 ++ r2))) := List.perm_middle
          have e3 : (x :: (y :: t ++ (r1 ++ r2))).Perm (x :: (t ++ (y :: (r1 ++ r2)))) := (List.perm_middle.symm).cons x
          exact e1.trans (e2.trans e3))
        have h2 := first_least hu.2 (List.Perm.cons_inv h1)
        rw [List.length_cons, List.take_succ_cons]
        simp only [sumV]
        omega
/-- All of the zones behind the first four have as many live pages as these, each. -/
theorem rest_ge {t : Int} : ∀ {s : List VZ}, (∀ z ∈ s, t ≤ z.v) → (s.length : Int) * t ≤ sumV s
  | [], _ => by simp [sumV]
  | z :: s, h => by
    have h1 := h z (by simp)
    have h2 := rest_ge (s := s) (fun y hy => h y (by simp [hy]))
    simp only [sumV, List.length_cons]
    rw [Int.natCast_add, Int.add_mul]
    omega
theorem four_least {s : List VZ} (hu : Up s) (h4 : 4 ≤ s.length) : (s.length : Int) * sumV (s.take 4) ≤ 4 * sumV s := by
  match s, hu, h4 with
  | a :: b :: c :: d :: s, hu, _ =>
    unfold Up at hu
    simp only [List.pairwise_cons] at hu
    have hr := rest_ge (t := d.v) (s := s) hu.2.2.2.1
    have h1 := hu.1 d (by simp)
    have h2 := hu.2.1 d (by simp)
    have h3 := hu.2.2.1 d (by simp)
    simp only [List.take_succ_cons, List.take_zero, sumV, List.length_cons]
    have hn : (0 : Int) ≤ (s.length : Int) := by omega
    have k1 : (s.length : Int) * (a.v + (b.v + (c.v + (d.v + 0)))) ≤ (s.length : Int) * (4 * d.v) := Int.mul_le_mul_of_nonneg_left (by omega) hn
    have k2 : (s.length : Int) * (4 * d.v) = 4 * ((s.length : Int) * d.v) := by rw [← Int.mul_assoc, Int.mul_comm (s.length : Int) 4, Int.mul_assoc]
    rw [show (((s.length + 1 + 1 + 1 + 1 : Nat)) : Int) = (s.length : Int) + 4 by omega, Int.add_mul]
    omega
/-- Where half is live there is a choice. -/
theorem half_gain {p extra : Int} {l : List VZ} (hp : 1 ≤ p) (hf : Fit p l) (ha : Apart l) (he : extra ≤ p) (h4 : 4 ≤ l.length) (hh : 2 * sumV l ≤ (l.length : Int) * p) : gain p extra (sortZ 0 p l) 4 = true := by
  have hlen := (sort_perm (pol := 0) (p := p) (l := l)).length_eq
  have hu := ord_up (sort_ord (pol := 0) hf ha)
  have h1 := four_least hu (by omega)
  rw [hlen, sumV_perm (sort_perm (pol := 0) (p := p) (l := l))] at h1
  unfold gain
  simp only [decide_eq_true_eq]
  generalize sumV ((sortZ 0 p l).take 4) = s4 at *
  have hn : (0 : Int) < (l.length : Int) := by omega
  have h2 : (l.length : Int) * s4 ≤ (l.length : Int) * (2 * p) := by
    have : (l.length : Int) * (2 * p) = 2 * ((l.length : Int) * p) := by rw [← Int.mul_assoc, Int.mul_comm (l.length : Int) 2, Int.mul_assoc]
    omega
  have h3 : s4 ≤ 2 * p := Int.le_of_mul_le_mul_left h2 hn
  have h5 : need p (extra + s4) ≤ 3 := need_le (by omega) (by omega)
  exact ⟨by omega, h5⟩
/-- Some function tells each of the others. -/
theorem map_of : ∀ {l m : List VZ}, l.Nodup → m.length = l.length → ∃ f : VZ → VZ, l.map f = m
  | [], m, _, h => ⟨fun z => z, by have := List.eq_nil_of_length_eq_zero h; rw [this]; rfl⟩
  | x :: l, [], _, h => by simp at h
  | x :: l, y :: m, hn, h => by
    rw [List.nodup_cons] at hn
    obtain ⟨f, hf⟩ := map_of hn.2 (by simpa using h)
    refine ⟨fun z => if z = x then y else f z, ?_⟩
    rw [List.map_cons, if_pos rfl]
    congr 1
    rw [← hf]
    exact List.map_congr_left fun z hz => if_neg (fun (e : z = x) => hn.1 (e ▸ hz))
theorem sum_map_le {f : VZ → VZ} : ∀ {t : List VZ}, (∀ z ∈ t, (f z).v ≤ z.v) → sumV (t.map f) ≤ sumV t
  | [], _ => by simp [sumV]
  | z :: t, h => by
    have h1 := h z (by simp)
    have h2 := sum_map_le (f := f) (t := t) (fun y hy => h y (by simp [hy]))
    simp only [List.map_cons, sumV]
    omega
/-- With fewer live pages the first ones have fewer. -/
theorem ease_sum {p : Int} {l m : List VZ} (ha : Apart l) (hfm : Fit p m) (ham : Apart m) (hl : m.length = l.length) (hle : ∀ i (h : i < l.length), (m[i]'(by omega)).v ≤ l[i].v) (k : Nat) : sumV ((sortZ 0 p m).take k) ≤ sumV ((sortZ 0 p l).take k) := by
  obtain ⟨f, hm⟩ := map_of ha.nodup hl
  have hfle : ∀ z ∈ l, (f z).v ≤ z.v := by
    intro z hz
    obtain ⟨i, hi, rfl⟩ := List.getElem_of_mem hz
    have := hle i hi
    have e : m[i]'(by omega) = f l[i] := by
      have : ∀ (h : i < m.length), m[i] = f l[i] := by
        rw [← hm]
        intro h
        rw [List.getElem_map]
      exact this _
    rw [e] at this
    exact this
  by_cases hk : k ≤ (sortZ 0 p l).length
  · have hlen : ((sortZ 0 p l).take k |>.map f).length = k := by rw [List.length_map, List.length_take]; omega
    have hp : (sortZ 0 p m).Perm (((sortZ 0 p l).take k).map f ++ ((sortZ 0 p l).drop k).map f) := by
      rw [← List.map_append, List.take_append_drop]
      refine sort_perm.trans ?_
      rw [← hm]
      exact (sort_perm.symm).map f
    have h1 := first_least (ord_up (sort_ord hfm ham)) hp
    rw [hlen] at h1
    refine Int.le_trans h1 (sum_map_le fun z hz => hfle z ?_)
    exact sort_perm.mem_iff.1 (List.mem_of_mem_take hz)
  · have e1 : (sortZ 0 p l).take k = sortZ 0 p l := List.take_of_length_le (by omega)
    have e2 : (sortZ 0 p m).take k = sortZ 0 p m := List.take_of_length_le (by rw [sort_perm.length_eq, hl, ← (sort_perm (pol := 0) (p := p) (l := l)).length_eq]; omega)
    rw [e1, e2, sumV_perm sort_perm, sumV_perm sort_perm, ← hm]
    exact sum_map_le hfle
/-- .. and no more of them are chosen. -/
theorem ease_choose {p extra : Int} {l m : List VZ} (hp : 1 ≤ p) (ha : Apart l) (hfm : Fit p m) (ham : Apart m) (hl : m.length = l.length) (hle : ∀ i (h : i < l.length), (m[i]'(by omega)).v ≤ l[i].v) (hw : chooseL 0 p extra l ≠ []) : chooseL 0 p extra m ≠ [] ∧ (chooseL 0 p extra m).length ≤ (chooseL 0 p extra l).length := by
  have hs := ease_sum ha hfm ham hl hle
  have e : ∀ x : List VZ, chooseL 0 p extra x = match pickK p extra (sortZ 0 p x) with | some i => ids ((sortZ 0 p x).take (i + 1)) | none => [] := fun x => by
    unfold chooseL
    rw [if_pos rfl]
  rw [e] at hw ⊢
  rw [e l]
  cases hk : pickK p extra (sortZ 0 p l) with
  | none => rw [hk] at hw; exact absurd rfl hw
  | some i =>
    obtain ⟨h1, h2, _⟩ := pick_some hk
    have h3 := gain_mono (by omega : (0 : Int) < p) (hs (i + 1)) h2
    have e1 := (sort_perm (pol := 0) (p := p) (l := l)).length_eq
    have e2 := (sort_perm (pol := 0) (p := p) (l := m)).length_eq
    cases hk2 : pickK p extra (sortZ 0 p m) with
    | none =>
      have := pick_none hk2 i (by omega)
      rw [h3] at this
      cases this
    | some j =>
      obtain ⟨g1, g2, g3⟩ := pick_some hk2
      have hji : j ≤ i := by
        apply Classical.byContradiction
        intro hn
        have := g3 i (by omega)
        rw [h3] at this
        cases this
      simp only
      refine ⟨fun e => ?_, ?_⟩
      · have := congrArg List.length e
        simp [ids] at this
        rw [this] at g1
        simp at g1
      · simp only [ids, List.length_map, List.length_take]
        omega
end VZ
end Go.Proofs.Ytndapbfaaglcgaa
