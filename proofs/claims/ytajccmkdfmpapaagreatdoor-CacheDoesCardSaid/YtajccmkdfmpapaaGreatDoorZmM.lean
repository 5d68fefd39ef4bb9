/-
  Rows in another order, sorted rows, heaps, parted rows. Plain mathematics.
  A row of 32-bit numbers in memory that is sorted: cmp.Less, insertionSortOrdered, reverseRangeOrdered.
-/
import Derived.Test.YtajccmkdfmpapaaGreatDoorLruMath
import Derived.Test.YtajccmkdfmpapaaGreatDoorZmC
import Derived.BigQuiet
import Derived.Deep.QuietTactic
namespace Go.Proofs.YtajccmkdfmpapaaGreatDoor

/-- D' is D, put in another order between a and b. -/
def Pm (a b : Nat) (D D' : Nat → Nat) : Prop := ∃ σ τ : Nat → Nat, (∀ i, σ (τ i) = i) ∧ (∀ i, τ (σ i) = i) ∧ (∀ i, ¬ (a ≤ i ∧ i < b) → σ i = i) ∧ ∀ i, D' i = D (σ i)
def Srt (a b : Nat) (D : Nat → Nat) : Prop := ∀ i j, a ≤ i → i < j → j < b → D i ≤ D j
/-- What stands ahead of a is less than what stands from a to b. -/
def Lo (a b : Nat) (D : Nat → Nat) : Prop := a = 0 ∨ ∀ i, a ≤ i → i < b → D (a - 1) < D i
def Inj (n : Nat) (D : Nat → Nat) : Prop := ∀ i j, i < n → j < n → D i = D j → i = j
def swp (D : Nat → Nat) (i j : Nat) : Nat → Nat := upd (upd D i (D j)) j (D i)
theorem swp_r (D : Nat → Nat) (i j : Nat) : swp D i j j = D i := by simp [swp, upd]
theorem swp_l (D : Nat → Nat) (i j : Nat) : swp D i j i = D j := by
  unfold swp upd
  by_cases h : i = j
  · simp [h]
  · simp [h]
theorem swp_o {D : Nat → Nat} {i j k : Nat} (h1 : k ≠ i) (h2 : k ≠ j) : swp D i j k = D k := by simp [swp, upd, h1, h2]
theorem swp_at (D : Nat → Nat) (i j k : Nat) : swp D i j k = D (if k = i then j else if k = j then i else k) := by
  by_cases h1 : k = i
  · subst h1
    simp [swp_l]
  · by_cases h2 : k = j
    · subst h2
      simp [swp_r, h1]
    · simp [swp_o h1 h2, h1, h2]
namespace Pm
variable {a b : Nat} {D D' E : Nat → Nat}
theorem refl (a b : Nat) (D : Nat → Nat) : Pm a b D D := ⟨id, id, fun _ => rfl, fun _ => rfl, fun _ _ => rfl, fun _ => rfl⟩
theorem trans (h : Pm a b D D') (k : Pm a b D' E) : Pm a b D E := by
  obtain ⟨s, t, h1, h2, h3, h4⟩ := h
  obtain ⟨s', t', k1, k2, k3, k4⟩ := k
  refine ⟨fun i => s (s' i), fun i => t' (t i), fun i => ?_, fun i => ?_, fun i hi => ?_, fun i => ?_⟩
  · show s (s' (t' (t i))) = i
    rw [k1, h1]
  · show t' (t (s (s' i))) = i
    rw [h2, k2]
  · show s (s' i) = i
    rw [k3 i hi, h3 i hi]
  · rw [k4, h4]
theorem mono {a' b' : Nat} (h : Pm a b D D') (ha : a' ≤ a) (hb : b ≤ b') : Pm a' b' D D' := by
  obtain ⟨s, t, h1, h2, h3, h4⟩ := h
  exact ⟨s, t, h1, h2, fun i hi => h3 i (by omega), h4⟩
theorem swap {i j : Nat} (hi : a ≤ i ∧ i < b) (hj : a ≤ j ∧ j < b) : Pm a b D (swp D i j) := by
  refine ⟨fun k => if k = i then j else if k = j then i else k, fun k => if k = i then j else if k = j then i else k, ?_, ?_, fun k hk => ?_, fun k => swp_at D i j k⟩
  · intro k
    by_cases h1 : k = i
    · subst h1
      by_cases h2 : j = k <;> simp [h2]
    · by_cases h2 : k = j
      · subst h2
        simp
      · simp [h1, h2]
  · intro k
    by_cases h1 : k = i
    · subst h1
      by_cases h2 : j = k <;> simp [h2]
    · by_cases h2 : k = j
      · subst h2
        simp
      · simp [h1, h2]
  · have h1 : k ≠ i := by omega
    have h2 : k ≠ j := by omega
    simp [h1, h2]
/-- Where each one comes from. -/
theorem src (h : Pm a b D D') {i : Nat} (hi : a ≤ i ∧ i < b) : ∃ j, (a ≤ j ∧ j < b) ∧ D' i = D j := by
  obtain ⟨s, t, h1, h2, h3, h4⟩ := h
  refine ⟨s i, ?_, h4 i⟩
  apply Classical.byContradiction
  intro hn
  have := h3 (s i) hn
  have e := congrArg t this
  rw [h2, h2] at e
  rw [e] at hn
  exact hn hi
theorem out (h : Pm a b D D') {i : Nat} (hi : ¬ (a ≤ i ∧ i < b)) : D' i = D i := by
  obtain ⟨s, t, h1, h2, h3, h4⟩ := h
  rw [h4, h3 i hi]
theorem symm (h : Pm a b D D') : Pm a b D' D := by
  obtain ⟨s, t, h1, h2, h3, h4⟩ := h
  refine ⟨t, s, h2, h1, fun i hi => ?_, fun i => ?_⟩
  · have := h3 i hi
    have e := congrArg t this
    rw [h2] at e
    exact e.symm
  · rw [h4, h1]
theorem inj {n : Nat} (h : Pm a b D D') (hn : b ≤ n) (hi : Inj n D) : Inj n D' := by
  have hl : ∀ i, i < n → ∀ s t : Nat → Nat, (∀ i, t (s i) = i) → (∀ i, ¬ (a ≤ i ∧ i < b) → s i = i) → s i < n := fun i hin s t h2 h3 => by
    apply Classical.byContradiction
    intro hx
    have := h3 (s i) (by omega)
    have e := congrArg t this
    rw [h2, h2] at e
    omega
  obtain ⟨s, t, h1, h2, h3, h4⟩ := h
  intro i j hin hjn e
  rw [h4, h4] at e
  have := hi (s i) (s j) (hl i hin s t h2 h3) (hl j hjn s t h2 h3) e
  have e := congrArg t this
  rwa [h2, h2] at e
theorem lo (h : Pm a b D D') (hl : Lo a b D) : Lo a b D' := by
  rcases hl with rfl | hl
  · exact .inl rfl
  · by_cases ha : a = 0
    · exact .inl ha
    · refine .inr fun i h1 h2 => ?_
      obtain ⟨j, hj, e⟩ := h.src ⟨h1, h2⟩
      rw [h.out (i := a - 1) (by omega), e]
      exact hl j hj.1 hj.2
end Pm
theorem Lo.left {a b b' : Nat} {D : Nat → Nat} (h : Lo a b D) (hb : b' ≤ b) : Lo a b' D := h.imp id fun h i h1 h2 => h i h1 (by omega)

/-- From a to i, but for what stands at j, all is sorted; what stands at j is no more than what stands behind. -/
def InsI (D : Nat → Nat) (a i j : Nat) : Prop := ∀ p q, a ≤ p → p < q → q ≤ i → q ≠ j → D p ≤ D q
theorem InsI.start {D : Nat → Nat} {a i : Nat} (h : Srt a i D) : InsI D a i i := fun p q h1 h2 h3 h4 => h p q h1 h2 (by omega)
theorem InsI.step {D : Nat → Nat} {a i j : Nat} (h : InsI D a i j) (hj : a < j) (hi : j ≤ i) (hlt : D j < D (j - 1)) : InsI (swp D j (j - 1)) a i (j - 1) := by
  intro p q h1 h2 h3 h4
  by_cases hq : q = j
  · subst hq
    rw [swp_l]
    by_cases hp : p = q - 1
    · subst hp
      rw [swp_r]
      omega
    · rw [swp_o (by omega) (by omega)]
      exact h p (q - 1) h1 (by omega) (by omega) (by omega)
  · rw [swp_o hq h4]
    by_cases hp : p = j
    · subst hp
      rw [swp_l]
      exact h (p - 1) q (by omega) (by omega) h3 hq
    · by_cases hp2 : p = j - 1
      · subst hp2
        rw [swp_r]
        exact h j q (by omega) (by omega) h3 hq
      · rw [swp_o hp hp2]
        exact h p q h1 h2 h3 hq
theorem InsI.done {D : Nat → Nat} {a i j : Nat} (h : InsI D a i j) (hj : a ≤ j) (hd : j = a ∨ D (j - 1) ≤ D j) : Srt a (i + 1) D := by
  intro p q h1 h2 h3
  by_cases hq : q = j
  · subst hq
    rcases hd with rfl | hd
    · omega
    · by_cases hp : p = q - 1
      · subst hp
        exact hd
      · exact Nat.le_trans (h p (q - 1) h1 (by omega) (by omega) (by omega)) hd
  · exact h p q h1 h2 (by omega) hq

/-- None is more than the one above it, from lo on, behind f. -/
def Hp (D : Nat → Nat) (f lo hi : Nat) : Prop := ∀ c, 1 ≤ c → c < hi → lo ≤ (c - 1) / 2 → D (f + c) ≤ D (f + (c - 1) / 2)
/-- .. but for those below r. -/
structure Sft (D : Nat → Nat) (f lo hi r : Nat) : Prop where
  ge : lo ≤ r
  ok : ∀ c, 1 ≤ c → c < hi → lo ≤ (c - 1) / 2 → (c - 1) / 2 ≠ r → D (f + c) ≤ D (f + (c - 1) / 2)
  up : ∀ c, 1 ≤ c → c < hi → (c - 1) / 2 = r → 1 ≤ r → lo ≤ (r - 1) / 2 → D (f + c) ≤ D (f + (r - 1) / 2)
theorem Sft.step {D : Nat → Nat} {f lo hi r c : Nat} (h : Sft D f lo hi r) (hc : c < hi) (h1 : 1 ≤ c) (hr : (c - 1) / 2 = r) (hlt : D (f + r) < D (f + c)) (hs : ∀ s, s < hi → 1 ≤ s → (s - 1) / 2 = r → D (f + s) ≤ D (f + c)) : Sft (swp D (f + r) (f + c)) f lo hi c := by
  have hlo := h.ge
  refine ⟨by omega, fun x hx1 hx hl hne => ?_, fun x hx1 hx hp _ _ => ?_⟩
  · by_cases hp : (x - 1) / 2 = r
    · rw [hp, swp_l]
      by_cases hxc : x = c
      · subst hxc
        rw [swp_r]
        omega
      · rw [swp_o (by omega) (by omega)]
        exact hs x hx hx1 hp
    · rw [swp_o (k := f + (x - 1) / 2) (by omega) (by omega)]
      by_cases hxr : x = r
      · subst hxr
        rw [swp_l]
        exact h.up c h1 hc hr hx1 hl
      · rw [swp_o (by omega) (by omega)]
        exact h.ok x hx1 hx hl hp
  · rw [hr, swp_l, swp_o (by omega) (by omega)]
    have := h.ok x hx1 hx (by omega) (by omega)
    rw [hp] at this
    exact this
theorem Sft.done {D : Nat → Nat} {f lo hi r : Nat} (h : Sft D f lo hi r) (hd : ∀ c, 1 ≤ c → c < hi → (c - 1) / 2 = r → D (f + c) ≤ D (f + r)) : Hp D f lo hi := by
  intro c h1 h2 h3
  by_cases e : (c - 1) / 2 = r
  · rw [e]
    exact hd c h1 h2 e
  · exact h.ok c h1 h2 h3 e
theorem Hp.sift {D : Nat → Nat} {f lo hi : Nat} (h : Hp D f (lo + 1) hi) : Sft D f lo hi lo := ⟨Nat.le_refl _, fun c h1 h2 h3 h4 => h c h1 h2 (by omega), fun c h1 h2 h3 h4 h5 => by omega⟩
theorem Hp.top {D : Nat → Nat} {f hi : Nat} (h : Hp D f 0 hi) : ∀ c, c < hi → D (f + c) ≤ D f := by
  intro c
  induction c using Nat.strongRecOn with
  | _ c ih =>
    intro hc
    by_cases h0 : c = 0
    · subst h0
      exact Nat.le_refl _
    · exact Nat.le_trans (h c (by omega) hc (by omega)) (ih ((c - 1) / 2) (by omega) (by omega))
theorem Hp.half {D : Nat → Nat} {f hi lo : Nat} (h : hi ≤ 2 * lo + 1) : Hp D f lo hi := fun c h1 h2 h3 => by omega
/-- The first m behind f are a heap, and those behind them, up to n, sorted, and no less. -/
structure HpS (D : Nat → Nat) (f m n : Nat) : Prop where
  hp : Hp D f 0 m
  st : ∀ p q, p < q → q < n → m ≤ q → D (f + p) ≤ D (f + q)
theorem HpS.swap {D : Nat → Nat} {f i n : Nat} (h : HpS D f (i + 1) n) : Sft (swp D f (f + i)) f 0 i 0 := by
  refine ⟨Nat.le_refl _, fun c h1 h2 _ h4 => ?_, fun c h1 h2 h3 h4 _ => by omega⟩
  rw [swp_o (by omega) (by omega), swp_o (by omega) (by omega)]
  exact h.hp c h1 (by omega) (by omega)
theorem HpS.next {D E : Nat → Nat} {f i n : Nat} (h : HpS D f (i + 1) n) (hp : Hp E f 0 i) (hm : Pm f (f + i) (swp D f (f + i)) E) : HpS E f i n := by
  have hE : ∀ p, p < i + 1 → ∃ q, q < i + 1 ∧ E (f + p) = D (f + q) := fun p hpi => by
    by_cases e : p = i
    · subst e
      refine ⟨0, by omega, ?_⟩
      rw [hm.out (by omega), swp_r]
      rfl
    · obtain ⟨j, hj, ej⟩ := hm.src (i := f + p) (by omega)
      by_cases e0 : j = f
      · subst e0
        exact ⟨i, by omega, by rw [ej, swp_l]⟩
      · refine ⟨j - f, by omega, ?_⟩
        rw [ej, swp_o e0 (by omega), show f + (j - f) = j by omega]
  refine ⟨hp, fun p q hpq hq hiq => ?_⟩
  by_cases e : q = i
  · subst e
    rw [hm.out (i := f + q) (by omega), swp_r]
    obtain ⟨x, hx, ex⟩ := hE p (by omega)
    rw [ex]
    exact h.hp.top x hx
  · rw [hm.out (i := f + q) (by omega), swp_o (by omega) (by omega)]
    by_cases hpi : p < i + 1
    · obtain ⟨x, hx, ex⟩ := hE p hpi
      rw [ex]
      exact h.st x q (by omega) hq (by omega)
    · rw [hm.out (i := f + p) (by omega), swp_o (by omega) (by omega)]
      exact h.st p q hpq hq (by omega)
theorem HpS.done {D : Nat → Nat} {f n : Nat} (h : HpS D f 0 n) : Srt f (f + n) D := fun p q h1 h2 h3 => by
  have := h.st (p - f) (q - f) (by omega) (by omega) (by omega)
  rwa [show f + (p - f) = p by omega, show f + (q - f) = q by omega] at this

/-- Up to i all are less than what stands at a, behind j none is. -/
structure PrI (D : Nat → Nat) (a b i j : Nat) : Prop where
  i1 : a + 1 ≤ i
  ij : i ≤ j + 1
  jb : j < b
  l : ∀ x, a + 1 ≤ x → x < i → D x < D a
  r : ∀ x, j < x → x < b → D a ≤ D x
theorem PrI.start {D : Nat → Nat} {a b : Nat} (h : a < b) : PrI D a b (a + 1) (b - 1) := ⟨Nat.le_refl _, by omega, by omega, fun x h1 h2 => by omega, fun x h1 h2 => by omega⟩
theorem PrI.right {D : Nat → Nat} {a b i j : Nat} (h : PrI D a b i j) (hij : i ≤ j) (hd : D i < D a) : PrI D a b (i + 1) j := ⟨by have := h.i1; omega, by omega, h.jb, fun x h1 h2 => by
  by_cases e : x = i
  · rw [e]
    exact hd
  · exact h.l x h1 (by omega), h.r⟩
theorem PrI.left {D : Nat → Nat} {a b i j : Nat} (h : PrI D a b i j) (hij : i ≤ j) (hd : ¬ D j < D a) : PrI D a b i (j - 1) := ⟨h.i1, by have := h.i1; omega, by have := h.jb; omega, h.l, fun x h1 h2 => by
  by_cases e : x = j
  · rw [e]
    omega
  · exact h.r x (by have := h.i1; omega) h2⟩
theorem PrI.both {D : Nat → Nat} {a b i j : Nat} (h : PrI D a b i j) (hij : i ≤ j) (hi : ¬ D i < D a) (hj : D j < D a) : PrI (swp D i j) a b (i + 1) (j - 1) ∧ i < j := by
  have hlt : i < j := by
    apply Classical.byContradiction
    intro hn
    have : i = j := by omega
    subst this
    exact hi hj
  have h1 := h.i1
  have h3 := h.jb
  refine ⟨⟨by omega, by omega, by omega, fun x hx1 hx2 => ?_, fun x hx1 hx2 => ?_⟩, hlt⟩
  · rw [swp_o (k := a) (by omega) (by omega)]
    by_cases e : x = i
    · rw [e, swp_l]
      exact hj
    · rw [swp_o e (by omega)]
      exact h.l x hx1 (by omega)
  · rw [swp_o (k := a) (by omega) (by omega)]
    by_cases e : x = j
    · rw [e, swp_r]
      omega
    · rw [swp_o (by omega) e]
      exact h.r x (by omega) hx2
/-- What stands at m parts the others. -/
structure Part (D : Nat → Nat) (a b m : Nat) : Prop where
  am : a ≤ m
  mb : m < b
  l : ∀ x, a ≤ x → x < m → D x < D m
  r : ∀ x, m < x → x < b → D m ≤ D x
theorem PrI.done {D : Nat → Nat} {a b i j : Nat} (h : PrI D a b i j) (hij : ¬ i ≤ j) : Part (swp D j a) a b j := by
  have h1 := h.i1
  have h2 := h.ij
  refine ⟨by omega, h.jb, fun x hx1 hx2 => ?_, fun x hx1 hx2 => ?_⟩
  · rw [swp_l]
    by_cases e : x = a
    · rw [e, swp_r]
      exact h.l j (by omega) (by omega)
    · rw [swp_o (by omega) e]
      exact h.l x (by omega) (by omega)
  · rw [swp_l, swp_o (by omega) (by omega)]
    exact h.r x hx1 hx2

/-- Between a and b all but what lies from a' to b' is sorted, and stands where it belongs. -/
def OutR (D : Nat → Nat) (a b a' b' : Nat) : Prop := ∀ i j, a ≤ i → i < j → j < b → (i < a' ∨ b' ≤ j) → D i ≤ D j
theorem OutR.start (D : Nat → Nat) (a b : Nat) : OutR D a b a b := fun i j h1 h2 h3 h4 => by omega
theorem OutR.pm {D E : Nat → Nat} {a b a' b' : Nat} (h : OutR D a b a' b') (hm : Pm a' b' D E) (ha : a ≤ a') (hb : b' ≤ b) : OutR E a b a' b' := by
  intro i j h1 h2 h3 h4
  by_cases hi : a' ≤ i ∧ i < b'
  · have hj : ¬ (a' ≤ j ∧ j < b') := by omega
    obtain ⟨x, hx, ex⟩ := hm.src hi
    rw [ex, hm.out hj]
    exact h x j (by omega) (by omega) h3 (by omega)
  · rw [hm.out hi]
    by_cases hj : a' ≤ j ∧ j < b'
    · obtain ⟨x, hx, ex⟩ := hm.src hj
      rw [ex]
      exact h i x h1 (by omega) (by omega) (by omega)
    · rw [hm.out hj]
      exact h i j h1 h2 h3 h4
theorem OutR.done {D : Nat → Nat} {a b a' b' : Nat} (h : OutR D a b a' b') (hs : Srt a' b' D) : Srt a b D := fun i j h1 h2 h3 => by
  by_cases hx : i < a' ∨ b' ≤ j
  · exact h i j h1 h2 h3 hx
  · exact hs i j (by omega) h2 (by omega)
theorem OutR.part_l {D : Nat → Nat} {a b a' b' m : Nat} (h : OutR D a b a' b') (hp : Part D a' b' m) (hs : Srt a' m D) : OutR D a b (m + 1) b' := fun i j h1 h2 h3 h4 => by
  have hm := hp.am
  by_cases hx : i < a' ∨ b' ≤ j
  · exact h i j h1 h2 h3 hx
  · by_cases hi : i = m
    · rw [hi]
      exact hp.r j (by omega) (by omega)
    · by_cases hj : j < m
      · exact hs i j (by omega) h2 hj
      · by_cases hjm : j = m
        · rw [hjm]
          exact Nat.le_of_lt (hp.l i (by omega) (by omega))
        · exact Nat.le_trans (Nat.le_of_lt (hp.l i (by omega) (by omega))) (hp.r j (by omega) (by omega))
theorem OutR.part_r {D : Nat → Nat} {a b a' b' m : Nat} (h : OutR D a b a' b') (hp : Part D a' b' m) (hs : Srt (m + 1) b' D) : OutR D a b a' m := fun i j h1 h2 h3 h4 => by
  have hm := hp.mb
  by_cases hx : i < a' ∨ b' ≤ j
  · exact h i j h1 h2 h3 hx
  · by_cases hj : j = m
    · rw [hj]
      exact Nat.le_of_lt (hp.l i (by omega) (by omega))
    · by_cases hi : m < i
      · exact hs i j (by omega) h2 (by omega)
      · by_cases him : i = m
        · rw [him]
          exact hp.r j (by omega) (by omega)
        · exact Nat.le_trans (Nat.le_of_lt (hp.l i (by omega) (by omega))) (hp.r j (by omega) (by omega))
theorem Part.pm_l {D E : Nat → Nat} {a b m : Nat} (h : Part D a b m) (hm : Pm a m D E) : Part E a b m := ⟨h.am, h.mb, fun x h1 h2 => by
  obtain ⟨y, hy, e⟩ := hm.src ⟨h1, h2⟩
  rw [e, hm.out (i := m) (by omega)]
  exact h.l y hy.1 hy.2, fun x h1 h2 => by
  rw [hm.out (i := m) (by omega), hm.out (i := x) (by omega)]
  exact h.r x h1 h2⟩
theorem Part.pm_r {D E : Nat → Nat} {a b m : Nat} (h : Part D a b m) (hm : Pm (m + 1) b D E) : Part E a b m := ⟨h.am, h.mb, fun x h1 h2 => by
  rw [hm.out (i := m) (by omega), hm.out (i := x) (by omega)]
  exact h.l x h1 h2, fun x h1 h2 => by
  obtain ⟨y, hy, e⟩ := hm.src (i := x) ⟨by omega, h2⟩
  rw [e, hm.out (i := m) (by omega)]
  exact h.r y (by omega) hy.2⟩
theorem Part.lo {D : Nat → Nat} {a b m n : Nat} (h : Part D a b m) (hn : b ≤ n) (hi : Inj n D) : Lo (m + 1) b D := .inr fun i h1 h2 => by
  have h3 := h.r i (by omega) h2
  have hb := h.mb
  have : D m ≠ D i := fun e => by
    have := hi m i (by omega) (by omega) e
    omega
  rw [Nat.add_sub_cancel]
  omega
end Go.Proofs.YtajccmkdfmpapaaGreatDoor
namespace Go.Proofs.YtajccmkdfmpapaaGreatDoor
open Go.RowKit

/-- The first n cells of block g, of C cells, are the numbers D. -/
structure Ar (w : World) (g n C : Nat) (D : Nat → Nat) : Prop where
  ex : ∃ cs, Blk w g 34 cs ∧ cs.length = C ∧ ∀ i, i < n → cs[i]? = some (.int .u32 (D i : Int))
  le : n ≤ C
namespace Ar
variable {w w' : World} {g n C : Nat} {D : Nat → Nat}
theorem get (h : Ar w g n C D) (i : Nat) (hi : i < n) : w.cell? ⟨g, i, none⟩ = some (.int .u32 (D i : Int)) := by
  obtain ⟨cs, hB, _, hc⟩ := h.ex
  exact hB.at (hc i hi)
theorem free (h : Ar w g n C D) (i : Nat) : w.frozen? ⟨g, i, none⟩ = false := by
  obtain ⟨cs, hB, _, _⟩ := h.ex
  exact hB.free i
theorem keep {F : Nat → Prop} (h : Ar w g n C D) (hk : Kept F w w') (hn : ¬ F g) : Ar w' g n C D := by
  obtain ⟨cs, hB, h1⟩ := h.ex
  exact ⟨⟨cs, hk.blk hB hn, h1⟩, h.le⟩
theorem up (h : Ar w g n C D) (hb : Below w.heap.size w w') : Ar w' g n C D := h.keep (F := fun _ => False) (Kept.of_below hb) id
theorem drewN (h : Ar w g n C D) (k : Nat) : Ar (w.drewN k) g n C D := ⟨h.ex, h.le⟩
theorem drew (h : Ar w g n C D) : Ar w.drew g n C D := ⟨h.ex, h.le⟩
theorem lt (h : Ar w g n C D) : g < w.heap.size := by
  obtain ⟨cs, hB, _⟩ := h.ex
  exact lt_of_block hB
theorem swap (h : Ar w g n C D) {i j : Nat} (hi : i < n) (hj : j < n) : Ar ((w.setCell ⟨g, i, none⟩ (.int .u32 (D j : Int))).setCell ⟨g, j, none⟩ (.int .u32 (D i : Int))) g n C (swp D i j) := by
  obtain ⟨cs, hB, hl, hc⟩ := h.ex
  refine ⟨⟨_, (hB.put i _).put j _, by simp [hl], fun k hk => ?_⟩, h.le⟩
  by_cases e : k = j
  · subst e
    rw [swp_r]
    by_cases e2 : i = k
    · subst e2
      exact set_at (set_at (hc i hi))
    · exact set_at (x := .int .u32 (D k : Int)) (by rw [set_off e2]; exact hc k hk)
  · rw [set_off (fun h => e h.symm)]
    by_cases e2 : k = i
    · subst e2
      rw [swp_l]
      exact set_at (hc k hk)
    · rw [set_off (fun h => e2 h.symm), swp_o e2 e]
      exact hc k hk
end Ar
theorem kept_put2 {a w : World} {g : Nat} (h : Kept (fun k => k = g) a w) (x y : Nat) (u v : Value) : Kept (fun k => k = g) a ((w.setCell ⟨g, x, none⟩ u).setCell ⟨g, y, none⟩ v) := (h.put (.inl rfl) x u).put (.inl rfl) y v
theorem kept_drewN {F : Nat → Prop} {a b : World} (h : Kept F a b) (n : Nat) : Kept F a (b.drewN n) := ⟨h.os, h.tape, h.output, h.size, h.block⟩
/-- Behind a call: the numbers from a to b in another order, of which Q tells. -/
def SoTo (g n C a b : Nat) (D : Nat → Nat) (Q : (Nat → Nat) → Prop) (w w' : World) : Prop := ∃ E, Ar w' g n C E ∧ Pm a b D E ∧ Q E ∧ Kept (fun k => k = g) w w'
theorem soNaN_at (x : Nat) (w : World) : Calls Tryz.prog 100 #[.int .u32 (x : Int)] w (BoolIs false w) := by
  have q : ((x : Int) != (x : Int)) = false := by simp
  go_enter Tryz.func100, Tryz.ntmps100
  go_wp2_with fail
  go_ret
  exact ⟨rfl, rfl⟩
theorem soLess_at (x y : Nat) (w : World) : Calls Tryz.prog 90 #[.int .u32 (x : Int), .int .u32 (y : Int)] w (BoolIs (decide (x < y)) w) := by
  go_enter Tryz.func90, Tryz.ntmps90
  go_wp2_with fail
  refine (soNaN_at x w).mono ?_
  rintro r w' ⟨rfl, rfl⟩
  go_wp2_with fail
  go_ret
  exact ⟨rfl, rfl⟩
theorem soLess_is {x y : Nat} {b : Bool} (h : decide (x < y) = b) (w : World) : Calls Tryz.prog 90 #[.int .u32 (x : Int), .int .u32 (y : Int)] w (fun r w' => r = .returned (.bool b) ∧ w' = w) := by
  subst h
  exact (soLess_at x y w).mono fun _ _ h => ⟨h.1, h.2.symm⟩
theorem Srt.one (a : Nat) (D : Nat → Nat) : Srt a (a + 1) D := fun i j h1 h2 h3 => by omega
theorem Srt.left {a b b' : Nat} {D : Nat → Nat} (h : Srt a b D) (hb : b' ≤ b) : Srt a b' D := fun i j h1 h2 h3 => h i j h1 h2 (by omega)
set_option maxHeartbeats 2000000 in
theorem soIns_at (g n C cap a b : Nat) (D : Nat → Nat) (w : World) (h : Ar w g n C D) (hb : b ≤ n) (hn : n ≤ 100000) (hc : n ≤ cap) (hab : a ≤ b) : Calls Tryz.prog 84 #[.slice (some ⟨g, 0, none⟩) n cap, .int .i64 (a : Int), .int .i64 (b : Int)] w (fun r w' => r = .returned (.tuple #[]) ∧ SoTo g n C a b D (Srt a b) w w') := by
  have HA := Lib.hid h
  clear h
  go_enter Tryz.func84, Tryz.ntmps84
  go_wp2_with fail
  go_loopg [6] (b - (a + 1)) (fun q x wr => ∃ (i : Nat) (E : Nat → Nat), x = .int .i64 (i : Int) ∧ a + 1 ≤ i ∧ i ≤ b + 1 ∧ q = b - i ∧ Ar wr g n C E ∧ Pm a b D E ∧ Srt a i E ∧ Kept (fun k => k = g) w wr)
  case atStart => exact ⟨a + 1, D, by go_num, Nat.le_refl _, by omega, rfl, HA.out, Pm.refl _ _ _, Srt.one _ _, Kept.refl _ _⟩
  case round =>
    clear HA
    obtain ⟨i, E, rfl, hi, hib, hq, hA, hP, hS, hK⟩ := hrel
    have HQ := Lib.hid hq
    have HA := Lib.hid hA
    have HP := Lib.hid hP
    have HS := Lib.hid hS
    have HK := Lib.hid hK
    clear hq hA hP hS hK
    by_cases hlt : i < b
    · go_wp2_with fail
      go_loopg [7] i (fun q y w2 => ∃ (j : Nat) (F : Nat → Nat), y = .int .i64 (j : Int) ∧ a ≤ j ∧ j ≤ i ∧ q = j ∧ Ar w2 g n C F ∧ Pm a b D F ∧ InsI F a i j ∧ Kept (fun k => k = g) w w2)
      case atStart => exact ⟨i, E, rfl, by omega, Nat.le_refl _, rfl, HA.out, HP.out, InsI.start HS.out, HK.out⟩
      case round =>
        clear HA HP HS HK
        obtain ⟨j, F, rfl, haj, hji, rfl, hA, hP, hI, hK⟩ := hrel
        have HA := Lib.hid hA
        have HP := Lib.hid hP
        have HI := Lib.hid hI
        have HK := Lib.hid hK
        clear hA hP hI hK
        by_cases hj : a < gk
        · obtain ⟨t, rfl⟩ : ∃ t, gk = t + 1 := ⟨gk - 1, by omega⟩
          have c0 := HA.out.get (t + 1) (by omega)
          have c1 := HA.out.get t (by omega)
          have e1 : ((t + 1 : Nat) : Int) = (t : Int) + 1 := by omega
          have e2 : (t : Int) + 1 - 1 = (t : Int) := by omega
          cases hd : decide (F (t + 1) < F t) with
          | true =>
            have HL := Lib.hid (fun w => soLess_is hd w)
            have HSW := Lib.hid (fun k => (HA.out.drewN k).swap (i := t + 1) (j := t) (by omega) (by omega))
            have HI2 : Hid (InsI (swp F (t + 1) t) a i t) := Lib.hid (by have := HI.out.step hj hji (by simpa using hd); simpa using this)
            have HP2 : Hid (Pm a b D (swp F (t + 1) t)) := Lib.hid (HP.out.trans (Pm.swap (by omega) (by omega)))
            have HK2 := Lib.hid (fun k => kept_put2 (kept_drewN HK.out k) (t + 1) t (.int .u32 (F t : Int)) (.int .u32 (F (t + 1) : Int)))
            have f0 := HA.out.free (t + 1)
            have f1 := HA.out.free t
            have d0 : (t : Int) < (n : Int) := by omega
            have d1 : (t : Int) + 1 < (n : Int) := by omega
            have d2 : (a : Int) < (t : Int) + 1 := by omega
            clear hd HI HP HK HA
            go_wp2_with fail
            go_quiet (first | (go_at_call 90; exact Calls.quiet_of_same (HL.out _)))
            go_wp2_with fail
            go_region
            go_wp2_with fail
            go_roundg t
            case rel => exact ⟨t, swp F (t + 1) t, by go_num, by omega, by omega, rfl, HSW.out _, HP2.out, HI2.out, HK2.out _⟩
            case measure => omega
          | false =>
            have HL := Lib.hid (fun w => soLess_is hd w)
            have HS2 : Hid (Srt a (i + 1) F) := Lib.hid (HI.out.done haj (.inr (by simpa using hd)))
            have d0 : (t : Int) < (n : Int) := by omega
            have d1 : (t : Int) + 1 < (n : Int) := by omega
            have d2 : (a : Int) < (t : Int) + 1 := by omega
            clear hd HI
            go_wp2_with fail
            go_quiet (first | (go_at_call 90; exact Calls.quiet_of_same (HL.out _)))
            go_wp2_with fail
            go_roundg (b - (i + 1))
            case rel => exact ⟨i + 1, F, by go_num, by omega, by omega, rfl, HA.out.drewN _, HP.out, HS2.out, kept_drewN HK.out _⟩
            case measure => have := HQ.out; omega
        · have HS2 : Hid (Srt a (i + 1) F) := Lib.hid (HI.out.done haj (.inl (by omega)))
          have d2 : decide ((a : Int) < (gk : Int)) = false := by simp; omega
          clear HI
          go_wp2_with fail
          go_quiet (fail)
          go_wp2_with fail
          go_roundg (b - (i + 1))
          case rel => exact ⟨i + 1, F, by go_num, by omega, by omega, rfl, HA.out.drewN _, HP.out, HS2.out, kept_drewN HK.out _⟩
          case measure => have := HQ.out; omega
    · go_wp2_with fail
      go_end0
      exact ⟨rfl, E, HA.out, HP.out, Srt.left HS.out (by omega), HK.out⟩
end Go.Proofs.YtajccmkdfmpapaaGreatDoor
