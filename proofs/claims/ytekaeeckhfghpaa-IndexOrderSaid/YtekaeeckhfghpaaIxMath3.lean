/-
  Keys that are put, and dropped, in either order. Plain mathematics.
-/
import Derived.Test.YtekaeeckhfghpaaIxMath2
namespace Go.Proofs.Ytekaeeckhfghpaa

/-- A key with a slot of its own. -/
def enc1 (k : Nat) : Nat × Int := (k, ((k % 1000 : Nat) : Int))
/-- An index of 64 that holds just these pairs. -/
structure Hold (P : Nat × Int → Prop) (S : IxS) : Prop where
  wf : S.WF
  room : S.room = 64
  mem : ∀ e, e ∈ S.L ↔ P e
theorem Hold.put {P Q : Nat × Int → Prop} {S : IxS} {i k : Nat} (h : Hold P S) (hl : S.L.length ≤ i) (hi : i < 64) (hP : ∀ e, P e → e = enc1 e.1) (hQ : ∀ e, Q e ↔ P e ∨ e = enc1 k) : S.putB k = true ∧ Hold Q (S.putS k ((k % 1000 : Nat) : Int)) ∧ (S.putS k ((k % 1000 : Nat) : Int)).L.length ≤ i + 1 := by
  have hb : S.putB k = true := by
    unfold IxS.putB
    rw [h.room]
    simp
    omega
  refine ⟨hb, ⟨IxS.putS_wf h.wf k _, by rw [IxS.put_room, h.room], fun e => ?_⟩, ?_⟩
  · rw [IxS.put_yes hb]
    show e ∈ putL S.L k _ ↔ _
    rw [mem_putL, hQ, h.mem]
    constructor
    · rintro (⟨h1, _⟩ | h1)
      · exact .inl h1
      · exact .inr h1
    · rintro (h1 | h1)
      · by_cases e2 : e.1 = k
        · right
          have := hP e h1
          rw [e2] at this
          exact this
        · exact .inl ⟨h1, e2⟩
      · exact .inr h1
  · rw [IxS.put_yes hb]
    show (putL S.L k _).length ≤ i + 1
    cases hh : S.has k with
    | true =>
      rw [putL_old h.wf.asc (IxS.has_mem hh)]
      omega
    | false =>
      rw [putL_new (IxS.has_no hh)]
      omega
theorem Hold.drop {P Q : Nat × Int → Prop} {S : IxS} {k : Nat} (h : Hold P S) (hQ : ∀ e, Q e ↔ P e ∧ k ≠ e.1) : Hold Q (S.dropS k) := by
  refine ⟨IxS.dropS_wf h.wf k, h.room, fun e => ?_⟩
  show e ∈ dropL S.L k ↔ _
  rw [mem_dropL, hQ, h.mem]
  constructor
  · rintro ⟨h1, h2⟩
    exact ⟨h1, fun e => h2 e.symm⟩
  · rintro ⟨h1, h2⟩
    exact ⟨h1, fun e => h2 e.symm⟩
theorem Hold.imp {P Q : Nat × Int → Prop} {S : IxS} (h : Hold P S) (hQ : ∀ e, Q e ↔ P e) : Hold Q S := ⟨h.wf, h.room, fun e => by rw [h.mem, hQ]⟩
theorem pairs_eq : ∀ {xs ys : PL}, Asc xs → Asc ys → (∀ x, x ∈ xs ↔ x ∈ ys) → xs = ys
  | [], [], _, _, _ => rfl
  | [], y :: ys, _, _, h => by have := (h y).2 (by simp); simp at this
  | x :: xs, [], _, _, h => by have := (h x).1 (by simp); simp at this
  | x :: xs, y :: ys, hx, hy, h => by
    have h1 := List.pairwise_cons.1 hx
    have h2 := List.pairwise_cons.1 hy
    have e : x = y := by
      rcases List.mem_cons.1 ((h x).1 (by simp)) with e | e
      · exact e
      · rcases List.mem_cons.1 ((h y).2 (by simp)) with e2 | e2
        · exact e2.symm
        · have := h2.1 x e
          have := h1.1 y e2
          omega
    subst e
    rw [pairs_eq h1.2 h2.2 (fun z => ?_)]
    constructor
    · intro hz
      rcases List.mem_cons.1 ((h z).1 (by simp [hz])) with e | e
      · have := h1.1 z hz
        rw [e] at this
        omega
      · exact e
    · intro hz
      rcases List.mem_cons.1 ((h z).2 (by simp [hz])) with e | e
      · have := h2.1 z hz
        rw [e] at this
        omega
      · exact e
theorem Hold.same {P Q : Nat × Int → Prop} {S T : IxS} (h : Hold P S) (k : Hold Q T) (hPQ : ∀ e, P e ↔ Q e) : S = T := by
  have hL : S.L = T.L := pairs_eq h.wf.asc k.wf.asc (fun e => by rw [h.mem, k.mem, hPQ])
  obtain ⟨l, r⟩ := S
  obtain ⟨l2, r2⟩ := T
  have h1 := h.room
  have h2 := k.room
  simp only at hL h1 h2
  rw [hL, h1, h2]
section
variable (f : Nat → Nat) (d : Nat → Bool) (m dl : Nat)
/-- Of the first i; of the last i. -/
def PA (i : Nat) (e : Nat × Int) : Prop := ∃ j, j < i ∧ e = enc1 (f j)
def PB (i : Nat) (e : Nat × Int) : Prop := ∃ j, m - i ≤ j ∧ j < m ∧ e = enc1 (f j)
/-- All, but for those that are dropped, of the first i; of the last i. -/
def DA (i : Nat) (e : Nat × Int) : Prop := PA f m e ∧ ∀ j, j < i → j < dl → d j = true → f j ≠ e.1
def DB (i : Nat) (e : Nat × Int) : Prop := PA f m e ∧ ∀ j, m - i ≤ j → j < m → j < dl → d j = true → f j ≠ e.1
variable {f d m dl}
theorem PA.enc {i : Nat} {e : Nat × Int} (h : PA f i e) : e = enc1 e.1 := by
  obtain ⟨j, _, rfl⟩ := h
  rfl
theorem PB.enc {i : Nat} {e : Nat × Int} (h : PB f m i e) : e = enc1 e.1 := by
  obtain ⟨j, _, _, rfl⟩ := h
  rfl
theorem PA.step (i : Nat) (e : Nat × Int) : PA f (i + 1) e ↔ PA f i e ∨ e = enc1 (f i) := by
  constructor
  · rintro ⟨j, hj, rfl⟩
    by_cases h : j = i
    · subst h
      exact .inr rfl
    · exact .inl ⟨j, by omega, rfl⟩
  · rintro (⟨j, hj, rfl⟩ | rfl)
    · exact ⟨j, by omega, rfl⟩
    · exact ⟨i, by omega, rfl⟩
theorem PB.step {i t : Nat} (ht : i + 1 + t = m) (e : Nat × Int) : PB f m (i + 1) e ↔ PB f m i e ∨ e = enc1 (f t) := by
  constructor
  · rintro ⟨j, hj, hm, rfl⟩
    by_cases h : j = t
    · subst h
      exact .inr rfl
    · exact .inl ⟨j, by omega, hm, rfl⟩
  · rintro (⟨j, hj, hm, rfl⟩ | rfl)
    · exact ⟨j, by omega, hm, rfl⟩
    · exact ⟨t, by omega, by omega, rfl⟩
theorem PB.all (e : Nat × Int) : PB f m m e ↔ PA f m e := by
  constructor
  · rintro ⟨j, _, hm, rfl⟩
    exact ⟨j, hm, rfl⟩
  · rintro ⟨j, hm, rfl⟩
    exact ⟨j, by omega, hm, rfl⟩
theorem DA.zero (e : Nat × Int) : DA f d m dl 0 e ↔ PA f m e := ⟨fun h => h.1, fun h => ⟨h, fun j hj => by omega⟩⟩
theorem DB.zero (e : Nat × Int) : DB f d m dl 0 e ↔ PA f m e := ⟨fun h => h.1, fun h => ⟨h, fun j hj hm => by omega⟩⟩
theorem DA.yes {i : Nat} (hi : i < dl) (hd : d i = true) (e : Nat × Int) : DA f d m dl (i + 1) e ↔ DA f d m dl i e ∧ f i ≠ e.1 := by
  constructor
  · rintro ⟨h1, h2⟩
    exact ⟨⟨h1, fun j hj => h2 j (by omega)⟩, h2 i (by omega) hi hd⟩
  · rintro ⟨⟨h1, h2⟩, h3⟩
    refine ⟨h1, fun j hj hl hdj => ?_⟩
    by_cases h : j = i
    · subst h
      exact h3
    · exact h2 j (by omega) hl hdj
theorem DA.no {i : Nat} (hi : ¬ (i < dl ∧ d i = true)) (e : Nat × Int) : DA f d m dl (i + 1) e ↔ DA f d m dl i e := by
  constructor
  · rintro ⟨h1, h2⟩
    exact ⟨h1, fun j hj => h2 j (by omega)⟩
  · rintro ⟨h1, h2⟩
    refine ⟨h1, fun j hj hl hdj => ?_⟩
    by_cases h : j = i
    · subst h
      exact absurd ⟨hl, hdj⟩ hi
    · exact h2 j (by omega) hl hdj
theorem DB.yes {i t : Nat} (ht : i + 1 + t = m) (hi : t < dl) (hd : d t = true) (e : Nat × Int) : DB f d m dl (i + 1) e ↔ DB f d m dl i e ∧ f t ≠ e.1 := by
  constructor
  · rintro ⟨h1, h2⟩
    exact ⟨⟨h1, fun j hj => h2 j (by omega)⟩, h2 t (by omega) (by omega) hi hd⟩
  · rintro ⟨⟨h1, h2⟩, h3⟩
    refine ⟨h1, fun j hj hm hl hdj => ?_⟩
    by_cases h : j = t
    · subst h
      exact h3
    · exact h2 j (by omega) hm hl hdj
theorem DB.no {i t : Nat} (ht : i + 1 + t = m) (hi : ¬ (t < dl ∧ d t = true)) (e : Nat × Int) : DB f d m dl (i + 1) e ↔ DB f d m dl i e := by
  constructor
  · rintro ⟨h1, h2⟩
    exact ⟨h1, fun j hj => h2 j (by omega)⟩
  · rintro ⟨h1, h2⟩
    refine ⟨h1, fun j hj hm hl hdj => ?_⟩
    by_cases h : j = t
    · subst h
      exact absurd ⟨hl, hdj⟩ hi
    · exact h2 j (by omega) hm hl hdj
theorem D.all (e : Nat × Int) : DA f d m dl m e ↔ DB f d m dl m e := by
  constructor
  · rintro ⟨h1, h2⟩
    exact ⟨h1, fun j _ hm => h2 j hm⟩
  · rintro ⟨h1, h2⟩
    exact ⟨h1, fun j hm => h2 j (by omega) hm⟩
end
theorem Hold.slot {P : Nat × Int → Prop} {S : IxS} (h : Hold P S) (hP : ∀ e, P e → e = enc1 e.1) {k : Nat} (hk : S.has k = true) : S.getN k = ((k % 1000 : Nat) : Int) := by
  unfold IxS.has at hk
  obtain ⟨s, hs⟩ := Option.isSome_iff_exists.1 hk
  have := hP _ ((h.mem _).1 (getL_mem hs))
  unfold IxS.getN
  rw [hs]
  exact congrArg Prod.snd this
theorem Hold.new : Hold (fun _ => False) ⟨[], 64⟩ := ⟨⟨List.Pairwise.nil, by simp, by simp, by simp⟩, rfl, fun e => by simp⟩
end Go.Proofs.Ytekaeeckhfghpaa
