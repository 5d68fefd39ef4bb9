/-
  Keys in an array, laid where a number drawn from them says, or behind; pairs by rising keys. Plain mathematics.
-/
import Derived.Test.YtmoagooabmmmgaaLruMath
namespace Go.Proofs.Ytmoagooabmmmgaa

/-- Places: their keys, their slots, whether they are taken. -/
structure TabS where
  k : Nat → Nat
  s : Nat → Int
  t : Nat → Bool
def TabS.put (T : TabS) (p k : Nat) (s : Int) (t : Bool) : TabS := ⟨upd T.k p k, upd T.s p s, upd T.t p t⟩
def emptyT : TabS := ⟨fun _ => 0, fun _ => 0, fun _ => false⟩
/-- How many steps lead from a place to another one. -/
def fr (a b : Nat) : Nat := (b + 128 - a) % 128
/-- Pairs: a key, its slot. -/
abbrev PL := List (Nat × Int)
def keysL (L : PL) : List Nat := L.map (·.1)
def getL : PL → Nat → Option Int
  | [], _ => none
  | e :: L, k => if e.1 = k then some e.2 else getL L k
def dropL (L : PL) (k : Nat) : PL := L.filter (fun e => e.1 != k)
def insL : PL → Nat → Int → PL
  | [], k, s => [(k, s)]
  | e :: L, k, s => if e.1 < k then e :: insL L k s else (k, s) :: e :: L
def putL (L : PL) (k : Nat) (s : Int) : PL := insL (dropL L k) k s
def Asc (L : PL) : Prop := L.Pairwise (fun a b => a.1 < b.1)
theorem mem_dropL {L : PL} {k : Nat} {e : Nat × Int} : e ∈ dropL L k ↔ e ∈ L ∧ e.1 ≠ k := by simp [dropL]
theorem mem_insL {k : Nat} {s : Int} {e : Nat × Int} : ∀ {L : PL}, e ∈ insL L k s ↔ e ∈ L ∨ e = (k, s)
  | [] => by simp [insL]
  | x :: L => by
    unfold insL
    by_cases h : x.1 < k
    · rw [if_pos h, List.mem_cons, mem_insL, List.mem_cons, or_assoc]
    · rw [if_neg h, List.mem_cons]
      constructor
      · rintro (h | h)
        · exact .inr h
        · exact .inl h
      · rintro (h | h)
        · exact .inr h
        · exact .inl h
theorem mem_putL {L : PL} {k : Nat} {s : Int} {e : Nat × Int} : e ∈ putL L k s ↔ (e ∈ L ∧ e.1 ≠ k) ∨ e = (k, s) := by
  unfold putL
  rw [mem_insL, mem_dropL]
theorem dropL_asc {L : PL} (h : Asc L) (k : Nat) : Asc (dropL L k) := List.Pairwise.filter _ h
theorem insL_asc {k : Nat} {s : Int} : ∀ {L : PL}, Asc L → (∀ e ∈ L, e.1 ≠ k) → Asc (insL L k s)
  | [], _, _ => by
    unfold insL Asc
    exact List.pairwise_singleton _ _
  | x :: L, h, hk => by
    have h2 := List.pairwise_cons.1 h
    have hx := hk x (by simp)
    unfold insL
    by_cases hlt : x.1 < k
    · rw [if_pos hlt]
      refine List.pairwise_cons.2 ⟨fun e he => ?_, insL_asc h2.2 (fun e he => hk e (by simp [he]))⟩
      rcases mem_insL.1 he with he | rfl
      · exact h2.1 e he
      · exact hlt
    · rw [if_neg hlt]
      refine List.pairwise_cons.2 ⟨fun e he => ?_, h⟩
      rcases List.mem_cons.1 he with rfl | he
      · show k < _
        omega
      · have := h2.1 e he
        show k < _
        omega
theorem putL_asc {L : PL} (h : Asc L) (k : Nat) (s : Int) : Asc (putL L k s) := insL_asc (dropL_asc h k) (fun _ he => (mem_dropL.1 he).2)
theorem insL_len {k : Nat} {s : Int} : ∀ {L : PL}, (insL L k s).length = L.length + 1
  | [] => rfl
  | x :: L => by
    unfold insL
    split
    · rw [List.length_cons, insL_len, List.length_cons]
    · rfl
theorem dropL_not {L : PL} {k : Nat} (h : ∀ e ∈ L, e.1 ≠ k) : dropL L k = L := List.filter_eq_self.2 fun e he => by simpa using h e he
theorem dropL_len {k : Nat} : ∀ {L : PL}, Asc L → (∃ e ∈ L, e.1 = k) → (dropL L k).length + 1 = L.length
  | [], _, h => by
    obtain ⟨_, h, _⟩ := h
    cases h
  | x :: L, h, hk => by
    have h2 := List.pairwise_cons.1 h
    by_cases e : x.1 = k
    · have hn : ∀ e ∈ L, e.1 ≠ k := fun y hy => by
        have := h2.1 y hy
        omega
      unfold dropL
      rw [List.filter_cons_of_neg (by simp [e])]
      have := dropL_not hn
      unfold dropL at this
      rw [this]
      rfl
    · obtain ⟨y, hy, hyk⟩ := hk
      rcases List.mem_cons.1 hy with rfl | hy
      · exact absurd hyk e
      · have := dropL_len h2.2 ⟨y, hy, hyk⟩
        unfold dropL at this ⊢
        rw [List.filter_cons_of_pos (by simp [e]), List.length_cons, List.length_cons, this]
theorem putL_new {L : PL} {k : Nat} {s : Int} (h : ∀ e ∈ L, e.1 ≠ k) : (putL L k s).length = L.length + 1 := by
  unfold putL
  rw [insL_len, dropL_not h]
theorem putL_old {L : PL} {k : Nat} {s : Int} (ha : Asc L) (h : ∃ e ∈ L, e.1 = k) : (putL L k s).length = L.length := by
  unfold putL
  rw [insL_len, dropL_len ha h]
theorem getL_none {k : Nat} : ∀ {L : PL}, (∀ e ∈ L, e.1 ≠ k) → getL L k = none
  | [], _ => rfl
  | x :: L, h => by
    unfold getL
    rw [if_neg (h x (by simp)), getL_none (fun e he => h e (by simp [he]))]
theorem getL_some {k : Nat} {s : Int} : ∀ {L : PL}, Asc L → (k, s) ∈ L → getL L k = some s
  | x :: L, h, hm => by
    have h2 := List.pairwise_cons.1 h
    unfold getL
    rcases List.mem_cons.1 hm with rfl | hm
    · rw [if_pos rfl]
    · have := h2.1 _ hm
      have : x.1 ≠ k := by
        have : x.1 < k := this
        omega
      rw [if_neg this, getL_some h2.2 hm]
theorem getL_mem {k : Nat} {s : Int} : ∀ {L : PL}, getL L k = some s → (k, s) ∈ L
  | [], h => by cases h
  | x :: L, h => by
    unfold getL at h
    by_cases e : x.1 = k
    · rw [if_pos e] at h
      obtain rfl := Option.some.inj h
      subst e
      simp
    · rw [if_neg e] at h
      exact List.mem_cons_of_mem _ (getL_mem h)
theorem getL_no {k : Nat} : ∀ {L : PL}, getL L k = none → ∀ e ∈ L, e.1 ≠ k
  | [], _, _, he => by cases he
  | x :: L, h, e, he => by
    unfold getL at h
    by_cases q : x.1 = k
    · rw [if_pos q] at h
      cases h
    · rw [if_neg q] at h
      rcases List.mem_cons.1 he with rfl | he
      · exact q
      · exact getL_no h e he
theorem asc_uniq {L : PL} (h : Asc L) {k : Nat} {s r : Int} (h1 : (k, s) ∈ L) (h2 : (k, r) ∈ L) : s = r := by
  have := getL_some h h1
  rw [getL_some h h2] at this
  exact (Option.some.inj this).symm

/-- The places T hold the pairs L. -/
structure TL (T : TabS) (L : PL) : Prop where
  mem : ∀ i, i < 128 → T.t i = true → (T.k i, T.s i) ∈ L
  of : ∀ e ∈ L, ∃ i, i < 128 ∧ T.t i = true ∧ (T.k i, T.s i) = e
  inj : ∀ i j, i < 128 → j < 128 → T.t i = true → T.t j = true → T.k i = T.k j → i = j
  ch : ∀ i, i < 128 → T.t i = true → ∀ d, d < fr (T.k i % 128) i → T.t ((T.k i % 128 + d) % 128) = true
  z : ∀ i, i < 128 → T.t i = false → T.s i = 0
theorem TL.empty : TL emptyT [] :=
  ⟨fun _ _ h => (by simp [emptyT] at h), fun _ h => (by cases h), fun _ _ _ _ h => (by simp [emptyT] at h), fun _ _ h => (by simp [emptyT] at h), fun _ _ _ => rfl⟩
theorem nd_sub : ∀ {xs ys : List Nat}, xs.Nodup → (∀ x ∈ xs, x ∈ ys) → xs.length ≤ ys.length
  | [], _, _, _ => by simp
  | x :: xs, ys, hn, h => by
    have h2 := List.nodup_cons.1 hn
    have hx := h x (by simp)
    have := nd_sub (ys := ys.erase x) h2.2 (fun y hy => by
      have hne : y ≠ x := by
        rintro rfl
        exact h2.1 hy
      exact (List.mem_erase_of_ne hne).2 (h y (by simp [hy])))
    rw [List.length_erase_of_mem hx] at this
    have hp := List.length_pos_of_mem hx
    rw [List.length_cons]
    omega
theorem map_nd {f : Nat → Nat} : ∀ n : Nat, (∀ i j, i < n → j < n → f i = f j → i = j) → ((List.range n).map f).Nodup
  | 0, _ => by simp
  | n + 1, h => by
    rw [List.range_succ, List.map_append]
    refine List.nodup_append.2 ⟨map_nd n (fun i j hi hj => h i j (by omega) (by omega)), by simp, ?_⟩
    intro a ha b hb
    simp only [List.mem_map, List.mem_range, List.map_cons, List.map_nil, List.mem_singleton] at ha hb
    obtain ⟨i, hi, rfl⟩ := ha
    subst hb
    intro e
    have := h i n (by omega) (by omega) e
    omega
theorem TL.free {T : TabS} {L : PL} (h : TL T L) (hl : L.length ≤ 64) : ∃ f, f < 128 ∧ T.t f = false := by
  apply Classical.byContradiction
  intro hn
  have ha : ∀ i, i < 128 → T.t i = true := fun i hi => by
    cases e : T.t i with
    | true => rfl
    | false => exact absurd ⟨i, hi, e⟩ hn
  have hnd := map_nd (f := T.k) 128 (fun i j hi hj e => h.inj i j hi hj (ha i hi) (ha j hj) e)
  have := nd_sub (ys := keysL L) hnd (fun x hx => by
    simp only [List.mem_map, List.mem_range] at hx
    obtain ⟨i, hi, rfl⟩ := hx
    exact List.mem_map.2 ⟨_, h.mem i hi (ha i hi), rfl⟩)
  simp [keysL] at this
  omega

/-- Up to j steps behind where k is drawn to, other keys stand. -/
def Way (T : TabS) (k j : Nat) : Prop := ∀ d, d < j → T.t ((k % 128 + d) % 128) = true ∧ T.k ((k % 128 + d) % 128) ≠ k
theorem Way.zero (T : TabS) (k : Nat) : Way T k 0 := fun d h => by omega
theorem Way.le {T : TabS} {k j f : Nat} (h : Way T k j) (hf : f < 128) (ht : T.t f = false) : j < 128 := by
  apply Classical.byContradiction
  intro hj
  have := (h (fr (k % 128) f) (by unfold fr; omega)).1
  have e : (k % 128 + fr (k % 128) f) % 128 = f := by unfold fr; omega
  rw [e, ht] at this
  cases this
theorem Way.next {T : TabS} {k j : Nat} (h : Way T k j) (h1 : T.t ((k % 128 + j) % 128) = true) (h2 : T.k ((k % 128 + j) % 128) ≠ k) : Way T k (j + 1) := fun d hd => by
  by_cases e : d = j
  · subst e
    exact ⟨h1, h2⟩
  · exact h d (by omega)
theorem Way.none {T : TabS} {L : PL} {k j : Nat} (h : Way T k j) (hT : TL T L) (hj : j < 128) (hp : T.t ((k % 128 + j) % 128) = false) : ∀ e ∈ L, e.1 ≠ k := by
  intro e he hk
  obtain ⟨q, hq, ht, hqe⟩ := hT.of e he
  have hqk : T.k q = k := by
    rw [← hk, ← hqe]
  have hch := hT.ch q hq ht
  rw [hqk] at hch
  by_cases hd : fr (k % 128) q < j
  · have h2 := (h _ hd).2
    rw [show (k % 128 + fr (k % 128) q) % 128 = q by unfold fr; omega] at h2
    exact h2 hqk
  · by_cases hd2 : fr (k % 128) q = j
    · rw [← hd2, show (k % 128 + fr (k % 128) q) % 128 = q by unfold fr; omega, ht] at hp
      cases hp
    · rw [hch j (by omega)] at hp
      cases hp
theorem TL.put_new {T : TabS} {L : PL} {k j p : Nat} (h : TL T L) (s : Int) (hw : Way T k j) (hj : j < 128) (hp : p = (k % 128 + j) % 128) (ht : T.t p = false) : TL (T.put p k s true) (putL L k s) := by
  subst hp
  have hno := hw.none h hj ht
  obtain ⟨p, hp⟩ : ∃ p, (k % 128 + j) % 128 = p := ⟨_, rfl⟩
  rw [hp] at ht ⊢
  have hpl : p < 128 := by omega
  have ne : ∀ i, T.t i = true → i ≠ p := fun i hi e => by
    rw [e, ht] at hi
    cases hi
  have up : ∀ i, T.t i = true → (T.put p k s true).t i = true := fun i hi => by
    simp only [TabS.put]
    rw [upd_ne (ne i hi)]
    exact hi
  refine ⟨fun i hi hti => ?_, fun e he => ?_, fun i i2 hi hi2 hti hti2 hk => ?_, fun i hi hti d hd => ?_, fun i hi hti => ?_⟩
  · by_cases e : i = p
    · subst e
      simp only [TabS.put, upd_same]
      exact mem_putL.2 (.inr rfl)
    · simp only [TabS.put, upd_ne e] at hti ⊢
      have := h.mem i hi hti
      exact mem_putL.2 (.inl ⟨this, hno _ this⟩)
  · rcases mem_putL.1 he with ⟨he, _⟩ | rfl
    · obtain ⟨i, hi, hti, hie⟩ := h.of e he
      refine ⟨i, hi, up i hti, ?_⟩
      simp only [TabS.put, upd_ne (ne i hti)]
      exact hie
    · exact ⟨p, hpl, by simp [TabS.put, upd_same], by simp [TabS.put, upd_same]⟩
  · by_cases e : i = p
    · by_cases e2 : i2 = p
      · rw [e, e2]
      · simp only [TabS.put, upd_ne e2, e, upd_same] at hti2 hk
        exact absurd hk.symm (hno _ (h.mem i2 hi2 hti2))
    · by_cases e2 : i2 = p
      · simp only [TabS.put, upd_ne e, e2, upd_same] at hti hk
        exact absurd hk (hno _ (h.mem i hi hti))
      · simp only [TabS.put, upd_ne e, upd_ne e2] at hti hti2 hk
        exact h.inj i i2 hi hi2 hti hti2 hk
  · by_cases e : i = p
    · subst e
      simp only [TabS.put, upd_same] at hd ⊢
      refine up _ (hw d ?_).1
      rw [← hp] at hd
      unfold fr at hd
      omega
    · simp only [TabS.put, upd_ne e] at hti hd ⊢
      exact up _ (h.ch i hi hti d hd)
  · have e : i ≠ p := by
      rintro rfl
      simp [TabS.put, upd_same] at hti
    simp only [TabS.put, upd_ne e] at hti ⊢
    exact h.z i hi hti
theorem TL.put_old {T : TabS} {L : PL} {k p : Nat} (h : TL T L) (s : Int) (hpl : p < 128) (ht : T.t p = true) (hk : T.k p = k) : TL (T.put p k s true) (putL L k s) := by
  have et : (T.put p k s true).t = T.t := by
    funext i
    by_cases e : i = p
    · subst e
      simp [TabS.put, upd_same, ht]
    · simp [TabS.put, upd_ne e]
  have ek : (T.put p k s true).k = T.k := by
    funext i
    by_cases e : i = p
    · subst e
      simp [TabS.put, upd_same, hk]
    · simp [TabS.put, upd_ne e]
  refine ⟨fun i hi hti => ?_, fun e he => ?_, ?_, ?_, fun i hi hti => ?_⟩
  · rw [et] at hti
    by_cases e : i = p
    · subst e
      rw [ek, hk]
      simp only [TabS.put, upd_same]
      exact mem_putL.2 (.inr rfl)
    · rw [ek]
      simp only [TabS.put, upd_ne e]
      refine mem_putL.2 (.inl ⟨h.mem i hi hti, fun e2 => e ?_⟩)
      exact h.inj i p hi hpl hti ht (by rw [hk]; exact e2)
  · rw [et, ek]
    rcases mem_putL.1 he with ⟨he, hne⟩ | rfl
    · obtain ⟨i, hi, hti, hie⟩ := h.of e he
      have e2 : i ≠ p := by
        rintro rfl
        rw [← hie] at hne
        exact hne hk
      refine ⟨i, hi, hti, ?_⟩
      simp only [TabS.put, upd_ne e2]
      exact hie
    · exact ⟨p, hpl, ht, by simp [TabS.put, upd_same, hk]⟩
  · rw [et, ek]
    exact h.inj
  · rw [et, ek]
    exact h.ch
  · rw [et] at hti
    have e : i ≠ p := by
      rintro rfl
      rw [ht] at hti
      cases hti
    simp only [TabS.put, upd_ne e]
    exact h.z i hi hti

/-- All but what stands at the gap holds the pairs L; the gap counts as taken. -/
structure Gap (T : TabS) (g : Nat) (L : PL) : Prop where
  lt : g < 128
  t : T.t g = true
  mem : ∀ i, i < 128 → i ≠ g → T.t i = true → (T.k i, T.s i) ∈ L
  of : ∀ e ∈ L, ∃ i, i < 128 ∧ i ≠ g ∧ T.t i = true ∧ (T.k i, T.s i) = e
  inj : ∀ i j, i < 128 → j < 128 → i ≠ g → j ≠ g → T.t i = true → T.t j = true → T.k i = T.k j → i = j
  ch : ∀ i, i < 128 → i ≠ g → T.t i = true → ∀ d, d < fr (T.k i % 128) i → T.t ((T.k i % 128 + d) % 128) = true
  z : ∀ i, i < 128 → T.t i = false → T.s i = 0
theorem TL.gap {T : TabS} {L : PL} {k p : Nat} (h : TL T L) (hpl : p < 128) (ht : T.t p = true) (hk : T.k p = k) : Gap T p (dropL L k) :=
  ⟨hpl, ht, fun i hi hne hti => mem_dropL.2 ⟨h.mem i hi hti, fun e => hne (h.inj i p hi hpl hti ht (by rw [hk]; exact e))⟩, fun e he => by
    obtain ⟨he, hne⟩ := mem_dropL.1 he
    obtain ⟨i, hi, hti, hie⟩ := h.of e he
    exact ⟨i, hi, fun e2 => hne (by rw [← hie, e2]; exact hk), hti, hie⟩, fun i j hi hj _ _ => h.inj i j hi hj, fun i hi _ => h.ch i hi, h.z⟩
/-- What stands at a place may stand at the gap. -/
def rch (T : TabS) (g i : Nat) : Bool := decide (fr g i ≤ fr (T.k i % 128) i)
/-- Of the first j behind the gap none may stand there. -/
def Scan (T : TabS) (g j : Nat) : Prop := ∀ d, d < j → T.t ((g + 1 + d) % 128) = true ∧ rch T g ((g + 1 + d) % 128) = false
theorem Scan.zero (T : TabS) (g : Nat) : Scan T g 0 := fun d h => by omega
theorem Scan.next {T : TabS} {g j : Nat} (h : Scan T g j) (h1 : T.t ((g + 1 + j) % 128) = true) (h2 : rch T g ((g + 1 + j) % 128) = false) : Scan T g (j + 1) := fun d hd => by
  by_cases e : d = j
  · subst e
    exact ⟨h1, h2⟩
  · exact h d (by omega)
theorem Scan.le {T : TabS} {g j f : Nat} (h : Scan T g j) (hg : g < 128) (ht : T.t g = true) (hf : f < 128) (hff : T.t f = false) : j < fr g f ∧ fr g f < 128 := by
  have hne : f ≠ g := by
    rintro rfl
    rw [ht] at hff
    cases hff
  have hpos : 0 < fr g f ∧ fr g f < 128 := by unfold fr; omega
  refine ⟨?_, hpos.2⟩
  apply Classical.byContradiction
  intro hj
  have := (h (fr g f - 1) (by omega)).1
  rw [show (g + 1 + (fr g f - 1)) % 128 = f by unfold fr at hpos ⊢; omega, hff] at this
  cases this
theorem Gap.move {T : TabS} {L : PL} {g j a : Nat} (h : Gap T g L) (hj : j < 127) (ha : a = (g + 1 + j) % 128) (ht : T.t a = true) (hr : rch T g a = true) : Gap (T.put g (T.k a) (T.s a) true) a L := by
  have hal : a < 128 := by omega
  have hlt := h.lt
  have hag : a ≠ g := by omega
  have hfr : fr g a ≤ fr (T.k a % 128) a := by simpa [rch] using hr
  have et : (T.put g (T.k a) (T.s a) true).t = T.t := by
    funext i
    by_cases e : i = g
    · subst e
      simp [TabS.put, upd_same, h.t]
    · simp [TabS.put, upd_ne e]
  refine ⟨hal, by rw [et]; exact ht, fun i hi hne hti => ?_, fun e he => ?_, fun i i2 hi hi2 hne hne2 hti hti2 hk => ?_, fun i hi hne hti d hd => ?_, fun i hi hti => ?_⟩
  · rw [et] at hti
    by_cases e : i = g
    · subst e
      simp only [TabS.put, upd_same]
      exact h.mem a hal hag ht
    · simp only [TabS.put, upd_ne e]
      exact h.mem i hi e hti
  · obtain ⟨i, hi, hne, hti, hie⟩ := h.of e he
    by_cases e2 : i = a
    · subst e2
      refine ⟨g, hlt, fun e => hne e.symm, by rw [et]; exact h.t, ?_⟩
      simp only [TabS.put, upd_same]
      exact hie
    · refine ⟨i, hi, e2, by rw [et]; exact hti, ?_⟩
      simp only [TabS.put, upd_ne hne]
      exact hie
  · rw [et] at hti hti2
    by_cases e : i = g
    · by_cases e2 : i2 = g
      · rw [e, e2]
      · simp only [TabS.put, upd_ne e2, e, upd_same] at hk
        exact absurd (h.inj a i2 hal hi2 hag e2 ht hti2 hk).symm hne2
    · by_cases e2 : i2 = g
      · simp only [TabS.put, upd_ne e, e2, upd_same] at hk
        exact absurd (h.inj i a hi hal e hag hti ht hk) hne
      · simp only [TabS.put, upd_ne e, upd_ne e2] at hk
        exact h.inj i i2 hi hi2 e e2 hti hti2 hk
  · rw [et] at hti ⊢
    by_cases e : i = g
    · subst e
      simp only [TabS.put, upd_same] at hd ⊢
      refine h.ch a hal hag ht d ?_
      unfold fr at hd hfr ⊢
      omega
    · simp only [TabS.put, upd_ne e] at hd ⊢
      exact h.ch i hi e hti d hd
  · rw [et] at hti
    have e : i ≠ g := by
      rintro rfl
      rw [h.t] at hti
      cases hti
    simp only [TabS.put, upd_ne e]
    exact h.z i hi hti
theorem Gap.move_free {T : TabS} {L : PL} {g a f : Nat} (h : Gap T g L) (hff : T.t f = false) : (T.put g (T.k a) (T.s a) true).t f = false := by
  have hne : f ≠ g := by
    rintro rfl
    rw [h.t] at hff
    cases hff
  simp only [TabS.put, upd_ne hne]
  exact hff
theorem Gap.shut {T : TabS} {L : PL} {g j : Nat} (h : Gap T g L) (hs : Scan T g j) (hj : j < 127) (ha : T.t ((g + 1 + j) % 128) = false) : TL (T.put g 0 0 false) L := by
  have hlt := h.lt
  have tt : ∀ i, (T.put g 0 0 false).t i = true → i ≠ g ∧ T.t i = true := fun i hi => by
    have e : i ≠ g := by
      rintro rfl
      simp [TabS.put, upd_same] at hi
    simp only [TabS.put, upd_ne e] at hi
    exact ⟨e, hi⟩
  refine ⟨fun i hi hti => ?_, fun e he => ?_, fun i i2 hi hi2 hti hti2 hk => ?_, fun i hi hti d hd => ?_, fun i hi hti => ?_⟩
  · obtain ⟨e, hti⟩ := tt i hti
    simp only [TabS.put, upd_ne e]
    exact h.mem i hi e hti
  · obtain ⟨i, hi, hne, hti, hie⟩ := h.of e he
    refine ⟨i, hi, ?_, ?_⟩
    · simp only [TabS.put, upd_ne hne]
      exact hti
    · simp only [TabS.put, upd_ne hne]
      exact hie
  · obtain ⟨e, hti⟩ := tt i hti
    obtain ⟨e2, hti2⟩ := tt i2 hti2
    simp only [TabS.put, upd_ne e, upd_ne e2] at hk
    exact h.inj i i2 hi hi2 e e2 hti hti2 hk
  · obtain ⟨e, hti⟩ := tt i hti
    simp only [TabS.put, upd_ne e] at hd ⊢
    have hch := h.ch i hi e hti
    have hg : (T.k i % 128 + d) % 128 ≠ g := by
      intro hg
      -- the gap lies on its way: so all from there up to it is taken
      by_cases hx : fr g i ≤ j
      · have h2 := (hs (fr g i - 1) (by unfold fr at hx ⊢; omega)).2
        rw [show (g + 1 + (fr g i - 1)) % 128 = i by unfold fr; omega] at h2
        have h3 : ¬ fr g i ≤ fr (T.k i % 128) i := by simpa [rch] using h2
        apply h3
        unfold fr at hd ⊢
        omega
      · by_cases hy : fr g i = j + 1
        · rw [show (g + 1 + j) % 128 = i by unfold fr at hy; omega, hti] at ha
          cases ha
        · have h4 := hch (d + 1 + j) (by unfold fr at hd hx hy ⊢; omega)
          rw [show (T.k i % 128 + (d + 1 + j)) % 128 = (g + 1 + j) % 128 by omega, ha] at h4
          cases h4
    rw [upd_ne hg]
    exact hch d hd
  · by_cases e : i = g
    · subst e
      simp [TabS.put, upd_same]
    · simp only [TabS.put, upd_ne e] at hti ⊢
      exact h.z i hi hti
end Go.Proofs.Ytmoagooabmmmgaa
