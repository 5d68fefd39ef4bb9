/-
  Keys in an array, laid where a number drawn from them says, or behind; pairs by rising keys. Plain mathematics.
  An index in memory: drawn, next, far, find.
  An index in memory: reaches, free.
  An index in memory: New, Len, Get, Put, Drop.
  An index in memory: Put, Drop.
-/
import Derived.Test.YtajccmkdfmpapaaGreatDoorLruMath
import Derived.Test.YtajccmkdfmpapaaGreatDoorZmC
import Derived.WalkMore
import Derived.Laws.Tables
namespace Go.Proofs.YtajccmkdfmpapaaGreatDoor

/-- Places: their keys, their slots, whether they are taken. -/
structure TabS where
  k : Nat → Nat
  s : Nat → Int
  t : Nat → Bool
def TabS.put (T : TabS) (p k : Nat) (s : Int) (t : Bool) : TabS := ⟨upd T.k p k, upd T.s p s, upd T.t p t⟩
def emptyT : TabS := ⟨fun _ => 0, fun _ => 0, fun _ => false⟩
/-- How many steps lead from a place to another one. -/
def fr (a b : Nat) : Nat := (b + 128 - a) % 128
/-- Pairs: a key, its slot. -/
abbrev PL := List (Nat × Int)
def keysL (L : PL) : List Nat := L.map (·.1)
def getL : PL → Nat → Option Int
  | [], _ => none
  | e :: L, k => if e.1 = k then some e.2 else getL L k
def dropL (L : PL) (k : Nat) : PL := L.filter (fun e => e.1 != k)
def insL : PL → Nat → Int → PL
  | [], k, s => [(k, s)]
  | e :: L, k, s => if e.1 < k then e :: insL L k s else (k, s) :: e :: L
def putL (L : PL) (k : Nat) (s : Int) : PL := insL (dropL L k) k s
def Asc (L : PL) : Prop := L.Pairwise (fun a b => a.1 < b.1)
theorem mem_dropL {L : PL} {k : Nat} {e : Nat × Int} : e ∈ dropL L k ↔ e ∈ L ∧ e.1 ≠ k := by simp [dropL]
theorem mem_insL {k : Nat} {s : Int} {e : Nat × Int} : ∀ {L : PL}, e ∈ insL L k s ↔ e ∈ L ∨ e = (k, s)
  | [] => by simp [insL]
  | x :: L => by
    unfold insL
    by_cases h : x.1 < k
    · rw [if_pos h, List.mem_cons, mem_insL, List.mem_cons, or_assoc]
    · rw [if_neg h, List.mem_cons]
      constructor
      · rintro (h | h)
        · exact .inr h
        · exact .inl h
      · rintro (h | h)
        · exact .inr h
        · exact .inl h
theorem mem_putL {L : PL} {k : Nat} {s : Int} {e : Nat × Int} : e ∈ putL L k s ↔ (e ∈ L ∧ e.1 ≠ k) ∨ e = (k, s) := by
  unfold putL
  rw [mem_insL, mem_dropL]
theorem dropL_asc {L : PL} (h : Asc L) (k : Nat) : Asc (dropL L k) := List.Pairwise.filter _ h
theorem insL_asc {k : Nat} {s : Int} : ∀ {L : PL}, Asc L → (∀ e ∈ L, e.1 ≠ k) → Asc (insL L k s)
  | [], _, _ => by
    unfold insL Asc
    exact List.pairwise_singleton _ _
  | x :: L, h, hk => by
    have h2 := List.pairwise_cons.1 h
    have hx := hk x (by simp)
    unfold insL
    by_cases hlt : x.1 < k
    · rw [if_pos hlt]
      refine List.pairwise_cons.2 ⟨fun e he => ?_, insL_asc h2.2 (fun e he => hk e (by simp [he]))⟩
      rcases mem_insL.1 he with he | rfl
      · exact h2.1 e he
      · exact hlt
    · rw [if_neg hlt]
      refine List.pairwise_cons.2 ⟨fun e he => ?_, h⟩
      rcases List.mem_cons.1 he with rfl | he
      · show k < _
        omega
      · have := h2.1 e he
        show k < _
        omega
theorem putL_asc {L : PL} (h : Asc L) (k : Nat) (s : Int) : Asc (putL L k s) := insL_asc (dropL_asc h k) (fun _ he => (mem_dropL.1 he).2)
theorem insL_len {k : Nat} {s : Int} : ∀ {L : PL}, (insL L k s).length = L.length + 1
  | [] => rfl
  | x :: L => by
    unfold insL
    split
    · rw [List.length_cons, insL_len, List.length_cons]
    · rfl
theorem dropL_not {L : PL} {k : Nat} (h : ∀ e ∈ L, e.1 ≠ k) : dropL L k = L := List.filter_eq_self.2 fun e he => by simpa using h e he
theorem dropL_len {k : Nat} : ∀ {L : PL}, Asc L → (∃ e ∈ L, e.1 = k) → (dropL L k).length + 1 = L.length
  | [], _, h => by
    obtain ⟨_, h, _⟩ := h
    cases h
  | x :: L, h, hk => by
    have h2 := List.pairwise_cons.1 h
    by_cases e : x.1 = k
    · have hn : ∀ e ∈ L, e.1 ≠ k := fun y hy => by
        have := h2.1 y hy
        omega
      unfold dropL
      rw [List.filter_cons_of_neg (by simp [e])]
      have := dropL_not hn
      unfold dropL at this
      rw [this]
      rfl
    · obtain ⟨y, hy, hyk⟩ := hk
      rcases List.mem_cons.1 hy with rfl | hy
      · exact absurd hyk e
      · have := dropL_len h2.2 ⟨y, hy, hyk⟩
        unfold dropL at this ⊢
        rw [List.filter_cons_of_pos (by simp [e]), List.length_cons, List.length_cons, this]
theorem putL_new {L : PL} {k : Nat} {s : Int} (h : ∀ e ∈ L, e.1 ≠ k) : (putL L k s).length = L.length + 1 := by
  unfold putL
  rw [insL_len, dropL_not h]
theorem putL_old {L : PL} {k : Nat} {s : Int} (ha : Asc L) (h : ∃ e ∈ L, e.1 = k) : (putL L k s).length = L.length := by
  unfold putL
  rw [insL_len, dropL_len ha h]
theorem getL_none {k : Nat} : ∀ {L : PL}, (∀ e ∈ L, e.1 ≠ k) → getL L k = none
  | [], _ => rfl
  | x :: L, h => by
    unfold getL
    rw [if_neg (h x (by simp)), getL_none (fun e he => h e (by simp [he]))]
theorem getL_some {k : Nat} {s : Int} : ∀ {L : PL}, Asc L → (k, s) ∈ L → getL L k = some s
  | x :: L, h, hm => by
    have h2 := List.pairwise_cons.1 h
    unfold getL
    rcases List.mem_cons.1 hm with rfl | hm
    · rw [if_pos rfl]
    · have := h2.1 _ hm
      have : x.1 ≠ k := by
        have : x.1 < k := this
        omega
      rw [if_neg this, getL_some h2.2 hm]
theorem getL_mem {k : Nat} {s : Int} : ∀ {L : PL}, getL L k = some s → (k, s) ∈ L
  | [], h => by cases h
  | x :: L, h => by
    unfold getL at h
    by_cases e : x.1 = k
    · rw [if_pos e] at h
      obtain rfl := Option.some.inj h
      subst e
      simp
    · rw [if_neg e] at h
      exact List.mem_cons_of_mem _ (getL_mem h)
theorem getL_no {k : Nat} : ∀ {L : PL}, getL L k = none → ∀ e ∈ L, e.1 ≠ k
  | [], _, _, he => by cases he
  | x :: L, h, e, he => by
    unfold getL at h
    by_cases q : x.1 = k
    · rw [if_pos q] at h
      cases h
    · rw [if_neg q] at h
      rcases List.mem_cons.1 he with rfl | he
      · exact q
      · exact getL_no h e he
theorem asc_uniq {L : PL} (h : Asc L) {k : Nat} {s r : Int} (h1 : (k, s) ∈ L) (h2 : (k, r) ∈ L) : s = r := by
  have := getL_some h h1
  rw [getL_some h h2] at this
  exact (Option.some.inj this).symm

/-- The places T hold the pairs L. -/
structure TL (T : TabS) (L : PL) : Prop where
  mem : ∀ i, i < 128 → T.t i = true → (T.k i, T.s i) ∈ L
  of : ∀ e ∈ L, ∃ i, i < 128 ∧ T.t i = true ∧ (T.k i, T.s i) = e
  inj : ∀ i j, i < 128 → j < 128 → T.t i = true → T.t j = true → T.k i = T.k j → i = j
  ch : ∀ i, i < 128 → T.t i = true → ∀ d, d < fr (T.k i % 128) i → T.t ((T.k i % 128 + d) % 128) = true
  z : ∀ i, i < 128 → T.t i = false → T.s i = 0
theorem TL.empty : TL emptyT [] :=
  ⟨fun _ _ h => (by simp [emptyT] at h), fun _ h => (by cases h), fun _ _ _ _ h => (by simp [emptyT] at h), fun _ _ h => (by simp [emptyT] at h), fun _ _ _ => rfl⟩
theorem nd_sub : ∀ {xs ys : List Nat}, xs.Nodup → (∀ x ∈ xs, x ∈ ys) → xs.length ≤ ys.length
  | [], _, _, _ => by simp
  | x :: xs, ys, hn, h => by
    have h2 := List.nodup_cons.1 hn
    have hx := h x (by simp)
    have := nd_sub (ys := ys.erase x) h2.2 (fun y hy => by
      have hne : y ≠ x := by
        rintro rfl
        exact h2.1 hy
      exact (List.mem_erase_of_ne hne).2 (h y (by simp [hy])))
    rw [List.length_erase_of_mem hx] at this
    have hp := List.length_pos_of_mem hx
    rw [List.length_cons]
    omega
theorem map_nd {f : Nat → Nat} : ∀ n : Nat, (∀ i j, i < n → j < n → f i = f j → i = j) → ((List.range n).map f).Nodup
  | 0, _ => by simp
  | n + 1, h => by
    rw [List.range_succ, List.map_append]
    refine List.nodup_append.2 ⟨map_nd n (fun i j hi hj => h i j (by omega) (by omega)), by simp, ?_⟩
    intro a ha b hb
    simp only [List.mem_map, List.mem_range, List.map_cons, List.map_nil, List.mem_singleton] at ha hb
    obtain ⟨i, hi, rfl⟩ := ha
    subst hb
    intro e
    have := h i n (by omega) (by omega) e
    omega
theorem TL.free {T : TabS} {L : PL} (h : TL T L) (hl : L.length ≤ 64) : ∃ f, f < 128 ∧ T.t f = false := by
  apply Classical.byContradiction
  intro hn
  have ha : ∀ i, i < 128 → T.t i = true := fun i hi => by
    cases e : T.t i with
    | true => rfl
    | false => exact absurd ⟨i, hi, e⟩ hn
  have hnd := map_nd (f := T.k) 128 (fun i j hi hj e => h.inj i j hi hj (ha i hi) (ha j hj) e)
  have := nd_sub (ys := keysL L) hnd (fun x hx => by
    simp only [List.mem_map, List.mem_range] at hx
    obtain ⟨i, hi, rfl⟩ := hx
    exact List.mem_map.2 ⟨_, h.mem i hi (ha i hi), rfl⟩)
  simp [keysL] at this
  omega

/-- Up to j steps behind where k is drawn to, other keys stand. -/
def Way (T : TabS) (k j : Nat) : Prop := ∀ d, d < j → T.t ((k % 128 + d) % 128) = true ∧ T.k ((k % 128 + d) % 128) ≠ k
theorem Way.zero (T : TabS) (k : Nat) : Way T k 0 := fun d h => by omega
theorem Way.le {T : TabS} {k j f : Nat} (h : Way T k j) (hf : f < 128) (ht : T.t f = false) : j < 128 := by
  apply Classical.byContradiction
  intro hj
  have := (h (fr (k % 128) f) (by unfold fr; omega)).1
  have e : (k % 128 + fr (k % 128) f) % 128 = f := by unfold fr; omega
  rw [e, ht] at this
  cases this
theorem Way.next {T : TabS} {k j : Nat} (h : Way T k j) (h1 : T.t ((k % 128 + j) % 128) = true) (h2 : T.k ((k % 128 + j) % 128) ≠ k) : Way T k (j + 1) := fun d hd => by
  by_cases e : d = j
  · subst e
    exact ⟨h1, h2⟩
  · exact h d (by omega)
theorem Way.none {T : TabS} {L : PL} {k j : Nat} (h : Way T k j) (hT : TL T L) (hj : j < 128) (hp : T.t ((k % 128 + j) % 128) = false) : ∀ e ∈ L, e.1 ≠ k := by
  intro e he hk
  obtain ⟨q, hq, ht, hqe⟩ := hT.of e he
  have hqk : T.k q = k := by
    rw [← hk, ← hqe]
  have hch := hT.ch q hq ht
  rw [hqk] at hch
  by_cases hd : fr (k % 128) q < j
  · have h2 := (h _ hd).2
    rw [show (k % 128 + fr (k % 128) q) % 128 = q by unfold fr; omega] at h2
    exact h2 hqk
  · by_cases hd2 : fr (k % 128) q = j
    · rw [← hd2, show (k % 128 + fr (k % 128) q) % 128 = q by unfold fr; omega, ht] at hp
      cases hp
    · rw [hch j (by omega)] at hp
      cases hp
theorem TL.put_new {T : TabS} {L : PL} {k j p : Nat} (h : TL T L) (s : Int) (hw : Way T k j) (hj : j < 128) (hp : p = (k % 128 + j) % 128) (ht : T.t p = false) : TL (T.put p k s true) (putL L k s) := by
  subst hp
  have hno := hw.none h hj ht
  obtain ⟨p, hp⟩ : ∃ p, (k % 128 + j) % 128 = p := ⟨_, rfl⟩
  rw [hp] at ht ⊢
  have hpl : p < 128 := by omega
  have ne : ∀ i, T.t i = true → i ≠ p := fun i hi e => by
    rw [e, ht] at hi
    cases hi
  have up : ∀ i, T.t i = true → (T.put p k s true).t i = true := fun i hi => by
    simp only [TabS.put]
    rw [upd_ne (ne i hi)]
    exact hi
  refine ⟨fun i hi hti => ?_, fun e he => ?_, fun i i2 hi hi2 hti hti2 hk => ?_, fun i hi hti d hd => ?_, fun i hi hti => ?_⟩
  · by_cases e : i = p
    · subst e
      simp only [TabS.put, upd_same]
      exact mem_putL.2 (.inr rfl)
    · simp only [TabS.put, upd_ne e] at hti ⊢
      have := h.mem i hi hti
      exact mem_putL.2 (.inl ⟨this, hno _ this⟩)
  · rcases mem_putL.1 he with ⟨he, _⟩ | rfl
    · obtain ⟨i, hi, hti, hie⟩ := h.of e he
      refine ⟨i, hi, up i hti, ?_⟩
      simp only [TabS.put, upd_ne (ne i hti)]
      exact hie
    · exact ⟨p, hpl, by simp [TabS.put, upd_same], by simp [TabS.put, upd_same]⟩
  · by_cases e : i = p
    · by_cases e2 : i2 = p
      · rw [e, e2]
      · simp only [TabS.put, upd_ne e2, e, upd_same] at hti2 hk
        exact absurd hk.symm (hno _ (h.mem i2 hi2 hti2))
    · by_cases e2 : i2 = p
      · simp only [TabS.put, upd_ne e, e2, upd_same] at hti hk
        exact absurd hk (hno _ (h.mem i hi hti))
      · simp only [TabS.put, upd_ne e, upd_ne e2] at hti hti2 hk
        exact h.inj i i2 hi hi2 hti hti2 hk
  · by_cases e : i = p
    · subst e
      simp only [TabS.put, upd_same] at hd ⊢
      refine up _ (hw d ?_).1
      rw [← hp] at hd
      unfold fr at hd
      omega
    · simp only [TabS.put, upd_ne e] at hti hd ⊢
      exact up _ (h.ch i hi hti d hd)
  · have e : i ≠ p := by
      rintro rfl
      simp [TabS.put, upd_same] at hti
    simp only [TabS.put, upd_ne e] at hti ⊢
    exact h.z i hi hti
theorem TL.put_old {T : TabS} {L : PL} {k p : Nat} (h : TL T L) (s : Int) (hpl : p < 128) (ht : T.t p = true) (hk : T.k p = k) : TL (T.put p k s true) (putL L k s) := by
  have et : (T.put p k s true).t = T.t := by
    funext i
    by_cases e : i = p
    · subst e
      simp [TabS.put, upd_same, ht]
    · simp [TabS.put, upd_ne e]
  have ek : (T.put p k s true).k = T.k := by
    funext i
    by_cases e : i = p
    · subst e
      simp [TabS.put, upd_same, hk]
    · simp [TabS.put, upd_ne e]
  refine ⟨fun i hi hti => ?_, fun e he => ?_, ?_, ?_, fun i hi hti => ?_⟩
  · rw [et] at hti
    by_cases e : i = p
    · subst e
      rw [ek, hk]
      simp only [TabS.put, upd_same]
      exact mem_putL.2 (.inr rfl)
    · rw [ek]
      simp only [TabS.put, upd_ne e]
      refine mem_putL.2 (.inl ⟨h.mem i hi hti, fun e2 => e ?_⟩)
      exact h.inj i p hi hpl hti ht (by rw [hk]; exact e2)
  · rw [et, ek]
    rcases mem_putL.1 he with ⟨he, hne⟩ | rfl
    · obtain ⟨i, hi, hti, hie⟩ := h.of e he
      have e2 : i ≠ p := by
        rintro rfl
        rw [← hie] at hne
        exact hne hk
      refine ⟨i, hi, hti, ?_⟩
      simp only [TabS.put, upd_ne e2]
      exact hie
    · exact ⟨p, hpl, ht, by simp [TabS.put, upd_same, hk]⟩
  · rw [et, ek]
    exact h.inj
  · rw [et, ek]
    exact h.ch
  · rw [et] at hti
    have e : i ≠ p := by
      rintro rfl
      rw [ht] at hti
      cases hti
    simp only [TabS.put, upd_ne e]
    exact h.z i hi hti

/-- All but what stands at the gap holds the pairs L; the gap counts as taken. -/
structure Gap (T : TabS) (g : Nat) (L : PL) : Prop where
  lt : g < 128
  t : T.t g = true
  mem : ∀ i, i < 128 → i ≠ g → T.t i = true → (T.k i, T.s i) ∈ L
  of : ∀ e ∈ L, ∃ i, i < 128 ∧ i ≠ g ∧ T.t i = true ∧ (T.k i, T.s i) = e
  inj : ∀ i j, i < 128 → j < 128 → i ≠ g → j ≠ g → T.t i = true → T.t j = true → T.k i = T.k j → i = j
  ch : ∀ i, i < 128 → i ≠ g → T.t i = true → ∀ d, d < fr (T.k i % 128) i → T.t ((T.k i % 128 + d) % 128) = true
  z : ∀ i, i < 128 → T.t i = false → T.s i = 0
theorem TL.gap {T : TabS} {L : PL} {k p : Nat} (h : TL T L) (hpl : p < 128) (ht : T.t p = true) (hk : T.k p = k) : Gap T p (dropL L k) :=
  ⟨hpl, ht, fun i hi hne hti => mem_dropL.2 ⟨h.mem i hi hti, fun e => hne (h.inj i p hi hpl hti ht (by rw [hk]; exact e))⟩, fun e he => by
    obtain ⟨he, hne⟩ := mem_dropL.1 he
    obtain ⟨i, hi, hti, hie⟩ := h.of e he
    exact ⟨i, hi, fun e2 => hne (by rw [← hie, e2]; exact hk), hti, hie⟩, fun i j hi hj _ _ => h.inj i j hi hj, fun i hi _ => h.ch i hi, h.z⟩
/-- What stands at a place may stand at the gap. -/
def rch (T : TabS) (g i : Nat) : Bool := decide (fr g i ≤ fr (T.k i % 128) i)
/-- Of the first j behind the gap none may stand there. -/
def Scan (T : TabS) (g j : Nat) : Prop := ∀ d, d < j → T.t ((g + 1 + d) % 128) = true ∧ rch T g ((g + 1 + d) % 128) = false
theorem Scan.zero (T : TabS) (g : Nat) : Scan T g 0 := fun d h => by omega
theorem Scan.next {T : TabS} {g j : Nat} (h : Scan T g j) (h1 : T.t ((g + 1 + j) % 128) = true) (h2 : rch T g ((g + 1 + j) % 128) = false) : Scan T g (j + 1) := fun d hd => by
  by_cases e : d = j
  · subst e
    exact ⟨h1, h2⟩
  · exact h d (by omega)
theorem Scan.le {T : TabS} {g j f : Nat} (h : Scan T g j) (hg : g < 128) (ht : T.t g = true) (hf : f < 128) (hff : T.t f = false) : j < fr g f ∧ fr g f < 128 := by
  have hne : f ≠ g := by
    rintro rfl
    rw [ht] at hff
    cases hff
  have hpos : 0 < fr g f ∧ fr g f < 128 := by unfold fr; omega
  refine ⟨?_, hpos.2⟩
  apply Classical.byContradiction
  intro hj
  have := (h (fr g f - 1) (by omega)).1
  rw [show (g + 1 + (fr g f - 1)) % 128 = f by unfold fr at hpos ⊢; omega, hff] at this
  cases this
theorem Gap.move {T : TabS} {L : PL} {g j a : Nat} (h : Gap T g L) (hj : j < 127) (ha : a = (g + 1 + j) % 128) (ht : T.t a = true) (hr : rch T g a = true) : Gap (T.put g (T.k a) (T.s a) true) a L := by
  have hal : a < 128 := by omega
  have hlt := h.lt
  have hag : a ≠ g := by omega
  have hfr : fr g a ≤ fr (T.k a % 128) a := by simpa [rch] using hr
  have et : (T.put g (T.k a) (T.s a) true).t = T.t := by
    funext i
    by_cases e : i = g
    · subst e
      simp [TabS.put, upd_same, h.t]
    · simp [TabS.put, upd_ne e]
  refine ⟨hal, by rw [et]; exact ht, fun i hi hne hti => ?_, fun e he => ?_, fun i i2 hi hi2 hne hne2 hti hti2 hk => ?_, fun i hi hne hti d hd => ?_, fun i hi hti => ?_⟩
  · rw [et] at hti
    by_cases e : i = g
    · subst e
      simp only [TabS.put, upd_same]
      exact h.mem a hal hag ht
    · simp only [TabS.put, upd_ne e]
      exact h.mem i hi e hti
  · obtain ⟨i, hi, hne, hti, hie⟩ := h.of e he
    by_cases e2 : i = a
    · subst e2
      refine ⟨g, hlt, fun e => hne e.symm, by rw [et]; exact h.t, ?_⟩
      simp only [TabS.put, upd_same]
      exact hie
    · refine ⟨i, hi, e2, by rw [et]; exact hti, ?_⟩
      simp only [TabS.put, upd_ne hne]
      exact hie
  · rw [et] at hti hti2
    by_cases e : i = g
    · by_cases e2 : i2 = g
      · rw [e, e2]
      · simp only [TabS.put, upd_ne e2, e, upd_same] at hk
        exact absurd (h.inj a i2 hal hi2 hag e2 ht hti2 hk).symm hne2
    · by_cases e2 : i2 = g
      · simp only [TabS.put, upd_ne e, e2, upd_same] at hk
        exact absurd (h.inj i a hi hal e hag hti ht hk) hne
      · simp only [TabS.put, upd_ne e, upd_ne e2] at hk
        exact h.inj i i2 hi hi2 e e2 hti hti2 hk
  · rw [et] at hti ⊢
    by_cases e : i = g
    · subst e
      simp only [TabS.put, upd_same] at hd ⊢
      refine h.ch a hal hag ht d ?_
      unfold fr at hd hfr ⊢
      omega
    · simp only [TabS.put, upd_ne e] at hd ⊢
      exact h.ch i hi e hti d hd
  · rw [et] at hti
    have e : i ≠ g := by
      rintro rfl
      rw [h.t] at hti
      cases hti
    simp only [TabS.put, upd_ne e]
    exact h.z i hi hti
theorem Gap.move_free {T : TabS} {L : PL} {g a f : Nat} (h : Gap T g L) (hff : T.t f = false) : (T.put g (T.k a) (T.s a) true).t f = false := by
  have hne : f ≠ g := by
    rintro rfl
    rw [h.t] at hff
    cases hff
  simp only [TabS.put, upd_ne hne]
  exact hff
theorem Gap.shut {T : TabS} {L : PL} {g j : Nat} (h : Gap T g L) (hs : Scan T g j) (hj : j < 127) (ha : T.t ((g + 1 + j) % 128) = false) : TL (T.put g 0 0 false) L := by
  have hlt := h.lt
  have tt : ∀ i, (T.put g 0 0 false).t i = true → i ≠ g ∧ T.t i = true := fun i hi => by
    have e : i ≠ g := by
      rintro rfl
      simp [TabS.put, upd_same] at hi
    simp only [TabS.put, upd_ne e] at hi
    exact ⟨e, hi⟩
  refine ⟨fun i hi hti => ?_, fun e he => ?_, fun i i2 hi hi2 hti hti2 hk => ?_, fun i hi hti d hd => ?_, fun i hi hti => ?_⟩
  · obtain ⟨e, hti⟩ := tt i hti
    simp only [TabS.put, upd_ne e]
    exact h.mem i hi e hti
  · obtain ⟨i, hi, hne, hti, hie⟩ := h.of e he
    refine ⟨i, hi, ?_, ?_⟩
    · simp only [TabS.put, upd_ne hne]
      exact hti
    · simp only [TabS.put, upd_ne hne]
      exact hie
  · obtain ⟨e, hti⟩ := tt i hti
    obtain ⟨e2, hti2⟩ := tt i2 hti2
    simp only [TabS.put, upd_ne e, upd_ne e2] at hk
    exact h.inj i i2 hi hi2 e e2 hti hti2 hk
  · obtain ⟨e, hti⟩ := tt i hti
    simp only [TabS.put, upd_ne e] at hd ⊢
    have hch := h.ch i hi e hti
    have hg : (T.k i % 128 + d) % 128 ≠ g := by
      intro hg
      -- the gap lies on its way: so all from there up to it is taken
      by_cases hx : fr g i ≤ j
      · have h2 := (hs (fr g i - 1) (by unfold fr at hx ⊢; omega)).2
        rw [show (g + 1 + (fr g i - 1)) % 128 = i by unfold fr; omega] at h2
        have h3 : ¬ fr g i ≤ fr (T.k i % 128) i := by simpa [rch] using h2
        apply h3
        unfold fr at hd ⊢
        omega
      · by_cases hy : fr g i = j + 1
        · rw [show (g + 1 + j) % 128 = i by unfold fr at hy; omega, hti] at ha
          cases ha
        · have h4 := hch (d + 1 + j) (by unfold fr at hd hx hy ⊢; omega)
          rw [show (T.k i % 128 + (d + 1 + j)) % 128 = (g + 1 + j) % 128 by omega, ha] at h4
          cases h4
    rw [upd_ne hg]
    exact hch d hd
  · by_cases e : i = g
    · subst e
      simp [TabS.put, upd_same]
    · simp only [TabS.put, upd_ne e] at hti ⊢
      exact h.z i hi hti
end Go.Proofs.YtajccmkdfmpapaaGreatDoor
namespace Go.Proofs.YtajccmkdfmpapaaGreatDoor
open Go.RowKit

/-- The cells cs are the places T. -/
def PlC (cs : List Value) (T : TabS) : Prop := ∀ i, i < 128 → cs[2 + i * 3]? = some (.int .u32 (T.k i : Int)) ∧ cs[2 + i * 3 + 1]? = some (.int .i64 (T.s i)) ∧ cs[2 + i * 3 + 2]? = some (.bool (T.t i))
theorem PlC.put {cs : List Value} {T : TabS} (h : PlC cs T) (p : Nat) (hp : p < 128) (k : Nat) (s : Int) (t : Bool) : PlC (((cs.set (2 + p * 3) (.int .u32 (k : Int))).set (2 + p * 3 + 1) (.int .i64 s)).set (2 + p * 3 + 2) (.bool t)) (T.put p k s t) := by
  intro i hi
  obtain ⟨a, b, c⟩ := h i hi
  by_cases e : i = p
  · subst e
    simp only [TabS.put, upd_same]
    refine ⟨?_, ?_, ?_⟩
    · rw [set_off (by omega), set_off (by omega), set_at a]
    · rw [set_off (by omega), set_at (x := .int .i64 (T.s i))]
      rw [set_off (by omega)]
      exact b
    · rw [set_at (x := .bool (T.t i))]
      rw [set_off (by omega), set_off (by omega)]
      exact c
  · simp only [TabS.put, upd_ne e]
    refine ⟨?_, ?_, ?_⟩
    · rw [set_off (by omega), set_off (by omega), set_off (by omega)]
      exact a
    · rw [set_off (by omega), set_off (by omega), set_off (by omega)]
      exact b
    · rw [set_off (by omega), set_off (by omega), set_off (by omega)]
      exact c
theorem PlC.head {cs : List Value} {T : TabS} (h : PlC cs T) {k : Nat} (hk : k < 2) (v : Value) : PlC (cs.set k v) T := by
  intro i hi
  obtain ⟨a, b, c⟩ := h i hi
  rw [set_off (by omega), set_off (by omega), set_off (by omega)]
  exact ⟨a, b, c⟩
/-- Block kb is an index: places T, how many keys, how many may be. -/
structure IxC (w : World) (kb : Nat) (cs : List Value) (T : TabS) (many room : Nat) : Prop where
  b : Blk w kb 105 cs
  len : cs.length = 386
  r : cs[0]? = some (.int .i64 (room : Int))
  m : cs[1]? = some (.int .i64 (many : Int))
  p : PlC cs T
theorem IxC.keep {F : Nat → Prop} {w w' : World} {kb : Nat} {cs : List Value} {T : TabS} {m r : Nat} (h : IxC w kb cs T m r) (hk : Kept F w w') (hn : ¬ F kb) : IxC w' kb cs T m r := ⟨hk.blk h.b hn, h.len, h.r, h.m, h.p⟩
theorem IxC.up {w w' : World} {kb : Nat} {cs : List Value} {T : TabS} {m r : Nat} (h : IxC w kb cs T m r) (hb : Below w.heap.size w w') : IxC w' kb cs T m r := h.keep (F := fun _ => False) (Kept.of_below hb) id
theorem IxC.drew {w : World} {kb : Nat} {cs : List Value} {T : TabS} {m r : Nat} (h : IxC w kb cs T m r) : IxC w.drew kb cs T m r := h.up (Below.refl _ _).drew
theorem IxC.at {w : World} {kb : Nat} {cs : List Value} {T : TabS} {m r : Nat} (h : IxC w kb cs T m r) {i : Nat} (hi : i < 128) : w.cell? ⟨kb, 2 + i * 3, none⟩ = some (.int .u32 (T.k i : Int)) ∧ w.cell? ⟨kb, 2 + i * 3 + 1, none⟩ = some (.int .i64 (T.s i)) ∧ w.cell? ⟨kb, 2 + i * 3 + 2, none⟩ = some (.bool (T.t i)) := by
  obtain ⟨a, b, c⟩ := h.p i hi
  exact ⟨h.b.at a, h.b.at b, h.b.at c⟩

section
variable {w : World}
theorem xdrawn_at (k : Nat) : Calls Tryz.prog 78 #[.int .u32 (k : Int)] w (IntIs ((k % 128 : Nat) : Int) w) := by
  go_enter Tryz.func78, Tryz.ntmps78
  go_wp2_with fail
  go_ret
  exact ⟨ret_int (by omega), rfl⟩
theorem xnext_at (i : Nat) (hi : i < 128) : Calls Tryz.prog 79 #[.int .i64 (i : Int)] w (IntIs (((i + 1) % 128 : Nat) : Int) w) := by
  go_enter Tryz.func79, Tryz.ntmps79
  go_wp2_with fail
  go_ret
  exact ⟨ret_int (by omega), rfl⟩
theorem xfar_at (a b : Nat) (ha : a < 128) (hb : b < 128) : Calls Tryz.prog 83 #[.int .i64 (a : Int), .int .i64 (b : Int)] w (IntIs ((fr a b : Nat) : Int) w) := by
  go_enter Tryz.func83, Tryz.ntmps83
  go_wp2_with fail
  go_ret
  exact ⟨ret_int (by unfold fr; omega), rfl⟩
end
/-- What find answers. -/
def FindTo (T : TabS) (k : Nat) (w : World) (r : Ending) (w' : World) : Prop :=
  ∃ j p, j < 128 ∧ p = (k % 128 + j) % 128 ∧ Way T k j ∧ (T.t p = true → T.k p = k) ∧ r = .returned (.tuple #[.int .i64 (p : Int), .bool (T.t p)]) ∧ Below w.heap.size w w'
section
variable {w : World} {kb m r : Nat} {cs : List Value} {T : TabS}
set_option maxHeartbeats 1000000 in
theorem xfind_at (k f : Nat) (h : IxC w kb cs T m r) (hf : f < 128) (hff : T.t f = false) : Calls Tryz.prog 68 #[.pointer (some ⟨kb, 0, none⟩), .int .u32 (k : Int)] w (FindTo T k w) := by
  have HX := Lib.hid h
  clear h
  go_enter Tryz.func68, Tryz.ntmps68
  go_wp2_with fail
  refine (xdrawn_at k).mono ?_
  rintro r w' ⟨rfl, rfl⟩
  go_wp2_with fail
  go_loopg [6] 128 (fun n i wr => ∃ j p : Nat, j < 128 ∧ n = 128 - j ∧ p = (k % 128 + j) % 128 ∧ i = .int .i64 (p : Int) ∧ Way T k j ∧ Below w.heap.size w wr)
  case atStart => exact ⟨0, k % 128, by omega, by omega, by omega, rfl, Way.zero T k, Below.refl _ _⟩
  case round =>
    obtain ⟨j, p, hj, hm, hp, rfl, hw, hb⟩ := hrel
    have HB := Lib.hid hb
    have HM := Lib.hid hm
    have HW := Lib.hid hw
    have HP := Lib.hid hp
    have hpl : p < 128 := by omega
    obtain ⟨c0, c1, c2⟩ := (HX.out.up HB.out).at hpl
    clear hb hm hw hp c1
    cases ht : T.t p with
    | false =>
      rw [ht] at c2
      have HE : Hid (∀ w', Below w.heap.size w w' → FindTo T k w (.returned (.tuple #[.int .i64 (p : Int), .bool false])) w') := Lib.hid (fun w' hb => ⟨j, p, hj, HP.out, HW.out, fun e => (by rw [ht] at e; cases e), (by rw [ht]), hb⟩)
      clear ht
      go_wp2_with fail
      go_region
      go_wp2_with fail
      go_ret2
      exact HE.out _ HB.out.drew
    | true =>
      rw [ht] at c2
      by_cases hk : T.k p = k
      · have HE : Hid (∀ w', Below w.heap.size w w' → FindTo T k w (.returned (.tuple #[.int .i64 (p : Int), .bool true])) w') := Lib.hid (fun w' hb => ⟨j, p, hj, HP.out, HW.out, fun _ => hk, (by rw [ht]), hb⟩)
        rw [hk] at c0
        clear ht hk
        have q : ((k : Int) != (k : Int)) = false := by simp
        go_wp2_with fail
        go_region
        go_wp2_with fail
        go_ret2
        exact HE.out _ HB.out.drew
      · have HN : Hid (Way T k (j + 1)) := Lib.hid (HW.out.next (by rw [← HP.out]; exact ht) (by rw [← HP.out]; exact hk))
        have hj1 := HN.out.le hf hff
        have q : ((T.k p : Int) != (k : Int)) = true := by simp; omega
        have HP2 : Hid ((p + 1) % 128 = (k % 128 + (j + 1)) % 128) := Lib.hid (by have := HP.out; omega)
        clear ht hk
        go_wp2_with fail
        refine (xnext_at p hpl).mono ?_
        rintro r w' ⟨rfl, rfl⟩
        go_wp2_with fail
        go_roundg (128 - (j + 1))
        case rel => exact ⟨j + 1, (p + 1) % 128, hj1, rfl, HP2.out, rfl, HN.out, HB.out⟩
        case measure => have := HM.out; omega
end
end Go.Proofs.YtajccmkdfmpapaaGreatDoor
namespace Go.Proofs.YtajccmkdfmpapaaGreatDoor
open Go.RowKit

section
variable {w : World} {kb m r : Nat} {cs : List Value} {T : TabS}
theorem xreaches_at (g i : Nat) (hg : g < 128) (hi : i < 128) (h : IxC w kb cs T m r) : Calls Tryz.prog 80 #[.pointer (some ⟨kb, 0, none⟩), .int .i64 (g : Int), .int .i64 (i : Int)] w (BoolIs (rch T g i) w) := by
  obtain ⟨c0, _, _⟩ := h.at hi
  clear h
  obtain ⟨k, hk⟩ : ∃ k, T.k i = k := ⟨_, rfl⟩
  have HR : Hid (rch T g i = decide (fr g i ≤ fr (k % 128) i)) := Lib.hid (by
    unfold rch
    rw [hk])
  rw [hk] at c0
  rw [HR.out]
  have F1 := Lib.hid (xfar_at (w := w) (k % 128) i (by omega) hi)
  have F2 := Lib.hid (xfar_at (w := w) g i hg hi)
  generalize fr g i = x at *
  generalize fr (k % 128) i = y at *
  clear HR hk
  go_enter Tryz.func80, Tryz.ntmps80
  go_wp2_with fail
  refine (xdrawn_at k).mono ?_
  rintro r w' ⟨rfl, rfl⟩
  go_wp2_with fail
  refine F1.out.mono ?_
  rintro r w' ⟨rfl, rfl⟩
  go_wp2_with fail
  refine F2.out.mono ?_
  rintro r w' ⟨rfl, rfl⟩
  go_wp2_with fail
  go_ret
  exact ⟨rfl, rfl⟩
/-- The block, once a place is written. -/
theorem IxC.put (h : IxC w kb cs T m r) (p : Nat) (hp : p < 128) (k : Nat) (s : Int) (t : Bool) : IxC (((w.setCell ⟨kb, 2 + p * 3, none⟩ (.int .u32 (k : Int))).setCell ⟨kb, 2 + p * 3 + 1, none⟩ (.int .i64 s)).setCell ⟨kb, 2 + p * 3 + 2, none⟩ (.bool t)) kb (((cs.set (2 + p * 3) (.int .u32 (k : Int))).set (2 + p * 3 + 1) (.int .i64 s)).set (2 + p * 3 + 2) (.bool t)) (T.put p k s t) m r :=
  ⟨((h.b.put _ _).put _ _).put _ _, by simp [h.len], by rw [set_off (by omega), set_off (by omega), set_off (by omega)]; exact h.r, by rw [set_off (by omega), set_off (by omega), set_off (by omega)]; exact h.m, h.p.put p hp k s t⟩
theorem kept_put3 {F : Nat → Prop} {a w : World} {kb : Nat} (h : Kept F a w) (hF : F kb) (x y z : Nat) (u v t : Value) : Kept F a (((w.setCell ⟨kb, x, none⟩ u).setCell ⟨kb, y, none⟩ v).setCell ⟨kb, z, none⟩ t) := ((h.put (.inl hF) x u).put (.inl hF) y v).put (.inl hF) z t
/-- What free does. -/
def FreeTo (kb m r : Nat) (L : PL) (w w' : World) : Prop := (∃ cs T, IxC w' kb cs T m r ∧ TL T L) ∧ Kept (fun k => k = kb) w w'
set_option maxHeartbeats 2000000 in
theorem xfree_at (g f : Nat) (L : PL) (h : IxC w kb cs T m r) (hG : Gap T g L) (hf : f < 128) (hff : T.t f = false) : Calls Tryz.prog 69 #[.pointer (some ⟨kb, 0, none⟩), .int .i64 (g : Int)] w (fun e w' => e = .returned (.tuple #[]) ∧ FreeTo kb m r L w w') := by
  have HS : Hid (∃ cs T, IxC w kb cs T m r ∧ Gap T g L ∧ T.t f = false) := Lib.hid ⟨cs, T, h, hG, hff⟩
  clear h hG hff
  go_enter Tryz.func69, Tryz.ntmps69
  go_wp2_with fail
  go_step3
  go_wp2_with fail
  go_step3
  go_wp2_with fail
  go_loopg [1] (fr g f) (fun n x wr => ∃ g : Nat, x = .int .i64 (g : Int) ∧ n = fr g f ∧ (∃ cs T, IxC wr kb cs T m r ∧ Gap T g L ∧ T.t f = false) ∧ Kept (fun k => k = kb) w wr)
  case atStart => exact ⟨g, rfl, rfl, HS.out, Kept.refl _ _⟩
  case round =>
    clear HS
    obtain ⟨g, rfl, hn, ⟨cs, T, hC, hG, hff⟩, hk⟩ := hrel
    have HN := Lib.hid hn
    have HC := Lib.hid hC
    have HG := Lib.hid hG
    have HF := Lib.hid hff
    have HK := Lib.hid hk
    have hgl := hG.lt
    clear hn hC hG hff hk
    go_wp2_with fail
    refine (xnext_at g hgl).mono ?_
    rintro r w' ⟨rfl, rfl⟩
    go_wp2_with fail
    go_loopg [1, 4] 128 (fun n y x w2 => ∃ j a : Nat, a = (g + 1 + j) % 128 ∧ y = .int .i64 (g : Int) ∧ x = .int .i64 (a : Int) ∧ n = 128 - j ∧ Scan T g j ∧ w2 = wr)
    case atStart => exact ⟨0, (g + 1) % 128, by omega, rfl, rfl, rfl, Scan.zero T g, rfl⟩
    case round =>
      obtain ⟨j, a, ha, rfl, rfl, hn, hs, rfl⟩ := hrel
      have HM := Lib.hid hn
      have HA := Lib.hid ha
      have HSC := Lib.hid hs
      have hal : a < 128 := by omega
      obtain ⟨c0, c1, c2⟩ := HC.out.at hal
      have hj := (HSC.out.le hgl HG.out.t hf HF.out)
      have hjj : j < 127 := by omega
      clear hn ha hs
      cases ht : T.t a with
      | false =>
        rw [ht] at c2
        have HE : Hid (TL (T.put g 0 0 false) L) := Lib.hid (HG.out.shut HSC.out hjj (by rw [← HA.out]; exact ht))
        have HP := Lib.hid (HC.out.put g hgl 0 0 false)
        have HKP := Lib.hid (kept_put3 HK.out rfl (2 + g * 3) (2 + g * 3 + 1) (2 + g * 3 + 2) (.int .u32 0) (.int .i64 0) (.bool false))
        obtain ⟨d0, d1, d2⟩ := HC.out.at hgl
        have f0 := HC.out.b.free (2 + g * 3)
        have f1 := HC.out.b.free (2 + g * 3 + 1)
        have f2 := HC.out.b.free (2 + g * 3 + 2)
        clear ht
        go_wp2_with fail
        rw [Exit.noGoto_ret]
        show bodyPost Tryz.prog Tryz.f69 _ Exit.ret _ _
        refine bodyPost_ret (results_none rfl _ _ _) rfl ?_
        exact ⟨rfl, ⟨_, _, HP.out, HE.out⟩, HKP.out⟩
      | true =>
        rw [ht] at c2
        have HRE := Lib.hid (xreaches_at g a hgl hal HC.out)
        cases hr : rch T g a with
        | false =>
          rw [hr] at HRE
          have HN : Hid (Scan T g (j + 1)) := Lib.hid (HSC.out.next (by rw [← HA.out]; exact ht) (by rw [← HA.out]; exact hr))
          have HA2 : Hid ((a + 1) % 128 = (g + 1 + (j + 1)) % 128) := Lib.hid (by have := HA.out; omega)
          clear ht hr
          go_wp2_with fail
          refine HRE.out.mono ?_
          rintro r w' ⟨rfl, rfl⟩
          go_wp2_with fail
          refine (xnext_at a hal).mono ?_
          rintro r w' ⟨rfl, rfl⟩
          go_wp2_with fail
          go_roundg (128 - (j + 1))
          case rel => exact ⟨j + 1, (a + 1) % 128, HA2.out, rfl, rfl, rfl, HN.out, rfl⟩
          case measure => have := HM.out; omega
        | true =>
          rw [hr] at HRE
          have HG2 : Hid (Gap (T.put g (T.k a) (T.s a) true) a L) := Lib.hid (HG.out.move hjj HA.out ht hr)
          have HF2 : Hid ((T.put g (T.k a) (T.s a) true).t f = false) := Lib.hid (HG.out.move_free HF.out)
          have HP := Lib.hid (HC.out.put g hgl (T.k a) (T.s a) true)
          have HKP := Lib.hid (kept_put3 HK.out rfl (2 + g * 3) (2 + g * 3 + 1) (2 + g * 3 + 2) (.int .u32 (T.k a : Int)) (.int .i64 (T.s a)) (.bool true))
          have hlt : fr a f < fr g f := by have := HA.out; unfold fr at hj ⊢; omega
          obtain ⟨d0, d1, d2⟩ := HC.out.at hgl
          have f0 := HC.out.b.free (2 + g * 3)
          have f1 := HC.out.b.free (2 + g * 3 + 1)
          have f2 := HC.out.b.free (2 + g * 3 + 2)
          clear ht hr
          go_wp2_with fail
          refine HRE.out.mono ?_
          rintro r w' ⟨rfl, rfl⟩
          go_wp2_with fail
          go_region
          go_wp2_with fail
          go_roundg (fr a f)
          case rel => exact ⟨a, rfl, rfl, ⟨_, _, HP.out.drew, HG2.out, HF2.out⟩, HKP.out.drew⟩
          case measure => have := HN.out; omega
end
end Go.Proofs.YtajccmkdfmpapaaGreatDoor
namespace Go.Proofs.YtajccmkdfmpapaaGreatDoor
open Go.RowKit

/-- An index: pairs by rising keys; how many may be. -/
structure IxS where
  L : PL
  room : Nat
namespace IxS
structure WF (S : IxS) : Prop where
  asc : Asc S.L
  le : S.L.length ≤ S.room
  r1 : 1 ≤ S.room
  r64 : S.room ≤ 64
def has (S : IxS) (k : Nat) : Bool := (getL S.L k).isSome
def getN (S : IxS) (k : Nat) : Int := (getL S.L k).getD 0
def putB (S : IxS) (k : Nat) : Bool := S.has k || decide (S.L.length < S.room)
def putS (S : IxS) (k : Nat) (s : Int) : IxS := if S.putB k = true then { S with L := putL S.L k s } else S
def dropS (S : IxS) (k : Nat) : IxS := { S with L := dropL S.L k }
theorem has_mem {S : IxS} {k : Nat} (h : S.has k = true) : ∃ e ∈ S.L, e.1 = k := by
  unfold has at h
  obtain ⟨s, hs⟩ := Option.isSome_iff_exists.1 h
  exact ⟨_, getL_mem hs, rfl⟩
theorem has_no {S : IxS} {k : Nat} (h : S.has k = false) : ∀ e ∈ S.L, e.1 ≠ k := by
  unfold has at h
  exact getL_no (by simpa using h)
theorem putS_wf {S : IxS} (h : S.WF) (k : Nat) (s : Int) : (S.putS k s).WF := by
  unfold putS
  cases hb : S.putB k with
  | false => simpa using h
  | true =>
    rw [if_pos rfl]
    refine ⟨putL_asc h.asc k s, ?_, h.r1, h.r64⟩
    show (putL S.L k s).length ≤ S.room
    cases hh : S.has k with
    | true =>
      rw [putL_old h.asc (has_mem hh)]
      exact h.le
    | false =>
      rw [putL_new (has_no hh)]
      unfold putB at hb
      rw [hh] at hb
      have : S.L.length < S.room := by simpa using hb
      omega
theorem dropS_wf {S : IxS} (h : S.WF) (k : Nat) : (S.dropS k).WF := by
  refine ⟨dropL_asc h.asc k, ?_, h.r1, h.r64⟩
  have := h.le
  have h2 : (dropL S.L k).length ≤ S.L.length := List.length_filter_le _ _
  show (dropL S.L k).length ≤ S.room
  omega
end IxS

/-- Block kb is the index S. -/
def IxM (w : World) (kb : Nat) (S : IxS) : Prop := (∃ cs T, IxC w kb cs T S.L.length S.room ∧ TL T S.L) ∧ S.WF
theorem IxM.lt {w : World} {kb : Nat} {S : IxS} (h : IxM w kb S) : kb < w.heap.size := by
  obtain ⟨⟨cs, T, hC, _⟩, _⟩ := h
  exact lt_of_block hC.b
theorem IxM.keep {F : Nat → Prop} {w w' : World} {kb : Nat} {S : IxS} (h : IxM w kb S) (hk : Kept F w w') (hn : ¬ F kb) : IxM w' kb S := by
  obtain ⟨⟨cs, T, hC, hT⟩, h2⟩ := h
  exact ⟨⟨cs, T, hC.keep hk hn, hT⟩, h2⟩
theorem IxM.up {w w' : World} {kb : Nat} {S : IxS} (h : IxM w kb S) (hb : Below w.heap.size w w') : IxM w' kb S := h.keep (F := fun _ => False) (Kept.of_below hb) id
/-- What a call on an index does. -/
def IxTo (kb : Nat) (b : Bool) (S' : IxS) (w : World) (r : Ending) (w' : World) : Prop := r = .returned (.bool b) ∧ IxM w' kb S' ∧ Kept (fun k => k = kb) w w'

/-- An empty index's cells. -/
def placeZ : List Value := [.int .u32 0, .int .i64 0, .bool false]
def ixZ (n : Int) : List Value := .int .i64 n :: .int .i64 0 :: (List.replicate 128 placeZ).flatten
theorem pl_at (k : Nat) (hk : k < 3) : ∀ (m i : Nat), i < m → ((List.replicate m placeZ).flatten)[i * 3 + k]? = placeZ[k]?
  | 0, _, h => by omega
  | m + 1, 0, _ => by
    rw [List.replicate_succ, List.flatten_cons, List.getElem?_append_left (by simp [placeZ]; omega)]
    simp
  | m + 1, i + 1, h => by
    rw [List.replicate_succ, List.flatten_cons, List.getElem?_append_right (by simp [placeZ]; omega)]
    rw [show (i + 1) * 3 + k - placeZ.length = i * 3 + k by simp [placeZ]; omega]
    exact pl_at k hk m i (by omega)
theorem pl_len : ∀ m : Nat, ((List.replicate m placeZ).flatten).length = m * 3
  | 0 => rfl
  | m + 1 => by
    rw [List.replicate_succ, List.flatten_cons, List.length_append, pl_len m]
    simp [placeZ]
    omega
theorem ixZ_p (n : Int) : PlC (ixZ n) emptyT := by
  intro i hi
  have h (k : Nat) (hk : k < 3) : (ixZ n)[2 + i * 3 + k]? = placeZ[k]? := by
    unfold ixZ
    rw [show 2 + i * 3 + k = (i * 3 + k + 1) + 1 by omega, List.getElem?_cons_succ, List.getElem?_cons_succ]
    exact pl_at k hk 128 i hi
  exact ⟨h 0 (by omega), h 1 (by omega), h 2 (by omega)⟩
theorem ix_new (n : Nat) (w : World) (h1 : 1 ≤ n) (h2 : n ≤ 64) : IxM (w.alloc (.cells (ixZ (n : Int)).toArray 105)) w.heap.size ⟨[], n⟩ :=
  ⟨⟨ixZ (n : Int), emptyT, ⟨heap_alloc_new w _, by unfold ixZ; rw [List.length_cons, List.length_cons, pl_len], rfl, rfl, ixZ_p _⟩, TL.empty⟩, ⟨List.Pairwise.nil, by simp, h1, h2⟩⟩
theorem ix_build (n : Int) (w : World) : (Instr.build 105 #[(0, .int .i64 n)]).run Tryz.prog w = .ok (.agg (ixZ n).toArray) w := run_build w 105 _ (ixZ n).toArray (by kernel_rfl)
theorem at_build_ix {ops : Array Oper} {Q : Exit → Act → World → Prop} {rest : List Oper} {a : Act} {w : World} {d : Option Tmp} {x : Operand} {ty : TypeId} {po : String} {af : Array Edge} (n : Int) (Z : Array Value) (hZ : (ixZ n).toArray = Z) (hx : a.eval x = .int .i64 n)
    (h : wpList Tryz.prog ops Q rest (a.put d (.agg Z)) w) : wpList Tryz.prog ops Q ({ dst := d, op := .build 105 #[(0, x)], type := ty, pos := po, after := af, guard := none } :: rest) a w := by
  subst hZ
  refine wpList_plain rfl fun K hK => ?_
  unfold Oper.wp
  simp [execOp, hx, ix_build, Result.andThen]
  exact hK _ _ h
/-- What New answers. -/
def IxNew (n : Int) (w : World) (r : Ending) (w' : World) : Prop :=
  Below w.heap.size w w' ∧ if 1 ≤ n ∧ n ≤ 64 then r = .returned (.tuple #[.pointer (some ⟨w.heap.size, 0, none⟩), .nilIface]) ∧ IxM w' w.heap.size ⟨[], n.toNat⟩ else r = .returned (.tuple #[.pointer none, .iface 30 (.int .i64 1)])
theorem xnew_at (n : Int) (w : World) : Calls Tryz.prog 27 #[.int .i64 n] w (IxNew n w) := by
  by_cases h0 : n < 1
  · have hd : decide (n < 1) = true := by simpa using h0
    have HE : Hid (IxNew n w (.returned (.tuple #[.pointer none, .iface 30 (.int .i64 1)])) w) := Lib.hid ⟨Below.refl _ _, by rw [if_neg (by omega)]⟩
    go_enter Tryz.func27, Tryz.ntmps27
    go_wp2_with fail
    go_ret2
    exact HE.out
  · have hd : decide (n < 1) = false := by simpa using h0
    by_cases h1 : 64 < n
    · have HE : Hid (IxNew n w (.returned (.tuple #[.pointer none, .iface 30 (.int .i64 1)])) w) := Lib.hid ⟨Below.refl _ _, by rw [if_neg (by omega)]⟩
      go_enter Tryz.func27, Tryz.ntmps27
      go_wp2_with fail
      go_ret2
      exact HE.out
    · obtain ⟨m, rfl⟩ := Int.eq_ofNat_of_zero_le (show 0 ≤ n by omega)
      obtain ⟨Z, hZ⟩ : ∃ Z, (ixZ (m : Int)).toArray = Z := ⟨_, rfl⟩
      have HZ := Lib.hid hZ
      have HE : Hid (IxNew (m : Int) w (.returned (.tuple #[.pointer (some ⟨w.heap.size, 0, none⟩), .nilIface])) (w.alloc (.cells Z 105))) := Lib.hid ⟨(Below.refl _ _).alloc (Nat.le_refl _) _, by
        rw [if_pos (by omega), ← hZ]
        exact ⟨rfl, by simpa using ix_new m w (by omega) (by omega)⟩⟩
      clear hZ
      go_enter Tryz.func27, Tryz.ntmps27
      go_wp2_with ((with_reducible refine at_build_ix (m : Int) Z HZ.out ?_ ?_); (· rfl))
      go_ret2
      exact HE.out

section
variable {w : World} {kb : Nat} {S : IxS}
theorem xlen_at (h : IxM w kb S) : Calls Tryz.prog 37 #[.pointer (some ⟨kb, 0, none⟩)] w (IntIs (S.L.length : Int) w) := by
  obtain ⟨⟨cs, T, hC, _⟩, _⟩ := h
  have c := hC.b.at hC.m
  clear hC
  generalize S.L.length = n at *
  go_enter Tryz.func37, Tryz.ntmps37
  go_wp2_with fail
  go_ret
  exact ⟨rfl, rfl⟩
/-- What is found tells what is got. -/
theorem found_has {T : TabS} {k p : Nat} (hT : TL T S.L) (hp : p < 128) (h : T.t p = true) (hk : T.k p = k) (hw : S.WF) : S.has k = true ∧ S.getN k = T.s p := by
  have hm := hT.mem p hp h
  rw [hk] at hm
  have := getL_some hw.asc hm
  unfold IxS.has IxS.getN
  rw [this]
  exact ⟨rfl, rfl⟩
theorem found_not {T : TabS} {k j p : Nat} (hT : TL T S.L) (hj : j < 128) (hp : p = (k % 128 + j) % 128) (hw : Way T k j) (h : T.t p = false) : S.has k = false ∧ S.getN k = 0 ∧ T.s p = 0 := by
  subst hp
  have := getL_none (hw.none hT hj h)
  unfold IxS.has IxS.getN
  rw [this]
  exact ⟨rfl, rfl, hT.z _ (by omega) h⟩
def GetTo (S : IxS) (k : Nat) (w : World) (r : Ending) (w' : World) : Prop := r = .returned (.tuple #[.int .i64 (S.getN k), .bool (S.has k)]) ∧ Below w.heap.size w w'
theorem xget_at (k : Nat) (h : IxM w kb S) : Calls Tryz.prog 61 #[.pointer (some ⟨kb, 0, none⟩), .int .u32 (k : Int)] w (GetTo S k w) := by
  obtain ⟨⟨cs, T, hC, hT⟩, hw⟩ := h
  obtain ⟨f, hf, hff⟩ := hT.free (Nat.le_trans hw.le hw.r64)
  have HF := Lib.hid (xfind_at k f hC hf hff)
  have HT := Lib.hid hT
  have HW := Lib.hid hw
  have HC := Lib.hid hC
  clear hC hT hw hf hff
  go_enter Tryz.func61, Tryz.ntmps61
  go_wp2_with fail
  refine HF.out.mono ?_
  rintro r w1 ⟨j, p, hj, hp, hway, hpk, rfl, hb⟩
  have hpl : p < 128 := by omega
  obtain ⟨c0, c1, c2⟩ := (HC.out.up hb).at hpl
  have HE : Hid (∀ w', Below w1.heap.size w1 w' → GetTo S k w (.returned (.tuple #[.int .i64 (T.s p), .bool (T.t p)])) w') := Lib.hid (fun w' hb2 => by
    refine ⟨?_, below_all hb hb2⟩
    cases ht : T.t p with
    | true => rw [(found_has HT.out hpl ht (hpk ht) HW.out).1, (found_has HT.out hpl ht (hpk ht) HW.out).2]
    | false =>
      obtain ⟨a, b, c⟩ := found_not HT.out hj hp hway ht
      rw [a, b, c])
  clear hp hway hpk hb c0 c2
  generalize T.t p = tp at *
  generalize T.s p = sp at *
  go_wp2_with fail
  go_ret2
  exact HE.out _ (Below.refl _ _)
end
end Go.Proofs.YtajccmkdfmpapaaGreatDoor
namespace Go.Proofs.YtajccmkdfmpapaaGreatDoor
open Go.RowKit

section
variable {w : World} {kb : Nat} {S : IxS}
theorem IxC.many {m r m' : Nat} {x : Int} {cs : List Value} {T : TabS} (h : IxC w kb cs T m r) (he : (m' : Int) = x) : IxC (w.setCell ⟨kb, 1, none⟩ (.int .i64 x)) kb (cs.set 1 (.int .i64 x)) T m' r := by
  subst he
  exact ⟨h.b.put _ _, by simp [h.len], by rw [set_off (by omega)]; exact h.r, set_at h.m, h.p.head (by omega) _⟩
set_option maxHeartbeats 2000000 in
theorem xput_at (k : Nat) (s : Int) (h : IxM w kb S) : Calls Tryz.prog 65 #[.pointer (some ⟨kb, 0, none⟩), .int .u32 (k : Int), .int .i64 s] w (IxTo kb (S.putB k) (S.putS k s) w) := by
  obtain ⟨⟨cs, T, hC, hT⟩, hw⟩ := h
  obtain ⟨f, hf, hff⟩ := hT.free (Nat.le_trans hw.le hw.r64)
  have HF := Lib.hid (xfind_at k f hC hf hff)
  have HT := Lib.hid hT
  have HW := Lib.hid hw
  have HC := Lib.hid hC
  have HWP := Lib.hid (IxS.putS_wf hw k s)
  obtain ⟨M, hM⟩ : ∃ M, S.L.length = M := ⟨_, rfl⟩
  obtain ⟨R, hR⟩ : ∃ R, S.room = R := ⟨_, rfl⟩
  have HMR := Lib.hid (And.intro hM hR)
  have hMR : M ≤ R ∧ R ≤ 64 := by have := hw.le; have := hw.r64; omega
  have hC1 := hC
  rw [hM, hR] at hC1
  have HC1 := Lib.hid hC1
  clear hC hC1 hT hw hf hff hM hR
  go_enter Tryz.func65, Tryz.ntmps65
  go_wp2_with fail
  refine HF.out.mono ?_
  rintro r w1 ⟨j, p, hj, hp, hway, hpk, rfl, hb⟩
  have hpl : p < 128 := by omega
  have HB := Lib.hid hb
  have HCw := Lib.hid (HC1.out.up hb)
  have HK1 : Hid (Kept (fun k => k = kb) w w1) := Lib.hid (Kept.of_below hb)
  clear hb
  cases ht : T.t p with
  | true =>
    have hk := hpk ht
    have hhas := (found_has HT.out hpl ht hk HW.out).1
    have hputB : S.putB k = true := by unfold IxS.putB; rw [hhas]; rfl
    have HE : Hid (∀ w' cs', IxC w' kb cs' (T.put p k s true) M R → Kept (fun k => k = kb) w w' → IxTo kb (S.putB k) (S.putS k s) w (.returned (.bool true)) w') := Lib.hid (fun w' cs' hc hk2 => by
      refine ⟨by rw [hputB], ⟨⟨cs', T.put p k s true, ?_, ?_⟩, HWP.out⟩, hk2⟩
      · unfold IxS.putS
        rw [if_pos hputB]
        show IxC w' kb cs' _ (putL S.L k s).length S.room
        rw [putL_old HW.out.asc (IxS.has_mem hhas), HMR.out.1, HMR.out.2]
        exact hc
      · unfold IxS.putS
        rw [if_pos hputB]
        exact HT.out.put_old s hpl ht hk)
    have HP := Lib.hid (HCw.out.put p hpl k s true)
    have HKP := Lib.hid (kept_put3 HK1.out rfl (2 + p * 3) (2 + p * 3 + 1) (2 + p * 3 + 2) (.int .u32 (k : Int)) (.int .i64 s) (.bool true))
    obtain ⟨d0, d1, d2⟩ := HCw.out.at hpl
    have f0 := HCw.out.b.free (2 + p * 3)
    have f1 := HCw.out.b.free (2 + p * 3 + 1)
    have f2 := HCw.out.b.free (2 + p * 3 + 2)
    clear ht hp hway hpk hk hhas hputB
    go_wp2_with fail
    go_ret
    exact HE.out _ _ HP.out HKP.out
  | false =>
    have hno := (found_not HT.out hj hp hway ht).1
    have HN := Lib.hid (IxS.has_no hno)
    have c1 := HCw.out.b.at HCw.out.m
    have c0 := HCw.out.b.at HCw.out.r
    by_cases hfull : M = R
    · have hputB : S.putB k = false := by
        unfold IxS.putB
        rw [hno, HMR.out.1, HMR.out.2]
        simp
        omega
      have HE : Hid (IxTo kb (S.putB k) (S.putS k s) w (.returned (.bool false)) w1.drew) := Lib.hid (by
        refine ⟨by rw [hputB], ?_, HK1.out.drew⟩
        unfold IxS.putS
        rw [if_neg (by rw [hputB]; simp)]
        refine ⟨⟨cs, T, ?_, HT.out⟩, HW.out⟩
        rw [HMR.out.1, HMR.out.2]
        exact HCw.out.drew)
      have q : ((M : Int) == (R : Int)) = true := by simp [hfull]
      clear ht hp hway hpk hno hputB hfull
      go_wp2_with fail
      go_region
      go_wp2_with fail
      go_ret
      exact HE.out
    · have hputB : S.putB k = true := by
        unfold IxS.putB
        rw [hno, HMR.out.1, HMR.out.2]
        simp
        omega
      have HE : Hid (∀ w' cs', IxC w' kb cs' (T.put p k s true) (M + 1) R → Kept (fun k => k = kb) w w' → IxTo kb (S.putB k) (S.putS k s) w (.returned (.bool true)) w') := Lib.hid (fun w' cs' hc hk2 => by
        refine ⟨by rw [hputB], ⟨⟨cs', T.put p k s true, ?_, ?_⟩, HWP.out⟩, hk2⟩
        · unfold IxS.putS
          rw [if_pos hputB]
          show IxC w' kb cs' _ (putL S.L k s).length S.room
          rw [putL_new HN.out, HMR.out.1, HMR.out.2]
          exact hc
        · unfold IxS.putS
          rw [if_pos hputB]
          exact HT.out.put_new s hway hj hp ht)
      have q : ((M : Int) == (R : Int)) = false := by simp; omega
      have HCm := Lib.hid (IxC.many (m' := M + 1) (x := (M : Int) + 1) HCw.out.drew (by omega))
      have HKm := Lib.hid (HK1.out.drew.put (g := kb) (.inl rfl) 1 (.int .i64 ((M : Int) + 1)))
      have g1 := HCw.out.b.free 1
      have HP := Lib.hid (HCm.out.put p hpl k s true)
      have HKP := Lib.hid (kept_put3 HKm.out rfl (2 + p * 3) (2 + p * 3 + 1) (2 + p * 3 + 2) (.int .u32 (k : Int)) (.int .i64 s) (.bool true))
      obtain ⟨d0, d1, d2⟩ := HCm.out.at hpl
      have f0 := HCm.out.b.free (2 + p * 3)
      have f1 := HCm.out.b.free (2 + p * 3 + 1)
      have f2 := HCm.out.b.free (2 + p * 3 + 2)
      obtain ⟨w2, hw2⟩ : ∃ w2, w1.drew.setCell ⟨kb, 1, none⟩ (.int .i64 ((M : Int) + 1)) = w2 := ⟨_, rfl⟩
      rw [hw2] at HP HKP d0 d1 d2 f0 f1 f2
      have hw3 : (w1.setCell ⟨kb, 1, none⟩ (.int .i64 ((M : Int) + 1))).drew = w2 := hw2
      clear ht hp hway hpk hno hputB hfull HCm HKm hw2
      go_wp2_with fail
      go_region
      go_wp2_with fail
      go_ret
      exact HE.out _ _ HP.out HKP.out
set_option maxHeartbeats 2000000 in
theorem xdrop_at (k : Nat) (h : IxM w kb S) : Calls Tryz.prog 48 #[.pointer (some ⟨kb, 0, none⟩), .int .u32 (k : Int)] w (IxTo kb (S.has k) (S.dropS k) w) := by
  obtain ⟨⟨cs, T, hC, hT⟩, hw⟩ := h
  obtain ⟨f, hf, hff⟩ := hT.free (Nat.le_trans hw.le hw.r64)
  have HF := Lib.hid (xfind_at k f hC hf hff)
  have HFF := Lib.hid (And.intro hf hff)
  have HT := Lib.hid hT
  have HW := Lib.hid hw
  have HC := Lib.hid hC
  have HWP := Lib.hid (IxS.dropS_wf hw k)
  clear hC hT hw hf hff
  go_enter Tryz.func48, Tryz.ntmps48
  go_wp2_with fail
  refine HF.out.mono ?_
  rintro r w1 ⟨j, p, hj, hp, hway, hpk, rfl, hb⟩
  have hpl : p < 128 := by omega
  have HCw := Lib.hid (HC.out.up hb)
  have HK1 : Hid (Kept (fun k => k = kb) w w1) := Lib.hid (Kept.of_below hb)
  clear hb
  cases ht : T.t p with
  | true =>
    have hk := hpk ht
    have hhas := (found_has HT.out hpl ht hk HW.out).1
    obtain ⟨M, hM⟩ : ∃ M, (dropL S.L k).length = M := ⟨_, rfl⟩
    have hML := dropL_len HW.out.asc (IxS.has_mem hhas)
    rw [hM] at hML
    have hM64 : M ≤ 64 := by have := HW.out.le; have := HW.out.r64; omega
    have HE : Hid (∀ w' cs' T', IxC w' kb cs' T' M S.room → TL T' (dropL S.L k) → Kept (fun k => k = kb) w w' → IxTo kb (S.has k) (S.dropS k) w (.returned (.bool true)) w') := Lib.hid (fun w' cs' T' hc ht' hk2 => by
      refine ⟨by rw [hhas], ⟨⟨cs', T', ?_, ht'⟩, HWP.out⟩, hk2⟩
      show IxC w' kb cs' T' (dropL S.L k).length S.room
      rw [hM]
      exact hc)
    have HFr := Lib.hid (xfree_at p f (dropL S.L k) HCw.out (HT.out.gap hpl ht hk) HFF.out.1 HFF.out.2)
    rw [← hML] at HFr
    clear ht hp hway hpk hk hhas hM hML HCw HC HF
    go_wp2_with fail
    refine HFr.out.mono ?_
    rintro r w2 ⟨rfl, ⟨cs2, T2, hC2, hT2⟩, hk2⟩
    have HC2 := Lib.hid hC2
    have HT2 := Lib.hid hT2
    have HK2 := Lib.hid (HK1.out.and hk2)
    have c1 := hC2.b.at hC2.m
    have g1 := hC2.b.free 1
    have HCm := Lib.hid (IxC.many (m' := M) (x := (M : Int)) hC2 rfl)
    have HKm := Lib.hid (HK2.out.put (g := kb) (.inl rfl) 1 (.int .i64 (M : Int)))
    have e : ((M + 1 : Nat) : Int) = (M : Int) + 1 := by omega
    have e2 : (M : Int) + 1 - 1 = (M : Int) := by omega
    rw [e] at c1
    clear hC2 hT2 hk2 e HFr
    go_wp2_with fail
    go_ret
    exact HE.out _ _ _ HCm.out HT2.out HKm.out
  | false =>
    have hno := (found_not HT.out hj hp hway ht).1
    have HE : Hid (IxTo kb (S.has k) (S.dropS k) w (.returned (.bool false)) w1) := Lib.hid (by
      refine ⟨by rw [hno], ⟨⟨cs, T, ?_, ?_⟩, HWP.out⟩, HK1.out⟩
      · show IxC w1 kb cs T (dropL S.L k).length S.room
        rw [dropL_not (IxS.has_no hno)]
        exact HCw.out
      · show TL T (dropL S.L k)
        rw [dropL_not (IxS.has_no hno)]
        exact HT.out)
    clear ht hp hway hpk hno
    go_wp2_with fail
    go_ret
    exact HE.out
end
end Go.Proofs.YtajccmkdfmpapaaGreatDoor
