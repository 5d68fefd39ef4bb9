/-
  Plain mathematics of package chain: heads, links, chains; more heads, fewer heads, heads that are turned.
-/
import Derived.Test.YtckkgjggoopjiaaCelB
namespace Go.Proofs.Ytckkgjggoopjiaa

/-- A head: its kind, session, id, seq. -/
structure HdS where
  k : Int
  s : Int
  i : Int
  q : Int
namespace HdS
def isL (s : Int) (h : HdS) : Bool := decide (h.s = s ∧ (h.k = 1 ∨ h.k = 2))
def hit (s q : Int) (h : HdS) : Bool := isL s h && decide (h.q = q)
def findL (s q : Int) (l : List HdS) : Option Nat := l.findIdx? (hit s q)
def findE (s q : Int) (l : List HdS) : Option HdS := l.find? (hit s q)
def chF (s : Int) (l : List HdS) : Nat → Int → List Nat
  | 0, _ => []
  | n + 1, q => match findL s (q + 1) l with
    | none => []
    | some i => i :: chF s l n (q + 1)
def chL (s q : Int) (l : List HdS) : List Nat := chF s l l.length q
/-- c is the chain. -/
structure ChS (s q : Int) (l : List HdS) (c : List Nat) : Prop where
  at' : ∀ (k : Nat) (h : k < c.length), findL s (q + 1 + (k : Int)) l = some c[k]
  no : findL s (q + 1 + (c.length : Int)) l = none
theorem find_some {s q : Int} {l : List HdS} {i : Nat} (h : findL s q l = some i) : ∃ hi : i < l.length, hit s q l[i] = true ∧ ∀ j (hj : j < i), hit s q (l[j]'(by omega)) = false := by
  unfold findL at h
  obtain ⟨hi, h1, h2⟩ := List.findIdx?_eq_some_iff_getElem.1 h
  exact ⟨hi, h1, fun j hj => by simpa using h2 j hj⟩
theorem find_none {s q : Int} {l : List HdS} : findL s q l = none ↔ ∀ h ∈ l, hit s q h = false := by
  unfold findL
  exact List.findIdx?_eq_none_iff
theorem findE_some {s q : Int} {l : List HdS} {i : Nat} (h : findL s q l = some i) : ∃ hi : i < l.length, findE s q l = some l[i] := by
  obtain ⟨hi, h1, h2⟩ := find_some h
  refine ⟨hi, ?_⟩
  unfold findE
  exact List.find?_eq_some_iff_getElem.2 ⟨h1, i, hi, rfl, fun j hj => by simpa using h2 j hj⟩
theorem findE_none {s q : Int} {l : List HdS} : findE s q l = none ↔ ∀ h ∈ l, hit s q h = false := by
  unfold findE
  rw [List.find?_eq_none]
  exact ⟨fun h x hx => by simpa using h x hx, fun h x hx => by simpa using h x hx⟩
theorem some_iff {s q : Int} {l : List HdS} : (findE s q l).isSome = true ↔ ∃ h ∈ l, hit s q h = true := by
  constructor
  · intro h
    apply Classical.byContradiction
    intro hn
    have : findE s q l = none := findE_none.2 (fun x hx => by
      cases hh : hit s q x with
      | false => rfl
      | true => exact absurd ⟨x, hx, hh⟩ hn)
    rw [this] at h
    cases h
  · rintro ⟨x, hx, hh⟩
    cases hf : findE s q l with
    | some e => rfl
    | none =>
      have := findE_none.1 hf x hx
      rw [hh] at this
      cases this
theorem hit_q {s q : Int} {h : HdS} (e : hit s q h = true) : h.q = q ∧ h.s = s ∧ (h.k = 1 ∨ h.k = 2) := by
  unfold hit isL at e
  simp only [Bool.and_eq_true, decide_eq_true_eq] at e
  exact ⟨e.2, e.1.1, e.1.2⟩
theorem hit_iff {s q : Int} {h : HdS} : hit s q h = true ↔ (h.s = s ∧ (h.k = 1 ∨ h.k = 2)) ∧ h.q = q := by
  unfold hit isL
  simp only [Bool.and_eq_true, decide_eq_true_eq]
theorem chF_at {s : Int} {l : List HdS} : ∀ {n : Nat} {q : Int} {k : Nat} (h : k < (chF s l n q).length), findL s (q + 1 + (k : Int)) l = some (chF s l n q)[k]
  | 0, q, k, h => by simp [chF] at h
  | n + 1, q, k, h => by
    cases hf : findL s (q + 1) l with
    | none => simp [chF, hf] at h
    | some i =>
      have e : chF s l (n + 1) q = i :: chF s l n (q + 1) := by simp [chF, hf]
      cases k with
      | zero => simp [e, hf]
      | succ k =>
        have h' : k < (chF s l n (q + 1)).length := by rw [e] at h; simpa using h
        have := chF_at h'
        simp only [e, List.getElem_cons_succ]
        rw [← this]
        congr 1
        omega
theorem chF_no {s : Int} {l : List HdS} : ∀ {n : Nat} {q : Int}, (chF s l n q).length < n → findL s (q + 1 + ((chF s l n q).length : Int)) l = none
  | 0, q, h => by omega
  | n + 1, q, h => by
    cases hf : findL s (q + 1) l with
    | none => simp [chF, hf]
    | some i =>
      have e : chF s l (n + 1) q = i :: chF s l n (q + 1) := by simp [chF, hf]
      rw [e] at h ⊢
      rw [List.length_cons] at *
      have := chF_no (s := s) (l := l) (n := n) (q := q + 1) (by omega)
      rw [← this]
      congr 1
      omega
theorem chF_le {s : Int} {l : List HdS} : ∀ (n : Nat) (q : Int), (chF s l n q).length ≤ n
  | 0, q => by simp [chF]
  | n + 1, q => by
    cases hf : findL s (q + 1) l with
    | none => simp [chF, hf]
    | some i =>
      have := chF_le (s := s) (l := l) n (q + 1)
      simp [chF, hf]
      omega
theorem nat_len {c : List Nat} {n : Nat} (hd : c.Nodup) (h : ∀ z ∈ c, z < n) : c.length ≤ n := by
  have := List.Nodup.length_le_of_subset (l₂ := List.range n) hd (fun z hz => List.mem_range.2 (h z hz))
  simpa using this
/-- The chain is one. -/
theorem ch_is (s q : Int) (l : List HdS) : ChS s q l (chL s q l) := by
  unfold chL
  refine ⟨fun k h => chF_at h, ?_⟩
  rcases Nat.lt_or_ge (chF s l l.length q).length l.length with h | h
  · exact chF_no h
  · have he : (chF s l l.length q).length = l.length := Nat.le_antisymm (chF_le _ _) h
    cases hf : findL s (q + 1 + ((chF s l l.length q).length : Int)) l with
    | none => rfl
    | some j =>
      have hall : ∀ k (hk : k < (chF s l l.length q ++ [j]).length), findL s (q + 1 + (k : Int)) l = some (chF s l l.length q ++ [j])[k] := fun k hk => by
        rw [List.length_append] at hk
        simp only [List.length_cons, List.length_nil] at hk
        by_cases e : k < (chF s l l.length q).length
        · rw [List.getElem_append_left e]
          exact chF_at e
        · obtain rfl : k = (chF s l l.length q).length := by omega
          rw [List.getElem_append_right (Nat.le_refl _)]
          simpa using hf
      have hnd : (chF s l l.length q ++ [j]).Nodup := by
        rw [List.nodup_iff_pairwise_ne, List.pairwise_iff_getElem]
        intro a b ha hb hab e
        obtain ⟨h1, h2, _⟩ := find_some (hall a ha)
        obtain ⟨h3, h4, _⟩ := find_some (hall b hb)
        have e1 := (hit_q h2).1
        have e2 := (hit_q h4).1
        simp only [e] at e1
        omega
      have hlt : ∀ z ∈ chF s l l.length q ++ [j], z < l.length := fun z hz => by
        obtain ⟨k, hk, rfl⟩ := List.getElem_of_mem hz
        obtain ⟨h1, _⟩ := find_some (hall k hk)
        exact h1
      have := nat_len hnd hlt
      rw [List.length_append, he] at this
      simp at this
      omega
theorem ChS.len_le {s q : Int} {l m : List HdS} {c d : List Nat} (hc : ChS s q l c) (hd : ChS s q m d) (h : ∀ k, k < c.length → (findE s (q + 1 + (k : Int)) l).isSome = true → (findE s (q + 1 + (k : Int)) m).isSome = true) : c.length ≤ d.length := by
  apply Classical.byContradiction
  intro hn
  have hlt : d.length < c.length := by omega
  obtain ⟨hi, e⟩ := findE_some (hc.at' d.length hlt)
  have h1 := h d.length hlt (by rw [e]; rfl)
  obtain ⟨x, hx, hh⟩ := some_iff.1 h1
  have h2 := find_none.1 hd.no x hx
  rw [hh] at h2
  cases h2
theorem ChS.elem {s q : Int} {l : List HdS} {c : List Nat} (hc : ChS s q l c) {k : Nat} (hk : k < c.length) : ∃ hi : c[k] < l.length, findE s (q + 1 + (k : Int)) l = some l[c[k]] ∧ hit s (q + 1 + (k : Int)) l[c[k]] = true := by
  obtain ⟨hi, h1, _⟩ := find_some (hc.at' k hk)
  obtain ⟨_, e⟩ := findE_some (hc.at' k hk)
  exact ⟨hi, e, h1⟩
theorem ChS.len_eq {s q : Int} {l m : List HdS} {c d : List Nat} (hc : ChS s q l c) (hd : ChS s q m d) (h : ∀ k : Nat, (findE s (q + 1 + (k : Int)) l).isSome = (findE s (q + 1 + (k : Int)) m).isSome) : c.length = d.length :=
  Nat.le_antisymm (hc.len_le hd (fun k _ e => by rw [← h]; exact e)) (hd.len_le hc (fun k _ e => by rw [h]; exact e))
theorem ChS.same {s q : Int} {l m : List HdS} {c d : List Nat} (hc : ChS s q l c) (hd : ChS s q m d) (h : ∀ k : Nat, findE s (q + 1 + (k : Int)) l = findE s (q + 1 + (k : Int)) m) : c.length = d.length ∧ ∀ k (h1 : k < c.length) (h2 : k < d.length), ∃ (h3 : c[k] < l.length) (h4 : d[k] < m.length), l[c[k]] = m[d[k]] := by
  refine ⟨hc.len_eq hd (fun k => by rw [h]), fun k h1 h2 => ?_⟩
  obtain ⟨h3, e1, _⟩ := hc.elem h1
  obtain ⟨h4, e2, _⟩ := hd.elem h2
  rw [h, e2] at e1
  exact ⟨h3, h4, (Option.some.inj e1).symm⟩
theorem ChS.uniq {s q : Int} {l : List HdS} {c d : List Nat} (hc : ChS s q l c) (hd : ChS s q l d) : c = d := by
  have hl := hc.len_eq hd (fun _ => rfl)
  refine List.ext_getElem hl fun k h1 h2 => ?_
  have e1 := hc.at' k h1
  rw [hd.at' k h2] at e1
  exact (Option.some.inj e1).symm
theorem ch_lt {s q : Int} {l : List HdS} {k : Nat} (hk : k < (chL s q l).length) : (chL s q l)[k] < l.length := by
  obtain ⟨h, _⟩ := (ch_is s q l).elem hk
  exact h
theorem ch_len (s q : Int) (l : List HdS) : (chL s q l).length ≤ l.length := chF_le _ _

/-- The chain of more heads begins with that of fewer ones. -/
theorem more_take (s q : Int) (l m : List HdS) : (chL s q l).length ≤ (chL s q (l ++ m)).length ∧ (chL s q (l ++ m)).take (chL s q l).length = chL s q l := by
  have hc := ch_is s q l
  have hd := ch_is s q (l ++ m)
  have hle := hc.len_le hd (fun k _ e => by
    obtain ⟨x, hx, hh⟩ := some_iff.1 e
    exact some_iff.2 ⟨x, by simp [hx], hh⟩)
  refine ⟨hle, List.ext_getElem (by rw [List.length_take]; omega) fun k h1 h2 => ?_⟩
  rw [List.getElem_take]
  have e1 := hd.at' k (by omega)
  obtain ⟨hi, h3, h4⟩ := find_some (hc.at' k h2)
  have e2 : findL s (q + 1 + (k : Int)) (l ++ m) = some (chL s q l)[k] := by
    unfold findL
    refine List.findIdx?_eq_some_iff_getElem.2 ⟨by rw [List.length_append]; omega, by rw [List.getElem_append_left hi]; exact h3, fun j hj => ?_⟩
    rw [List.getElem_append_left (by omega)]
    simpa using h4 j hj
  rw [e2] at e1
  exact (Option.some.inj e1).symm
/-- Heads that are no links change nothing but places. -/
theorem links_same (s q : Int) (l : List HdS) : (chL s q (l.filter (isL s))).length = (chL s q l).length ∧ ∀ k (h1 : k < (chL s q (l.filter (isL s))).length) (h2 : k < (chL s q l).length), ∃ (h3 : (chL s q (l.filter (isL s)))[k] < (l.filter (isL s)).length) (h4 : (chL s q l)[k] < l.length), (l.filter (isL s))[(chL s q (l.filter (isL s)))[k]] = l[(chL s q l)[k]] := by
  refine (ch_is s q (l.filter (isL s))).same (ch_is s q l) (fun k => ?_)
  unfold findE
  rw [List.find?_filter]
  congr 1
  funext h
  unfold hit
  cases isL s h <;> simp
/-- One is left out. -/
def same (s : Int) (l : List HdS) (j : Nat) (qj : Int) : Nat := (l.eraseIdx j).countP (hit s qj)
theorem cut_len {s q : Int} {l : List HdS} {k j : Nat} (hk : k < (chL s q l).length) (hj : (chL s q l)[k] = j) :
    ∃ hjl : j < l.length, (0 < same s l j l[j].q → (chL s q (l.eraseIdx j)).length = (chL s q l).length) ∧ (same s l j l[j].q = 0 → (chL s q (l.eraseIdx j)).length = k) ∧ l[j].s = s := by
  have hc := ch_is s q l
  have hd := ch_is s q (l.eraseIdx j)
  obtain ⟨hjl, _, hh⟩ := hc.elem hk
  simp only [hj] at hjl hh
  have hq := (hit_q hh).1
  have hback : ∀ q', (findE s q' (l.eraseIdx j)).isSome = true → (findE s q' l).isSome = true := fun q' h => by
    obtain ⟨x, hx, h2⟩ := some_iff.1 h
    exact some_iff.2 ⟨x, List.mem_of_mem_eraseIdx hx, h2⟩
  have hfore : ∀ q', q' ≠ l[j].q → (findE s q' l).isSome = true → (findE s q' (l.eraseIdx j)).isSome = true := fun q' hne h => by
    obtain ⟨x, hx, h2⟩ := some_iff.1 h
    obtain ⟨i, hi, e⟩ := List.getElem_of_mem hx
    refine some_iff.2 ⟨x, List.mem_eraseIdx_iff_getElem.2 ⟨i, hi, ?_, e⟩, h2⟩
    rintro rfl
    rw [← e] at h2
    exact hne (hit_q h2).1.symm
  refine ⟨hjl, fun h0 => ?_, fun h0 => ?_, (hit_q hh).2.1⟩
  · have hs : (findE s l[j].q (l.eraseIdx j)).isSome = true := by
      unfold same at h0
      obtain ⟨x, hx, h2⟩ := List.countP_pos_iff.1 h0
      exact some_iff.2 ⟨x, hx, h2⟩
    refine Nat.le_antisymm (hd.len_le hc (fun k _ h => hback _ h)) (hc.len_le hd (fun k' _ h => ?_))
    by_cases e : q + 1 + (k' : Int) = l[j].q
    · rw [e]
      exact hs
    · exact hfore _ e h
  · have hs : ∀ x ∈ l.eraseIdx j, hit s l[j].q x = false := by
      unfold same at h0
      intro x hx
      have := List.countP_eq_zero.1 h0 x hx
      simpa using this
    apply Nat.le_antisymm
    · apply Classical.byContradiction
      intro hn
      obtain ⟨hi, _, h2⟩ := hd.elem (k := k) (by omega)
      have h3 := hs _ (List.getElem_mem hi)
      rw [hq, h2] at h3
      cases h3
    · apply Classical.byContradiction
      intro hn
      have hlt : (chL s q (l.eraseIdx j)).length < k := by omega
      obtain ⟨hi, e, _⟩ := hc.elem (k := (chL s q (l.eraseIdx j)).length) (by omega)
      have h1 := hfore (q + 1 + ((chL s q (l.eraseIdx j)).length : Int)) (by rw [hq]; omega) (by rw [e]; rfl)
      obtain ⟨x, hx, h2⟩ := some_iff.1 h1
      have h3 := find_none.1 hd.no x hx
      rw [h2] at h3
      cases h3
/-- No two have one Seq. -/
def Uniq (l : List HdS) : Prop := ∀ i j (hi : i < l.length) (hj : j < i), (l[i]).q ≠ (l[j]'(by omega)).q
theorem uniq_find {s q : Int} {l : List HdS} (hu : ∀ x ∈ l, ∀ y ∈ l, x.q = y.q → x = y) {e : HdS} : findE s q l = some e ↔ e ∈ l ∧ hit s q e = true := by
  constructor
  · intro h
    unfold findE at h
    exact ⟨List.mem_of_find?_eq_some h, List.find?_some h⟩
  · rintro ⟨hm, hh⟩
    cases hf : findE s q l with
    | none =>
      have := findE_none.1 hf e hm
      rw [hh] at this
      cases this
    | some x =>
      have h1 : x ∈ l := by unfold findE at hf; exact List.mem_of_find?_eq_some hf
      have h2 : hit s q x = true := by unfold findE at hf; exact List.find?_some hf
      rw [hu x h1 e hm (by rw [(hit_q h2).1, (hit_q hh).1])]
theorem Uniq.mem {l : List HdS} (h : Uniq l) : ∀ x ∈ l, ∀ y ∈ l, x.q = y.q → x = y := by
  intro x hx y hy e
  obtain ⟨i, hi, rfl⟩ := List.getElem_of_mem hx
  obtain ⟨j, hj, rfl⟩ := List.getElem_of_mem hy
  rcases Nat.lt_trichotomy i j with h1 | h1 | h1
  · exact absurd e.symm (h j i hj h1)
  · subst h1
    rfl
  · exact absurd e (h i j hi h1)
theorem turn_same {s q : Int} {l : List HdS} (t : Nat) (h : Uniq l) : (chL s q l).length = (chL s q (l.drop t ++ l.take t)).length ∧ ∀ k (h1 : k < (chL s q l).length) (h2 : k < (chL s q (l.drop t ++ l.take t)).length), ∃ (h3 : (chL s q l)[k] < l.length) (h4 : (chL s q (l.drop t ++ l.take t))[k] < (l.drop t ++ l.take t).length), l[(chL s q l)[k]] = (l.drop t ++ l.take t)[(chL s q (l.drop t ++ l.take t))[k]] := by
  have hm : ∀ x, x ∈ l.drop t ++ l.take t ↔ x ∈ l := fun x => by
    conv => rhs; rw [← List.take_append_drop t l]
    rw [List.mem_append, List.mem_append]
    exact Or.comm
  have hu := h.mem
  have hu2 : ∀ x ∈ l.drop t ++ l.take t, ∀ y ∈ l.drop t ++ l.take t, x.q = y.q → x = y := fun x hx y hy => hu x ((hm x).1 hx) y ((hm y).1 hy)
  refine (ch_is s q l).same (ch_is s q (l.drop t ++ l.take t)) (fun k => ?_)
  apply Option.ext
  intro e
  rw [uniq_find hu, uniq_find hu2, hm]
end HdS
end Go.Proofs.Ytckkgjggoopjiaa
