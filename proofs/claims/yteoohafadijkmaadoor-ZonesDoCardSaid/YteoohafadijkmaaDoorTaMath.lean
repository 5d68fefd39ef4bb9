/-
  Plain mathematics of package zones: tables; which are closed, and how old; zones that take turns.
-/
import Derived.Test.YteoohafadijkmaaDoorCelB
namespace Go.Proofs.YteoohafadijkmaaDoor

/-- A table: how its zones are, the free ones in their row, closings in their order. -/
structure TaS where
  st : List Int
  row : List Int
  done : List Int
namespace TaS
def inB (T : TaS) (z : Int) : Bool := decide (0 ≤ z ∧ z < (T.st.length : Int))
def stA (T : TaS) (z : Int) : Int := if T.inB z = true then T.st.getD z.toNat 0 else 0
def new (n : Nat) : TaS := ⟨List.replicate n 0, (List.range n).map (fun (i : Nat) => (i : Int)), []⟩
def takeB (T : TaS) : Bool := decide (T.row ≠ [])
def takeN (T : TaS) : Int := T.row.headD 0
def takeS (T : TaS) : TaS := if T.row = [] then T else ⟨T.st.set (T.row.headD 0).toNat 1, T.row.tail, T.done⟩
def closeB (T : TaS) (z : Int) : Bool := decide (T.stA z = 1)
def closeS (T : TaS) (z : Int) : TaS := if T.stA z = 1 then ⟨T.st.set z.toNat 2, T.row, T.done ++ [z]⟩ else T
def giveB (T : TaS) (z : Int) : Bool := decide (T.stA z ≠ 0)
def giveS (T : TaS) (z : Int) : TaS := if T.stA z = 0 then T else ⟨T.st.set z.toNat 0, T.row ++ [z], T.done⟩
/-- Where one stands last, of the first k. -/
def lastK (l : List Int) (z : Int) : Nat → Nat
  | 0 => 0
  | k + 1 => if l.getD k 0 = z then k else lastK l z k
def lastN (T : TaS) (z : Int) : Int := if T.stA z = 2 then (lastK T.done z T.done.length : Int) else -1
def posK (T : TaS) (k : Nat) : List Nat := (List.range k).filter (fun (i : Nat) => decide (T.lastN (T.done.getD i 0) = (i : Int)))
def closedK (T : TaS) (k : Nat) : List Int := (T.posK k).map (fun i => T.done.getD i 0)
def closedL (T : TaS) : List Int := T.closedK T.done.length
def ageN (T : TaS) (z : Int) : Nat := if T.stA z = 2 then T.done.length - 1 - lastK T.done z T.done.length else 0
structure WF (T : TaS) : Prop where
  len : 1 ≤ T.st.length ∧ T.st.length ≤ 24
  st : ∀ z, T.stA z = 0 ∨ T.stA z = 1 ∨ T.stA z = 2
  nd : T.row.Nodup
  row : ∀ z, z ∈ T.row ↔ T.inB z = true ∧ T.stA z = 0
  done : ∀ z, T.stA z = 2 → z ∈ T.done
  dn : ∀ z ∈ T.done, T.inB z = true

theorem in_iff {T : TaS} {z : Int} : T.inB z = true ↔ 0 ≤ z ∧ z < (T.st.length : Int) := by simp [inB]
theorem st_in {T : TaS} {z : Int} (h : T.inB z = true) (hz : z.toNat < T.st.length) : T.stA z = T.st[z.toNat] := by
  unfold stA
  rw [if_pos h, List.getD_eq_getElem?_getD, List.getElem?_eq_getElem hz]
  rfl
theorem st_out {T : TaS} {z : Int} (h : T.inB z = false) : T.stA z = 0 := by
  unfold stA
  rw [if_neg (by simp [h])]
theorem in_of {T : TaS} {z : Int} (h : T.stA z ≠ 0) : T.inB z = true := by
  cases hb : T.inB z with
  | true => rfl
  | false => exact absurd (st_out hb) h
theorem st_set {st row row' done done' : List Int} {z s : Int} (h : 0 ≤ z ∧ z < (st.length : Int)) (y : Int) : TaS.stA ⟨st.set z.toNat s, row', done'⟩ y = if y = z then s else TaS.stA ⟨st, row, done⟩ y := by
  have hlen : (st.set z.toNat s).length = st.length := by simp
  by_cases hy : 0 ≤ y ∧ y < (st.length : Int)
  · have h1 : TaS.inB ⟨st.set z.toNat s, row', done'⟩ y = true := in_iff.2 (by simpa using hy)
    have h2 : TaS.inB ⟨st, row, done⟩ y = true := in_iff.2 (by simpa using hy)
    have e1 : y.toNat < st.length := by omega
    rw [st_in h1 (by simpa using e1), st_in h2 e1]
    simp only [List.getElem_set]
    by_cases e : y = z
    · rw [if_pos e, if_pos (by rw [e])]
    · rw [if_neg e, if_neg (by omega)]
  · have h1 : TaS.inB ⟨st.set z.toNat s, row', done'⟩ y = false := by
      cases hb : TaS.inB ⟨st.set z.toNat s, row', done'⟩ y with
      | false => rfl
      | true => exact absurd (by simpa using in_iff.1 hb) hy
    have h2 : TaS.inB ⟨st, row, done⟩ y = false := by
      cases hb : TaS.inB ⟨st, row, done⟩ y with
      | false => rfl
      | true => exact absurd (by simpa using in_iff.1 hb) hy
    rw [st_out h1, st_out h2, if_neg (by rintro rfl; exact hy h)]
theorem in_set {st row row' done done' : List Int} {k : Nat} {s : Int} (y : Int) : TaS.inB ⟨st.set k s, row', done'⟩ y = TaS.inB ⟨st, row, done⟩ y := by
  unfold inB
  simp

theorem lastK_app (l r : List Int) (z : Int) : ∀ k, k ≤ l.length → lastK (l ++ r) z k = lastK l z k
  | 0, _ => rfl
  | k + 1, h => by
    unfold lastK
    rw [lastK_app l r z k (by omega)]
    have e : (l ++ r).getD k 0 = l.getD k 0 := by
      rw [List.getD_eq_getElem?_getD, List.getD_eq_getElem?_getD, List.getElem?_append_left (by omega)]
    rw [e]
theorem lastK_self (l : List Int) (z : Int) : lastK (l ++ [z]) z (l ++ [z]).length = l.length := by
  rw [List.length_append]
  show lastK (l ++ [z]) z (l.length + 1) = _
  unfold lastK
  rw [if_pos (by simp [List.getD_eq_getElem?_getD])]
theorem lastK_ne (l : List Int) {y z : Int} (h : y ≠ z) : lastK (l ++ [z]) y (l ++ [z]).length = lastK l y l.length := by
  rw [List.length_append]
  show lastK (l ++ [z]) y (l.length + 1) = _
  rw [← lastK_app l [z] y l.length (Nat.le_refl _)]
  conv => lhs; unfold lastK
  rw [if_neg (by simp [List.getD_eq_getElem?_getD]; exact fun e => h e.symm)]
theorem lastK_lt (l : List Int) (z : Int) : ∀ k, 0 < k → lastK l z k < k
  | k + 1, _ => by
    unfold lastK
    split
    · omega
    · rcases Nat.eq_zero_or_pos k with rfl | h
      · simp [lastK]
      · have := lastK_lt l z k h
        omega
theorem lastK_get {l : List Int} {z : Int} : ∀ {k : Nat}, k ≤ l.length → (∃ i, i < k ∧ l.getD i 0 = z) → l.getD (lastK l z k) 0 = z
  | 0, _, ⟨i, h, _⟩ => by omega
  | k + 1, hk, ⟨i, h, e⟩ => by
    unfold lastK
    by_cases he : l.getD k 0 = z
    · rw [if_pos he]
      exact he
    · rw [if_neg he]
      refine lastK_get (by omega) ⟨i, ?_, e⟩
      rcases Nat.lt_or_ge i k with h1 | h1
      · exact h1
      · obtain rfl : i = k := by omega
        exact absurd e he
theorem mem_get {l : List Int} {z : Int} (h : z ∈ l) : ∃ i, i < l.length ∧ l.getD i 0 = z := by
  obtain ⟨i, hi, e⟩ := List.getElem_of_mem h
  exact ⟨i, hi, by rw [List.getD_eq_getElem?_getD, List.getElem?_eq_getElem hi]; exact e⟩
theorem get_mem {l : List Int} {i : Nat} (h : i < l.length) : l.getD i 0 ∈ l := by
  rw [List.getD_eq_getElem?_getD, List.getElem?_eq_getElem h]
  exact List.getElem_mem h

theorem pos_mem {T : TaS} {k i : Nat} : i ∈ T.posK k ↔ i < k ∧ T.lastN (T.done.getD i 0) = (i : Int) := by
  unfold posK
  rw [List.mem_filter, List.mem_range, decide_eq_true_eq]
theorem pos_asc (T : TaS) (k : Nat) : (T.posK k).Pairwise (· < ·) := List.Pairwise.filter _ List.pairwise_lt_range
theorem closed_step (T : TaS) (k : Nat) : T.closedK (k + 1) = T.closedK k ++ (if T.lastN (T.done.getD k 0) = (k : Int) then [T.done.getD k 0] else []) := by
  unfold closedK posK
  rw [List.range_succ, List.filter_append, List.map_append]
  congr 1
  by_cases h : T.lastN (T.done.getD k 0) = (k : Int)
  · rw [if_pos h, List.filter_cons_of_pos (by rw [decide_eq_true_eq]; exact h)]
    rfl
  · rw [if_neg h, List.filter_cons_of_neg (by rw [decide_eq_true_eq]; exact h)]
    rfl
theorem closed_len (T : TaS) (k : Nat) : (T.closedK k).length ≤ k := by
  unfold closedK posK
  rw [List.length_map]
  exact Nat.le_trans (List.length_filter_le _ _) (by simp)
theorem closed_mem {T : TaS} (h : T.WF) (z : Int) : z ∈ T.closedL ↔ T.stA z = 2 := by
  unfold closedL closedK
  rw [List.mem_map]
  constructor
  · rintro ⟨i, hi, rfl⟩
    have h1 := (pos_mem.1 hi).2
    unfold lastN at h1
    by_cases h2 : T.stA (T.done.getD i 0) = 2
    · exact h2
    · rw [if_neg h2] at h1
      omega
  · intro hz
    have hm := mem_get (h.done z hz)
    have hg := lastK_get (Nat.le_refl _) hm
    obtain ⟨j, hj, _⟩ := hm
    refine ⟨lastK T.done z T.done.length, pos_mem.2 ⟨lastK_lt _ _ _ (by omega), ?_⟩, hg⟩
    rw [hg]
    unfold lastN
    rw [if_pos hz]
theorem closed_nodup (T : TaS) : T.closedL.Nodup := by
  unfold closedL closedK
  rw [List.Nodup, List.pairwise_map]
  refine (pos_asc T _).imp_of_mem fun {a b} ha hb hab e => ?_
  have h1 := (pos_mem.1 ha).2
  have h2 := (pos_mem.1 hb).2
  rw [e, h2] at h1
  omega
theorem pos_len (T : TaS) (k : Nat) : (T.closedK k).length = (T.posK k).length := by simp [closedK]
theorem closed_get {T : TaS} {j : Nat} (hj : j < T.closedL.length) : ∃ p, (T.posK T.done.length)[j]? = some p ∧ T.closedL[j] = T.done.getD p 0 ∧ T.stA T.closedL[j] = 2 ∧ lastK T.done T.closedL[j] T.done.length = p ∧ p < T.done.length := by
  have hj2 : j < (T.posK T.done.length).length := by rw [← pos_len]; exact hj
  refine ⟨(T.posK T.done.length)[j], List.getElem?_eq_getElem hj2, ?_⟩
  have e : T.closedL[j] = T.done.getD (T.posK T.done.length)[j] 0 := by
    simp only [closedL, closedK, List.getElem_map]
  have hm := pos_mem.1 (List.getElem_mem hj2)
  rw [e]
  have h1 := hm.2
  unfold lastN at h1
  by_cases h2 : T.stA (T.done.getD (T.posK T.done.length)[j] 0) = 2
  · rw [if_pos h2] at h1
    exact ⟨rfl, h2, by omega, hm.1⟩
  · rw [if_neg h2] at h1
    omega
/-- Of closed ones each is older than the next one. -/
theorem closed_older {T : TaS} {j : Nat} (hj : j + 1 < T.closedL.length) : T.ageN T.closedL[j + 1] < T.ageN (T.closedL[j]'(by omega)) := by
  obtain ⟨p, hp, _, h2, hl, hlt⟩ := closed_get (T := T) (j := j) (by omega)
  obtain ⟨q, hq, _, k2, kl, klt⟩ := closed_get (T := T) hj
  unfold ageN
  rw [if_pos h2, if_pos k2, hl, kl]
  have hj1 : j < (T.posK T.done.length).length := by rw [← pos_len]; exact Nat.lt_of_succ_lt hj
  have hj2 : j + 1 < (T.posK T.done.length).length := by rw [← pos_len]; exact hj
  have := List.pairwise_iff_getElem.1 (pos_asc T T.done.length) j (j + 1) hj1 hj2 (by omega)
  rw [List.getElem?_eq_getElem hj1] at hp
  rw [List.getElem?_eq_getElem hj2] at hq
  have e1 := Option.some.inj hp
  have e2 := Option.some.inj hq
  omega
theorem age_self {T : TaS} {z : Int} (h : T.stA z = 1) : (T.closeS z).ageN z = 0 := by
  have hin := in_iff.1 (in_of (T := T) (z := z) (by omega))
  unfold closeS
  rw [if_pos h]
  unfold ageN
  rw [st_set (row := T.row) (done := T.done) hin, if_pos rfl, if_pos rfl]
  show (T.done ++ [z]).length - 1 - lastK (T.done ++ [z]) z (T.done ++ [z]).length = 0
  rw [lastK_self]
  simp

theorem take_in {T : TaS} (h : T.WF) {z : Int} {r : List Int} (e : T.row = z :: r) : 0 ≤ z ∧ z < (T.st.length : Int) ∧ T.stA z = 0 := by
  have := (h.row z).1 (by rw [e]; simp)
  exact ⟨(in_iff.1 this.1).1, (in_iff.1 this.1).2, this.2⟩
theorem WF.new {n : Nat} (h1 : 1 ≤ n) (h2 : n ≤ 24) : (TaS.new n).WF := by
  have hst : ∀ z, (TaS.new n).stA z = 0 := fun z => by
    unfold stA
    split
    · simp only [TaS.new, List.getD_eq_getElem?_getD, List.getElem?_replicate]
      split <;> rfl
    · rfl
  refine ⟨by simp [TaS.new]; exact ⟨h1, h2⟩, fun z => .inl (hst z), ?_, fun z => ?_, fun z hz => ?_, fun z hz => ?_⟩
  · show ((List.range n).map (fun (i : Nat) => (i : Int))).Nodup
    rw [List.Nodup, List.pairwise_map]
    exact List.pairwise_lt_range.imp (fun h e => by omega)
  · rw [in_iff]
    simp only [TaS.new, List.mem_map, List.mem_range, List.length_replicate]
    constructor
    · rintro ⟨i, hi, rfl⟩
      exact ⟨by omega, hst _⟩
    · rintro ⟨h, _⟩
      exact ⟨z.toNat, by omega, by omega⟩
  · rw [hst] at hz
    omega
  · simp [TaS.new] at hz
theorem WF.take {T : TaS} (h : T.WF) : T.takeS.WF := by
  unfold takeS
  cases hr : T.row with
  | nil => exact h
  | cons z r =>
    rw [if_neg (by simp)]
    obtain ⟨h0, h1, h2⟩ := take_in h hr
    simp only [List.headD_cons, List.tail_cons]
    have hs := fun y => st_set (st := T.st) (row := T.row) (row' := r) (done := T.done) (done' := T.done) (s := 1) ⟨h0, h1⟩ y
    have hn : (z :: r).Nodup := hr ▸ h.nd
    rw [List.nodup_cons] at hn
    refine ⟨by simpa using h.len, fun y => ?_, hn.2, fun y => ?_, fun y hy => ?_, fun y hy => ?_⟩
    · rw [hs]
      split
      · exact .inr (.inl rfl)
      · exact h.st y
    · rw [hs, in_set (row := T.row) (done := T.done)]
      have := h.row y
      rw [hr] at this
      by_cases e : y = z
      · subst e
        simp [hn.1]
      · rw [if_neg e]
        rw [List.mem_cons] at this
        show y ∈ r ↔ _
        rw [← this]
        simp [e]
    · rw [hs] at hy
      by_cases e : y = z
      · rw [if_pos e] at hy
        omega
      · rw [if_neg e] at hy
        exact h.done y hy
    · rw [in_set (row := T.row) (done := T.done)]
      exact h.dn y hy
theorem WF.close {T : TaS} (h : T.WF) (z : Int) : (T.closeS z).WF := by
  unfold closeS
  split
  · rename_i h1
    have hin := in_iff.1 (in_of (T := T) (z := z) (by omega))
    have hs := fun y => st_set (st := T.st) (row := T.row) (row' := T.row) (done := T.done) (done' := T.done ++ [z]) (s := 2) hin y
    refine ⟨by simpa using h.len, fun y => ?_, h.nd, fun y => ?_, fun y hy => ?_, fun y hy => ?_⟩
    · rw [hs]
      split
      · exact .inr (.inr rfl)
      · exact h.st y
    · rw [hs, in_set (row := T.row) (done := T.done)]
      have := h.row y
      show y ∈ T.row ↔ _
      rw [this]
      by_cases e : y = z
      · subst e
        rw [if_pos rfl, show TaS.stA T y = 1 from h1]
        simp
      · rw [if_neg e]
    · rw [hs] at hy
      show y ∈ T.done ++ [z]
      by_cases e : y = z
      · simp [e]
      · rw [if_neg e] at hy
        simp [h.done y hy]
    · rw [in_set (row := T.row) (done := T.done)]
      rcases List.mem_append.1 hy with hy | hy
      · exact h.dn y hy
      · rw [List.mem_singleton.1 hy]
        exact in_iff.2 hin
  · exact h
theorem WF.give {T : TaS} (h : T.WF) (z : Int) : (T.giveS z).WF := by
  unfold giveS
  split
  · exact h
  · rename_i h1
    have hin := in_iff.1 (in_of (T := T) (z := z) h1)
    have hs := fun y => st_set (st := T.st) (row := T.row) (row' := T.row ++ [z]) (done := T.done) (done' := T.done) (s := 0) hin y
    have hnm : z ∉ T.row := fun hm => h1 ((h.row z).1 hm).2
    refine ⟨by simpa using h.len, fun y => ?_, ?_, fun y => ?_, fun y hy => ?_, fun y hy => ?_⟩
    · rw [hs]
      split
      · exact .inl rfl
      · exact h.st y
    · show (T.row ++ [z]).Nodup
      rw [List.nodup_append]
      refine ⟨h.nd, by simp, fun a ha b hb => ?_⟩
      rw [List.mem_singleton] at hb
      rintro rfl
      subst hb
      exact hnm ha
    · rw [hs, in_set (row := T.row) (done := T.done)]
      show y ∈ T.row ++ [z] ↔ _
      rw [List.mem_append, List.mem_singleton, h.row y]
      by_cases e : y = z
      · subst e
        simp [in_iff.2 hin]
      · rw [if_neg e]
        simp [e]
    · rw [hs] at hy
      by_cases e : y = z
      · rw [if_pos e] at hy
        omega
      · rw [if_neg e] at hy
        exact h.done y hy
    · rw [in_set (row := T.row) (done := T.done)]
      exact h.dn y hy
theorem all_len {l : List Int} {n : Nat} (hd : l.Nodup) (h : ∀ z ∈ l, 0 ≤ z ∧ z < (n : Int)) : l.length ≤ n := by
  have := List.Nodup.length_le_of_subset (l₂ := (List.range n).map (fun (i : Nat) => (i : Int))) hd (fun z hz => by
    rw [List.mem_map]
    have := h z hz
    exact ⟨z.toNat, by rw [List.mem_range]; omega, by omega⟩)
  simpa using this
theorem row_len {T : TaS} (h : T.WF) : T.row.length ≤ 24 := Nat.le_trans (all_len h.nd (fun z hz => in_iff.1 ((h.row z).1 hz).1)) h.len.2
theorem closed_len2 {T : TaS} (h : T.WF) : T.closedL.length ≤ 24 := Nat.le_trans (all_len (closed_nodup T) (fun z hz => in_iff.1 (in_of (by rw [(closed_mem h z).1 hz]; omega)))) h.len.2
end TaS
end Go.Proofs.YteoohafadijkmaaDoor
