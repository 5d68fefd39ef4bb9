/-
  Plain mathematics of the landed table: rows without one of theirs; what is closed, and up to which closing, behind Take, Close and Give.
-/
import Derived.Test.YteoohafadijkmaaDoorTaMath
namespace Go.Proofs.YteoohafadijkmaaDoor

/-- Where a zone stands in a list, or -1. -/
def AtL (zs : List Int) (z i : Int) : Prop := (∃ p : Nat, i = (p : Int) ∧ ∃ h : p < zs.length, zs[p] = z) ∨ (i = -1 ∧ z ∉ zs)
theorem erase_filter {α : Type} (f : α → Int) {z : Int} : ∀ {l : List α} {p : Nat} (hp : p < l.length), (l.map f).Nodup → f l[p] = z → l.eraseIdx p = l.filter (fun e => decide (f e ≠ z))
  | a :: l, 0, hp, hn, h => by
    rw [List.map_cons, List.nodup_cons] at hn
    have h : f a = z := h
    rw [List.eraseIdx_cons_zero, List.filter_cons_of_neg (by simp [h])]
    symm
    rw [List.filter_eq_self]
    intro b hb
    rw [decide_eq_true_eq]
    intro e
    exact hn.1 (List.mem_map.2 ⟨b, hb, by rw [e, h]⟩)
  | a :: l, p + 1, hp, hn, h => by
    rw [List.map_cons, List.nodup_cons] at hn
    have hp' : p < l.length := by simpa using hp
    have h : f l[p] = z := h
    rw [List.eraseIdx_cons_succ, List.filter_cons_of_pos (by rw [decide_eq_true_eq]; intro e; exact hn.1 (List.mem_map.2 ⟨l[p], List.getElem_mem hp', by rw [h, e]⟩)), erase_filter f hp' hn.2 h]
theorem filter_out {α : Type} (f : α → Int) {z : Int} {l : List α} (h : z ∉ l.map f) : l.filter (fun e => decide (f e ≠ z)) = l := by
  rw [List.filter_eq_self]
  intro b hb
  rw [decide_eq_true_eq]
  intro e
  exact h (List.mem_map.2 ⟨b, hb, e⟩)
namespace TaS
/-- The closed ones, and up to which closing. -/
def es (T : TaS) : List (Int × Nat) := T.closedL.map (fun z => (z, lastK T.done z T.done.length + 1))
theorem es_fst (T : TaS) : T.es.map (·.1) = T.closedL := by
  unfold es
  rw [List.map_map]
  exact List.map_id _
theorem es_nd (T : TaS) : (T.es.map (·.1)).Nodup := by
  rw [es_fst]
  exact closed_nodup T
theorem es_len (T : TaS) : T.es.length = T.closedL.length := by simp [es]
theorem pos_congr {T T' : TaS} {k : Nat} (h : ∀ i, i < k → (T'.lastN (T'.done.getD i 0) = (i : Int) ↔ T.lastN (T.done.getD i 0) = (i : Int))) : T'.posK k = T.posK k := by
  unfold posK
  apply List.filter_congr
  intro i hi
  have := h i (List.mem_range.1 hi)
  simp only [this]
theorem last_same {T T' : TaS} (hd : T'.done = T.done) {y : Int} (hs : T'.stA y = 2 ↔ T.stA y = 2) : T'.lastN y = T.lastN y := by
  unfold lastN
  rw [hd]
  by_cases h : T.stA y = 2
  · rw [if_pos h, if_pos (hs.2 h)]
  · rw [if_neg h, if_neg (fun e => h (hs.1 e))]
theorem es_same {T T' : TaS} (hd : T'.done = T.done) (hs : ∀ y, T'.stA y = 2 ↔ T.stA y = 2) : T'.es = T.es := by
  have hp : T'.posK T'.done.length = T.posK T.done.length := by
    rw [hd]
    apply pos_congr
    intro i _
    rw [hd, last_same hd (hs _)]
  unfold es closedL closedK
  rw [hp, hd]
theorem es_less {T T' : TaS} (hd : T'.done = T.done) {z : Int} (hs : ∀ y, T'.stA y = 2 ↔ T.stA y = 2 ∧ y ≠ z) : T'.es = T.es.filter (fun e => decide (e.1 ≠ z)) := by
  have hp : T'.posK T'.done.length = (T.posK T.done.length).filter (fun i => decide (T.done.getD i 0 ≠ z)) := by
    rw [hd]
    unfold posK
    rw [List.filter_filter]
    apply List.filter_congr
    intro i _
    rw [hd]
    by_cases hz : T.done.getD i 0 = z
    · rw [hz]
      have : T'.lastN z = -1 := by
        unfold lastN
        rw [if_neg (fun e => ((hs z).1 e).2 rfl)]
      rw [this]
      have h2 : ¬ (-1 : Int) = (i : Int) := by omega
      simp [h2]
    · rw [last_same hd ((hs _).trans ⟨fun h => h.1, fun h => ⟨h, hz⟩⟩), decide_eq_true (p := T.done.getD i 0 ≠ z) hz]
      simp
  unfold es closedL closedK
  rw [hp, hd, List.filter_map, List.filter_map]
  rfl
theorem take_es {T : TaS} (h : T.WF) : T.takeS.es = T.es := by
  unfold takeS
  cases hr : T.row with
  | nil => rfl
  | cons z r =>
    rw [if_neg (by simp)]
    obtain ⟨h0, h1, h2⟩ := take_in h hr
    simp only [List.headD_cons, List.tail_cons]
    refine es_same rfl (fun y => ?_)
    rw [st_set (st := T.st) (row := T.row) (row' := r) (done := T.done) (done' := T.done) (s := 1) ⟨h0, h1⟩ y]
    by_cases e : y = z
    · subst e
      rw [if_pos rfl]
      constructor
      · intro h
        omega
      · intro h
        have h : T.stA y = 2 := h
        omega
    · rw [if_neg e]
theorem close_es {T : TaS} {z : Int} (hz : T.stA z = 1) : (T.closeS z).es = T.es ++ [(z, T.done.length + 1)] := by
  have hin := in_iff.1 (in_of (T := T) (z := z) (by omega))
  have hs := fun y => st_set (st := T.st) (row := T.row) (row' := T.row) (done := T.done) (done' := T.done ++ [z]) (s := 2) hin y
  unfold closeS
  rw [if_pos hz]
  obtain ⟨T', hT'⟩ : ∃ T', (⟨T.st.set z.toNat 2, T.row, T.done ++ [z]⟩ : TaS) = T' := ⟨_, rfl⟩
  have hd : T'.done = T.done ++ [z] := by rw [← hT']
  have hs : ∀ y, T'.stA y = if y = z then 2 else T.stA y := by rw [← hT']; exact hs
  rw [hT']
  clear hT' hin
  have hget : ∀ i, i < T.done.length → T'.done.getD i 0 = T.done.getD i 0 := fun i hi => by
    rw [hd, List.getD_eq_getElem?_getD, List.getD_eq_getElem?_getD, List.getElem?_append_left hi]
  have hgetz : T'.done.getD T.done.length 0 = z := by
    rw [hd]
    simp [List.getD_eq_getElem?_getD]
  have hlen : T'.done.length = T.done.length + 1 := by simp [hd]
  have hlz : T'.lastN z = (T.done.length : Int) := by
    unfold lastN
    rw [hs, if_pos rfl, if_pos rfl, hd, lastK_self]
  have hly : ∀ y, y ≠ z → T'.lastN y = T.lastN y := fun y hy => by
    unfold lastN
    rw [hs, if_neg hy, hd, lastK_ne _ hy]
  have hlz1 : T.lastN z = -1 := by
    unfold lastN
    rw [if_neg (by omega)]
  have hp : T'.posK T.done.length = T.posK T.done.length := by
    apply pos_congr
    intro i hi
    rw [hget i hi]
    by_cases e : T.done.getD i 0 = z
    · rw [e, hlz, hlz1]
      constructor
      · intro h
        omega
      · intro h
        omega
    · rw [hly _ e]
  have hc : T'.closedL = T.closedL ++ [z] := by
    unfold closedL
    rw [hlen, closed_step, hgetz, hlz, if_pos rfl]
    congr 1
    unfold closedK
    rw [hp]
    apply List.map_congr_left
    intro i hi
    exact hget i (pos_mem.1 hi).1
  have hne : ∀ y ∈ T.closedL, y ≠ z := fun y hy e => by
    subst e
    obtain ⟨j, hj, e⟩ := List.getElem_of_mem hy
    obtain ⟨p, _, _, h2, _⟩ := closed_get hj
    rw [e] at h2
    omega
  unfold es
  rw [hc, List.map_append]
  congr 1
  · apply List.map_congr_left
    intro y hy
    rw [hd, lastK_ne _ (hne y hy)]
  · rw [List.map_cons, List.map_nil, hd, lastK_self]
theorem give_es {T : TaS} {z : Int} (hz : T.stA z ≠ 0) : (T.giveS z).es = T.es.filter (fun e => decide (e.1 ≠ z)) := by
  have hin := in_iff.1 (in_of (T := T) (z := z) hz)
  have hs := fun y => st_set (st := T.st) (row := T.row) (row' := T.row ++ [z]) (done := T.done) (done' := T.done) (s := 0) hin y
  unfold giveS
  rw [if_neg hz]
  refine es_less (T := T) (T' := ⟨T.st.set z.toNat 0, T.row ++ [z], T.done⟩) rfl (fun y => ?_)
  rw [hs y]
  by_cases e : y = z
  · subst e
    rw [if_pos rfl]
    constructor
    · intro h
      omega
    · rintro ⟨_, h⟩
      exact absurd rfl h
  · rw [if_neg e]
    exact ⟨fun h => ⟨h, e⟩, fun h => h.1⟩
/-- The place of a closed one tells its age. -/
theorem es_age {T : TaS} {z : Int} {p : Nat} (hp : p < T.es.length) (h : T.es[p].1 = z) : ((T.ageN z : Nat) : Int) = (T.done.length : Int) - (T.es[p].2 : Int) ∧ T.es[p].2 ≤ T.done.length := by
  have hp2 : p < T.closedL.length := by rw [← es_len]; exact hp
  obtain ⟨q, _, _, h2, hl, hlt⟩ := closed_get hp2
  have e1 : T.es[p].1 = T.closedL[p] := by simp [es]
  have e2 : T.es[p].2 = q + 1 := by
    have : T.es[p].2 = lastK T.done T.closedL[p] T.done.length + 1 := by simp [es]
    rw [this, hl]
  rw [e1] at h
  subst h
  unfold ageN
  rw [if_pos h2, hl, e2]
  omega
theorem age_out {T : TaS} {z : Int} (h : T.WF) (hz : z ∉ T.closedL) : T.ageN z = 0 := by
  unfold ageN
  rw [if_neg (fun e => hz ((closed_mem h z).2 e))]
end TaS
end Go.Proofs.YteoohafadijkmaaDoor
