/-
  A cache as mathematics: acts, and what they tell; map pages one behind the other.
  The document's cache in memory: Victim.
  Rows that are read, cut in two: s[:j] and s[j:].
-/
import Derived.Test.YtajccmkdfmpapaaGreatDoorCaMath2
import Derived.Test.YtajccmkdfmpapaaGreatDoorZmG
import Derived.Test.YtajccmkdfmpapaaGreatDoorZmC
namespace Go.Proofs.YtajccmkdfmpapaaGreatDoor

theorem atE_map {L : List CE} {f : CE → CE} (hf : ∀ e, (f e).b = e.b) (x : Int) : atE (L.map f) x = (atE L x).map f := by
  unfold atE
  rw [List.find?_map]
  congr 2
  funext e
  simp only [Function.comp, hf]
theorem atE_set {L : List CE} {f : CE → CE} (hf : ∀ e, (f e).b = e.b) (x z : Int) : atE (setE L x f) z = if z = x then (atE L z).map f else atE L z := by
  unfold setE
  rw [atE_map (fun e => by split; exact hf e; rfl)]
  by_cases e : z = x
  · rw [if_pos e]
    cases h : atE L z with
    | none => rfl
    | some y =>
      have := (atE_some h).2
      simp [this, e]
  · rw [if_neg e]
    cases h : atE L z with
    | none => rfl
    | some y =>
      have := (atE_some h).2
      have h2 : ¬ ((y.b : Int) = x) := by omega
      simp [h2]
theorem atE_drop {L : List CE} (x z : Int) : atE (dropE L x) z = if z = x then none else atE L z := by
  induction L with
  | nil => simp [atE, dropE]
  | cons y L ih =>
    unfold dropE at ih ⊢
    by_cases e : (y.b : Int) = x
    · rw [List.filter_cons_of_neg (by simp [e]), ih]
      by_cases e2 : z = x
      · rw [if_pos e2, if_pos e2]
      · rw [if_neg e2, if_neg e2]
        unfold atE
        rw [List.find?_cons_of_neg (by simp; omega)]
    · rw [List.filter_cons_of_pos (by simp [e])]
      unfold atE at ih ⊢
      by_cases e2 : (y.b : Int) = z
      · rw [List.find?_cons_of_pos (by simp [e2]), List.find?_cons_of_pos (by simp [e2]), if_neg (by omega)]
      · rw [List.find?_cons_of_neg (by simp [e2]), List.find?_cons_of_neg (by simp [e2]), ih]
theorem atE_ins {L : List CE} {y : CE} (h : ∀ e ∈ L, e.b ≠ y.b) (z : Int) : atE (insE L y) z = if z = (y.b : Int) then some y else atE L z := by
  induction L with
  | nil =>
    unfold insE atE
    by_cases e : z = (y.b : Int)
    · rw [if_pos e, List.find?_cons_of_pos (by simp [e])]
    · rw [if_neg e, List.find?_cons_of_neg (by simp; omega)]
  | cons x L ih =>
    have ih := ih (fun e he => h e (by simp [he]))
    have hx := h x (by simp)
    unfold insE
    split
    · unfold atE at ih ⊢
      by_cases e : (x.b : Int) = z
      · rw [List.find?_cons_of_pos (by simp [e]), List.find?_cons_of_pos (by simp [e]), if_neg (by omega)]
      · rw [List.find?_cons_of_neg (by simp [e]), ih]
        split
        · rfl
        · rw [List.find?_cons_of_neg (by simp [e])]
    · unfold atE
      by_cases e : z = (y.b : Int)
      · rw [if_pos e, List.find?_cons_of_pos (by simp [e])]
      · rw [if_neg e, List.find?_cons_of_neg (by simp; omega)]
structure CAct where
  d : Int
  b : Int
  a : Nat
  y : Bool
namespace CaS
def vicD (S : CaS) : CaS := match S.vicE with | some e => S.dropS (e.b : Int) | none => S
def doS (S : CaS) (d b : Int) (a : Nat) (y : Bool) : CaS := if d = 0 then S.useS b else if d = 1 then S.putS b a y else if d = 2 then S.moveS b a else if d = 3 then S.dropS b else if d = 4 then S.cleanS b else if d = 5 then S.vicD else S
def toldN (S : CaS) (d b : Int) : Nat := if 1 ≤ d ∧ d ≤ 5 then 0 else S.addr b
def toldB (S : CaS) (d b : Int) : Bool := if d = 1 then S.putB b else if d = 4 then false else if d = 5 then S.vicE.isSome else S.has b
def toldM (S : CaS) (d b : Int) : Nat := if d = 4 then (S.dirtyL b).length else 0
def dty (S : CaS) (x : Int) : Bool := ((atE S.E x).map CE.d).getD false
variable {S : CaS}
theorem vic_at (hw : S.WF) {v : Nat} (h : S.rk.vic = some v) : ∃ e ∈ S.E, e.b = v ∧ atE S.E (v : Int) = some e := by
  obtain ⟨e, he, rfl⟩ := (hw.mem v).1 (RkS.vic_mem h)
  have hh := mem_has he rfl
  obtain ⟨e2, h2⟩ := Option.isSome_iff_exists.1 hh
  obtain ⟨hm, hb⟩ := atE_some h2
  exact ⟨e2, hm, by omega, h2⟩
theorem vicE_vic (hw : S.WF) : S.vicE.map CE.b = S.rk.vic := by
  unfold vicE
  cases h : S.rk.vic with
  | none => rfl
  | some v =>
    obtain ⟨e, _, hb, ha⟩ := vic_at hw h
    simp [ha, hb]
theorem vicE_mem {e : CE} (h : S.vicE = some e) : e ∈ S.E ∧ atE S.E (e.b : Int) = some e ∧ S.has (e.b : Int) = true := by
  unfold vicE at h
  obtain ⟨v, hv, ha⟩ := Option.bind_eq_some_iff.1 h
  obtain ⟨hm, hb⟩ := atE_some ha
  have hb : (e.b : Int) = (v : Int) := hb
  rw [← hb] at ha
  exact ⟨hm, ha, mem_has hm rfl⟩
theorem do_wf (hw : S.WF) (d b : Int) (a : Nat) (y : Bool) : (S.doS d b a y).WF := by
  unfold doS
  split; exact use_wf hw b
  split; exact put_wf hw b a y
  split; exact move_wf hw b a
  split; exact drop_wf hw b
  split; exact clean_wf hw b
  split
  · unfold vicD
    split
    · exact drop_wf hw _
    · exact hw
  exact hw
theorem use_n (x : Int) : (S.useS x).n = S.n := by unfold useS; split <;> rfl
theorem put_n (x : Int) (a : Nat) (d : Bool) : (S.putS x a d).n = S.n := by
  unfold putS
  split
  · exact use_n (S := { S with E := setE S.E x (fun e => { e with a := a, d := e.d || d }) }) x
  · split <;> rfl
theorem drop_n (x : Int) : (S.dropS x).n = S.n := by unfold dropS; split <;> rfl
theorem use_E (x : Int) : (S.useS x).E = S.E := by unfold useS; split <;> rfl
theorem addr_of {x : Int} {e : CE} (h : atE S.E x = some e) : S.addr x = e.a ∧ S.has x = true ∧ S.dty x = e.d := by
  unfold addr has dty
  rw [h]
  exact ⟨rfl, rfl, rfl⟩
theorem addr_none {x : Int} (h : S.has x = false) : atE S.E x = none ∧ S.addr x = 0 ∧ S.dty x = false := by
  have : atE S.E x = none := by simpa [has] using h
  unfold addr dty
  rw [this]
  exact ⟨rfl, rfl, rfl⟩
/-- What is known of a block. -/
def Info (S : CaS) (x : Int) (a : Nat) (h d : Bool) : Prop := S.addr x = a ∧ S.has x = h ∧ S.dty x = d
theorem Info.self (S : CaS) (x : Int) : S.Info x (S.addr x) (S.has x) (S.dty x) := ⟨rfl, rfl, rfl⟩
theorem info_eq {S' : CaS} {x : Int} (h : atE S'.E x = atE S.E x) : S'.Info x (S.addr x) (S.has x) (S.dty x) := by
  unfold Info addr has dty
  rw [h]
  exact ⟨rfl, rfl, rfl⟩
theorem info_use (b x : Int) : (S.useS b).Info x (S.addr x) (S.has x) (S.dty x) := info_eq (by rw [use_E])
theorem info_move (b x : Int) (a : Nat) : (S.moveS b a).Info x (if b = x ∧ S.has b = true then a else S.addr x) (S.has x) (S.dty x) := by
  have he : atE (S.moveS b a).E x = _ := atE_set (L := S.E) (f := fun e => { e with a := a }) (fun _ => rfl) b x
  unfold Info addr has dty
  rw [he]
  by_cases e : x = b
  · subst e
    rw [if_pos rfl]
    cases h : atE S.E x <;> simp
  · rw [if_neg e]
    simp [show ¬ (b = x) from fun h => e h.symm]
theorem info_drop (b x : Int) : (S.dropS b).Info x (if b = x then 0 else S.addr x) (if b = x then false else S.has x) (if b = x then false else S.dty x) := by
  cases hb : S.has b with
  | true =>
    have he : atE (S.dropS b).E x = if x = b then none else atE S.E x := by
      unfold dropS
      rw [if_pos hb]
      exact atE_drop b x
    unfold Info addr has dty
    rw [he]
    by_cases e : b = x
    · subst e
      simp
    · rw [if_neg (fun h => e h.symm)]
      simp [e]
  | false =>
    have hs : S.dropS b = S := by
      unfold dropS
      rw [hb]
      rfl
    rw [hs]
    by_cases e : b = x
    · subst e
      obtain ⟨_, h1, h2⟩ := addr_none hb
      simp [Info, h1, h2, hb]
    · simp [e, Info]
theorem info_put (b x : Int) (a : Nat) (y : Bool) : (S.putS b a y).Info x (if b = x ∧ S.putB b = true then a else S.addr x) (if b = x ∧ S.putB b = true then true else S.has x) (if b = x ∧ S.putB b = true then (S.dty x || y) else S.dty x) := by
  cases hb : S.has b with
  | true =>
    have hp : S.putB b = true := by simp [putB, hb]
    have he : atE (S.putS b a y).E x = if x = b then (atE S.E x).map (fun e => { e with a := a, d := e.d || y }) else atE S.E x := by
      unfold putS
      rw [if_pos hb, use_E]
      exact atE_set (L := S.E) (f := fun e => { e with a := a, d := e.d || y }) (fun _ => rfl) b x
    unfold Info addr has dty
    rw [he, hp]
    by_cases e : x = b
    · subst e
      obtain ⟨e2, h2⟩ := Option.isSome_iff_exists.1 hb
      rw [if_pos rfl, h2]
      simp
    · rw [if_neg e]
      simp [show ¬ (b = x) from fun h => e h.symm]
  | false =>
    cases hp : S.putB b with
    | true =>
      have h0 : 0 ≤ b := by
        unfold putB at hp
        rw [hb] at hp
        simp at hp
        omega
      obtain ⟨k, rfl⟩ := Int.eq_ofNat_of_zero_le h0
      have he : atE (S.putS (k : Int) a y).E x = if x = (k : Int) then some ⟨k, a, y⟩ else atE S.E x := by
        unfold putS
        rw [if_neg (by simp [hb]), if_pos hp]
        exact atE_ins (y := ⟨k, a, y⟩) (fun e he (e2 : e.b = k) => has_no hb e he (by omega)) x
      unfold Info addr has dty
      rw [he]
      by_cases e : x = (k : Int)
      · subst e
        obtain ⟨h1, _⟩ := addr_none hb
        rw [if_pos rfl, h1]
        simp
      · rw [if_neg e]
        simp [show ¬ ((k : Int) = x) from fun h => e h.symm]
    | false =>
      have hs : S.putS b a y = S := by
        unfold putS
        rw [if_neg (by simp [hb]), if_neg (by simp [hp])]
      rw [hs]
      simp [Info]
theorem info_clean (t x : Int) : (S.cleanS t).Info x (S.addr x) (S.has x) (S.dty x && !decide (((x.toNat / 4 : Nat) : Int) = t)) := by
  have he : atE (S.cleanS t).E x = (atE S.E x).map (fun e => if isD t e = true then { e with d := false } else e) := atE_map (fun e => by split <;> rfl) x
  unfold Info addr has dty
  rw [he]
  cases h : atE S.E x with
  | none => simp
  | some e =>
    have hb : (e.b : Int) = x := (atE_some h).2
    have hn : x.toNat = e.b := by omega
    rw [hn]
    simp only [Option.map_some, Option.getD_some, Option.isSome_some]
    unfold isD
    cases hd : e.d with
    | false => simp [hd]
    | true =>
      by_cases h4 : ((e.b / 4 : Nat) : Int) = t
      · rw [if_pos (by simp only [Bool.true_and, decide_eq_true_eq]; exact h4)]
        simp only [decide_eq_true h4]
        exact ⟨trivial, trivial, rfl⟩
      · rw [if_neg (by simp only [Bool.true_and, decide_eq_true_eq]; exact h4)]
        simp only [decide_eq_false h4]
        exact ⟨trivial, trivial, hd⟩
/-- Who is dirty, among those of a map page. -/
theorem dirty_any (x : Nat) (hw : S.WF) : (S.dirtyL ((x / 4 : Nat) : Int)).any (fun e => decide ((e.b : Int) = (x : Int))) = S.dty (x : Int) := by
  cases h : atE S.E (x : Int) with
  | none =>
    have hd : S.dty (x : Int) = false := by unfold dty; rw [h]; rfl
    rw [hd, List.any_eq_false]
    intro e he
    have := atE_none h e (List.mem_filter.1 he).1
    simpa using this
  | some e =>
    obtain ⟨hm, hb⟩ := atE_some h
    rw [(addr_of h).2.2]
    cases hd : e.d with
    | true =>
      rw [List.any_eq_true]
      refine ⟨e, List.mem_filter.2 ⟨hm, ?_⟩, by simpa using hb⟩
      have : e.b = x := by omega
      simp [isD, hd, this]
    | false =>
      rw [List.any_eq_false]
      intro e2 he2
      obtain ⟨hm2, hi⟩ := List.mem_filter.1 he2
      intro hx
      have hx : (e2.b : Int) = (x : Int) := by simpa using hx
      obtain ⟨i, hi1, rfl⟩ := List.getElem_of_mem hm
      obtain ⟨j, hj1, rfl⟩ := List.getElem_of_mem hm2
      have := asc_inj hw.asc hi1 hj1 (by omega)
      subst this
      simp [isD, hd] at hi
/-- What is dirty. -/
def allD (S : CaS) : List CE := S.E.filter (fun e => e.d)
theorem filter_two : ∀ {L : List CE} {m : Nat}, L.Pairwise (fun x y => x.b < y.b) → L.filter (fun e => e.d && decide (e.b / 4 < m + 1)) = L.filter (fun e => e.d && decide (e.b / 4 < m)) ++ L.filter (isD (m : Int))
  | [], _, _ => rfl
  | z :: L, m, h => by
    obtain ⟨h1, h2⟩ := List.pairwise_cons.1 h
    have ih := filter_two (m := m) h2
    by_cases hd : z.d = true
    · by_cases hq : z.b / 4 < m
      · rw [List.filter_cons_of_pos (by simp [hd]; omega), List.filter_cons_of_pos (by simp [hd]; omega), List.filter_cons_of_neg (by simp [isD, hd]; omega), ih]
        rfl
      · by_cases hr : z.b / 4 = m
        · have hz : L.filter (fun e => e.d && decide (e.b / 4 < m)) = [] := by
            rw [List.filter_eq_nil_iff]
            intro e he
            have := h1 e he
            simp
            intro _
            omega
          rw [hz, List.nil_append] at ih
          rw [List.filter_cons_of_pos (by simp [hd]; omega), List.filter_cons_of_neg (by simp [hd]; omega), List.filter_cons_of_pos (by simp [isD, hd]; omega), ih, hz]
          rfl
        · rw [List.filter_cons_of_neg (by simp [hd]; omega), List.filter_cons_of_neg (by simp [hd]; omega), List.filter_cons_of_neg (by simp [isD, hd]; omega), ih]
    · rw [List.filter_cons_of_neg (by simp [hd]), List.filter_cons_of_neg (by simp [hd]), List.filter_cons_of_neg (by simp [isD, hd]), ih]
theorem flat_range (hw : S.WF) : ∀ m : Nat, ((List.range m).filter (fun t : Nat => decide (0 < (S.dirtyL (t : Int)).length))).flatMap (fun t : Nat => S.dirtyL (t : Int)) = S.E.filter (fun e => e.d && decide (e.b / 4 < m))
  | 0 => by
    symm
    rw [List.filter_eq_nil_iff.2]
    · rfl
    · intro e _
      simp
  | m + 1 => by
    rw [List.range_succ, List.filter_append, List.flatMap_append, flat_range hw m, filter_two hw.asc]
    congr 1
    by_cases h : 0 < (S.dirtyL (m : Int)).length
    · rw [List.filter_cons_of_pos (by simpa using h)]
      simp [dirtyL]
    · rw [List.filter_cons_of_neg (by simpa using h)]
      have : S.dirtyL (m : Int) = [] := List.eq_nil_of_length_eq_zero (by omega)
      unfold dirtyL at this
      rw [this]
      rfl
/-- Map page by map page all that is dirty is told once. -/
theorem tab_flat (hw : S.WF) : S.tabL.flatMap (fun t : Nat => S.dirtyL (t : Int)) = S.allD := by
  unfold tabL allD
  rw [flat_range hw 16]
  refine List.filter_congr fun e he => ?_
  have := hw.b64 e he
  simp
  intro _
  omega
theorem tab_pos {t : Nat} (h : t ∈ S.tabL) : 0 < (S.dirtyL (t : Int)).length := by
  unfold tabL at h
  simpa using (List.mem_filter.1 h).2
theorem clean_none (t : Int) : (S.cleanS t).dirtyL t = [] := by
  unfold dirtyL cleanS
  rw [List.filter_eq_nil_iff]
  intro e he
  obtain ⟨e2, _, rfl⟩ := List.mem_map.1 he
  by_cases h : isD t e2 = true
  · rw [if_pos h]
    simp [isD]
  · rw [if_neg h]
    exact h
theorem clean_count (t : Int) : (S.cleanS t).allD.length + (S.dirtyL t).length = S.allD.length := by
  unfold allD dirtyL cleanS
  simp only
  induction S.E with
  | nil => rfl
  | cons e L ih =>
    rw [List.map_cons]
    by_cases h : isD t e = true
    · have hd : e.d = true := by
        simp [isD] at h
        exact h.1
      rw [if_pos h, List.filter_cons_of_neg (by simp), List.filter_cons_of_pos h, List.filter_cons_of_pos (by simp [hd])]
      simp only [List.length_cons]
      omega
    · rw [if_neg h, List.filter_cons_of_neg (p := isD t) h]
      cases hd : e.d with
      | true =>
        rw [List.filter_cons_of_pos (by simp [hd]), List.filter_cons_of_pos (by simp [hd])]
        simp only [List.length_cons]
        omega
      | false =>
        rw [List.filter_cons_of_neg (by simp [hd]), List.filter_cons_of_neg (by simp [hd])]
        omega
end CaS
/-- Those that follow one of their own kind are left out: of the first i. -/
def cpt (xs : List Nat) : Nat → List Nat
  | 0 => []
  | i + 1 => if 0 < i ∧ xs[i]? = xs[i - 1]? then cpt xs i else cpt xs i ++ xs[i]?.toList
theorem cpt_mem {xs : List Nat} {x : Nat} : ∀ {i : Nat}, i ≤ xs.length → (x ∈ cpt xs i ↔ x ∈ xs.take i)
  | 0, _ => by simp [cpt]
  | i + 1, h => by
    have ih := cpt_mem (xs := xs) (x := x) (i := i) (by omega)
    rw [List.take_add_one, List.mem_append, ← ih]
    show x ∈ (if 0 < i ∧ xs[i]? = xs[i - 1]? then cpt xs i else cpt xs i ++ xs[i]?.toList) ↔ _
    split
    · rename_i hc
      constructor
      · exact .inl
      · rintro (h1 | h1)
        · exact h1
        · rw [ih]
          rw [hc.2] at h1
          have : x ∈ xs.take i := by
            have h2 : xs[i - 1]? = some x := by simpa using h1
            obtain ⟨hl, rfl⟩ := List.getElem?_eq_some_iff.1 h2
            exact List.mem_take_iff_getElem.2 ⟨i - 1, by omega, rfl⟩
          exact this
    · rw [List.mem_append]
theorem cpt_lt {xs : List Nat} (hs : xs.Pairwise (· ≤ ·)) : ∀ {i : Nat}, i ≤ xs.length → (cpt xs i).Pairwise (· < ·)
  | 0, _ => by simp [cpt]
  | i + 1, h => by
    have ih := cpt_lt hs (i := i) (by omega)
    show (if 0 < i ∧ xs[i]? = xs[i - 1]? then cpt xs i else cpt xs i ++ xs[i]?.toList).Pairwise (· < ·)
    split
    · exact ih
    · rename_i hc
      rw [List.pairwise_append]
      refine ⟨ih, by rw [List.getElem?_eq_getElem (by omega)]; simp, fun a ha b hb => ?_⟩
      rw [List.getElem?_eq_getElem (show i < xs.length by omega)] at hb
      obtain rfl : b = xs[i] := by simpa using hb
      obtain ⟨j, hj, rfl⟩ := List.mem_take_iff_getElem.1 ((cpt_mem (by omega)).1 ha)
      have hji : j < i := by omega
      have h1 : xs[j] ≤ xs[i - 1] := by
        rcases Nat.lt_or_ge j (i - 1) with h1 | h1
        · exact List.pairwise_iff_getElem.1 hs j (i - 1) (by omega) (by omega) h1
        · obtain rfl : j = i - 1 := by omega
          exact Nat.le_refl _
      have h2 : xs[i - 1] ≤ xs[i] := List.pairwise_iff_getElem.1 hs (i - 1) i (by omega) (by omega) (by omega)
      have h3 : xs[i - 1] ≠ xs[i] := fun e => hc ⟨by omega, by rw [List.getElem?_eq_getElem (by omega), List.getElem?_eq_getElem (by omega), e]⟩
      omega
namespace CaS
variable {S : CaS}
/-- The map pages of all that is dirty. -/
def tabsD (S : CaS) : List Nat := S.allD.map (fun e => e.b / 4)
theorem tabsD_le (hw : S.WF) : S.tabsD.Pairwise (· ≤ ·) := by
  unfold tabsD allD
  rw [List.pairwise_map]
  exact (hw.asc.filter _).imp (fun h => by omega)
theorem tabsD_mem (hw : S.WF) (t : Nat) : t ∈ S.tabsD ↔ t ∈ S.tabL := by
  unfold tabsD allD tabL dirtyL
  rw [List.mem_map, List.mem_filter]
  simp only [decide_eq_true_eq]
  constructor
  · rintro ⟨e, he, rfl⟩
    obtain ⟨hm, hd⟩ := List.mem_filter.1 he
    have := hw.b64 e hm
    refine ⟨by simp; omega, ?_⟩
    refine List.length_pos_of_mem (a := e) (List.mem_filter.2 ⟨hm, ?_⟩)
    have hd : e.d = true := hd
    simp [isD, hd]
  · rintro ⟨_, h⟩
    obtain ⟨e, he⟩ := List.exists_mem_of_length_pos h
    obtain ⟨hm, hd⟩ := List.mem_filter.1 he
    simp [isD] at hd
    exact ⟨e, List.mem_filter.2 ⟨hm, by simp [hd.1]⟩, by omega⟩
theorem tab_lt (S : CaS) : S.tabL.Pairwise (· < ·) := by
  unfold tabL
  refine List.Pairwise.filter _ ?_
  exact List.pairwise_lt_range
end CaS
end Go.Proofs.YtajccmkdfmpapaaGreatDoor
namespace Go.Proofs.YtajccmkdfmpapaaGreatDoor
open Go.RowKit

def rceV (e : CE) : Value := .agg #[.int .i64 (e.b : Int), .int .u32 (e.a : Int), .bool e.d]
def rvicF (S : CaS) : CE := S.vicE.getD ⟨0, 0, false⟩
def RVicIs (S : CaS) (w : World) (r : Ending) (w' : World) : Prop := r = .returned (.tuple #[rceV (rvicF S), .bool S.vicE.isSome]) ∧ Below w.heap.size w w'
theorem below_put {b : Nat} {w w' : World} (h : Below w.heap.size w w') (hb : w.heap.size ≤ b) (o : Nat) (v : Value) : Below w.heap.size w (w'.setCell ⟨b, o, none⟩ v) :=
  ((Kept.of_below (F := fun _ => False) h).put (.inr hb) o v).below (Nat.le_refl _) (fun _ h => h.elim)
section
variable {w : World} {Y : Nat → Prop} {rc kb : Nat} {vL vS : Value} {σ : Nat → Nat} {S : CaS}
/-- All entries' slots, where they stand. -/
theorem RcC.slots (h : RcC Y w rc kb vL vS σ S) (hp : 0 < S.E.length) : ∃ b2 o2 c2, vS = .slice (some ⟨b2, o2, none⟩) S.E.length c2 ∧ S.E.length ≤ c2 ∧ b2 < w.heap.size ∧ b2 ≠ rc ∧ b2 ≠ kb ∧ vL.ownBlock ≠ some b2 ∧ ∀ i (hi : i < S.E.length), w.cell? ⟨b2, o2 + i, none⟩ = some (.int .i64 (σ S.E[i].b : Int)) := by
  obtain ⟨A2, c2, e2, hc2, hr2, hin, _⟩ := h.s
  have hlen : (iCells (nats (slotsE σ S.E))).length = S.E.length := by rw [iCells_len, nats_len]; simp [slotsE]
  obtain ⟨b2, o2, rfl, hb2, hcell⟩ := hr2 (by omega)
  have hne := hin (by omega) b2 o2 none rfl
  rw [hlen] at e2 hc2
  refine ⟨b2, o2, c2, e2, hc2, hb2, hne.1, hne.2.1, hne.2.2.1, fun i hi => ?_⟩
  have h0 := hcell i (by omega)
  refine h0.trans ?_
  have h1 := slot_at (σ := σ) hi
  obtain ⟨l1, h1⟩ := List.getElem?_eq_some_iff.1 h1
  simp only [iCells, List.getElem_map, h1]
set_option maxHeartbeats 2000000 in
set_option maxRecDepth 100000 in
theorem cvictim_at (h : RcC Y w rc kb vL vS σ S) : Calls Tryz.prog 20 #[.pointer (some ⟨rc, 0, none⟩)] w (RVicIs S w) := by
  obtain ⟨RB, hRB⟩ : ∃ b, w.heap.size = b := ⟨_, rfl⟩
  obtain ⟨w0, hw0⟩ : ∃ u, w.alloc (.cells #[.int .i64 0, .int .u32 0, .bool false] 59) = u := ⟨_, rfl⟩
  have hb0 : Below w.heap.size w w0 := by rw [← hw0]; exact (Below.refl _ _).alloc (Nat.le_refl _) _
  have hk0 : Blk w0 RB 59 [.int .i64 0, .int .u32 0, .bool false] := by rw [← hw0, ← hRB]; exact heap_alloc_new w _
  have HV := Lib.hid (rvictim_at (h.up hb0).k)
  have c2 := (h.up hb0).cells.2.2.1
  have HB0 := Lib.hid hb0
  have HK0 := Lib.hid hk0
  have HRB := Lib.hid hRB
  unfold VicTo at HV
  have HD : Hid (∀ (w' : World) u v t, Blk w' RB 59 [.int .i64 0, .int .u32 0, .bool false] → (w'.setCell ⟨RB, 0, none⟩ u).cell? ⟨RB, 0, none⟩ = some u ∧ ((w'.setCell ⟨RB, 0, none⟩ u).setCell ⟨RB, 1, none⟩ v).cell? ⟨RB, 1, none⟩ = some v ∧ (((w'.setCell ⟨RB, 0, none⟩ u).setCell ⟨RB, 1, none⟩ v).setCell ⟨RB, 2, none⟩ t).cell? ⟨RB, 2, none⟩ = some t) := Lib.hid (fun w' u v t hb => ⟨(hb.put 0 u).cell 0 (by simp), ((hb.put 0 u).put 1 v).cell 1 (by simp), (((hb.put 0 u).put 1 v).put 2 t).cell 2 (by simp)⟩)
  cases hv : S.vicE with
  | none =>
    have hr : S.rk.vic = none := by rw [← CaS.vicE_vic h.wf, hv]; rfl
    have hm : (S.rk.map σ).vic = none := by rw [RkS.map_vic, hr]; rfl
    have hE : ∀ w', Below w.heap.size w w' → RVicIs S w (.returned (.tuple #[rceV ⟨0, 0, false⟩, .bool false])) w' := fun w' hb => ⟨by unfold rvicF; rw [hv]; rfl, hb⟩
    have HE := Lib.hid hE
    rw [show (S.rk.map σ).vicN = 0 by unfold RkS.vicN; rw [hm]; rfl, show (S.rk.map σ).vic.isSome = false by rw [hm]; rfl] at HV
    clear h hv hr hm hE hb0 hk0
    go_enter Tryz.func20, Tryz.ntmps20
    go_wp2_with fail
    refine HV.out.mono ?_
    rintro r w' ⟨rfl, hb⟩
    have HB1 := Lib.hid (below_all HB0.out hb)
    have hx := HK0.out.up hb (lt_of_block HK0.out)
    have x0 := hx.cell 0 (by simp)
    have x1 := hx.cell 1 (by simp)
    have x2 := hx.cell 2 (by simp)
    have f0 := hx.free 0
    have f1 := hx.free 1
    have f2 := hx.free 2
    obtain ⟨d0, d1, d2⟩ := HD.out w' (.int .i64 0) (.int .u32 0) (.bool false) hx
    simp only [List.getElem_cons_zero, List.getElem_cons_succ] at x0 x1 x2
    clear hb hx HV HD
    go_wp2_with fail
    refine bodyPost_ret (v := .tuple #[.agg #[.int .i64 0, .int .u32 0, .bool false], .bool false]) (by simp [results, Tryz.results20, go_sem, d0, d1, d2]) rfl ?_
    have hRB := HRB.out
    exact HE.out _ (below_put (below_put (below_put HB1.out (by omega) _ _) (by omega) _ _) (by omega) _ _)
  | some e =>
    obtain ⟨he, ha, hh⟩ := CaS.vicE_mem hv
    have hr : S.rk.vic = some e.b := by rw [← CaS.vicE_vic h.wf, hv]; rfl
    have hm : (S.rk.map σ).vic = some (σ e.b) := by rw [RkS.map_vic, hr]; rfl
    have hE : ∀ w', Below w.heap.size w w' → RVicIs S w (.returned (.tuple #[rceV e, .bool true])) w' := fun w' hb => ⟨by unfold rvicF; rw [hv]; rfl, hb⟩
    have HE := Lib.hid hE
    rw [show (S.rk.map σ).vicN = σ e.b by unfold RkS.vicN; rw [hm]; rfl, show (S.rk.map σ).vic.isSome = true by rw [hm]; rfl] at HV
    obtain ⟨i0, hi0, hei⟩ := List.getElem_of_mem he
    have h1 := h.up hb0
    obtain ⟨b2, o2, c3, rfl, hc3, hb2, _, _, _, hsl⟩ := h1.slots (by omega)
    have hlt1 := h1.lt
    obtain ⟨A, c, rfl, hnc, _, _⟩ := h1.l.form
    obtain ⟨bl, ol, rfl, hbl, hcell⟩ := h1.l.rd (by rw [cesC_len]; omega)
    obtain ⟨p0, p1, p2⟩ := ces_cells hcell i0 hi0
    rw [hei] at p0 p1 p2
    have hq0 := h1.cells.1
    have hq1 := h1.cells.2.1
    have hl64 := h.lens.1
    have HNE : Hid (∀ j (hj : j < i0), σ (S.E[j]'(by omega)).b ≠ σ e.b) := Lib.hid (fun j hj e2 => by
      have := h.inj _ (List.getElem_mem (by omega)) e he e2
      rw [← hei] at this
      have := asc_inj h.wf.asc (by omega) hi0 this
      omega)
    have HSL : Hid (∀ i (hi : i < S.E.length), w0.cell? ⟨b2, o2 + i, none⟩ = some (.int .i64 (σ S.E[i].b : Int))) := Lib.hid hsl
    have HLT : Hid (rc < w0.heap.size ∧ b2 < w0.heap.size ∧ bl < w0.heap.size) := Lib.hid ⟨hlt1.1, hb2, hbl⟩
    obtain ⟨eb', heb⟩ : ∃ y, e.b = y := ⟨_, rfl⟩
    obtain ⟨ea', hea⟩ : ∃ y, e.a = y := ⟨_, rfl⟩
    obtain ⟨ed', hed⟩ : ∃ y, e.d = y := ⟨_, rfl⟩
    have hce : rceV e = .agg #[.int .i64 (eb' : Int), .int .u32 (ea' : Int), .bool ed'] := by unfold rceV; rw [heb, hea, hed]
    have HEI : Hid (σ (S.E[i0]'hi0).b = σ e.b) := Lib.hid (by rw [hei])
    obtain ⟨s, hs⟩ : ∃ s, σ e.b = s := ⟨_, rfl⟩
    rw [hs] at HV HNE HEI
    rw [heb] at p0
    rw [hea] at p1
    rw [hed] at p2
    rw [hce] at HE
    obtain ⟨n, hn⟩ : ∃ n, S.E.length = n := ⟨_, rfl⟩
    have HN := Lib.hid hn
    rw [hn] at hq0 hq1 hl64 hnc hc3
    have hin : i0 < n := by omega
    clear h hv hr hm hE hb0 hk0 ha hh he h1 hlt1 hsl hcell hei hce heb hea hed hs hbl hb2
    go_enter Tryz.func20, Tryz.ntmps20
    go_wp2_with fail
    refine HV.out.mono ?_
    rintro r w' ⟨rfl, hb⟩
    have HB := Lib.hid hb
    have HB1 := Lib.hid (below_all HB0.out hb)
    have hx := HK0.out.up hb (lt_of_block HK0.out)
    have x0 := hx.cell 0 (by simp)
    have x1 := hx.cell 1 (by simp)
    have x2 := hx.cell 2 (by simp)
    have f0 := hx.free 0
    have f1 := hx.free 1
    have f2 := hx.free 2
    obtain ⟨d0, d1, d2⟩ := HD.out w' (.int .i64 (eb' : Int)) (.int .u32 (ea' : Int)) (.bool ed') hx
    simp only [List.getElem_cons_zero, List.getElem_cons_succ] at x0 x1 x2
    have r0 := (hb.cell (p := ⟨rc, 0, none⟩) HLT.out.1).trans hq0
    have r1 := (hb.cell (p := ⟨rc, 1, none⟩) HLT.out.1).trans hq1
    have e0 := (hb.cell (p := ⟨bl, ol + i0 * 3, none⟩) HLT.out.2.2).trans p0
    have e1 := (hb.cell (p := ⟨bl, ol + i0 * 3 + 1, none⟩) HLT.out.2.2).trans p1
    have e2 := (hb.cell (p := ⟨bl, ol + i0 * 3 + 2, none⟩) HLT.out.2.2).trans p2
    clear hb hx HV HD hq0 hq1 p0 p1 p2 c2
    go_wp2_with fail
    go_loopg [6] i0 (fun q x wr => ∃ j : Nat, j ≤ i0 ∧ q = i0 - j ∧ x = .int .i64 (j : Int) ∧ w' = wr)
    case atStart => exact ⟨0, by omega, rfl, rfl, rfl⟩
    case round =>
      obtain ⟨j, hj, hq, rfl, rfl⟩ := hrel
      have HQ := Lib.hid hq
      clear hq
      by_cases hlt : j < i0
      · have hjl : j < S.E.length := by rw [HN.out]; omega
        have sj := (HB.out.cell (p := ⟨b2, o2 + j, none⟩) HLT.out.2.1).trans (HSL.out j hjl)
        have hne := HNE.out j hlt
        obtain ⟨sv, hsv⟩ : ∃ z, σ S.E[j].b = z := ⟨_, rfl⟩
        rw [hsv] at sj hne
        have q0 : ((sv : Int) != (s : Int)) = true := by simp; omega
        have hjn : j < n := by omega
        clear hsv hne
        go_wp2_with fail
        go_roundg (i0 - (j + 1))
        case rel => exact ⟨j + 1, by omega, rfl, by go_num, rfl⟩
        case measure => have := HQ.out; omega
      · obtain rfl : j = i0 := by omega
        have hjl : j < S.E.length := by rw [HN.out]; omega
        have sj := (HB.out.cell (p := ⟨b2, o2 + j, none⟩) HLT.out.2.1).trans (HSL.out j hjl)
        rw [HEI.out] at sj
        have q0 : ((s : Int) != (s : Int)) = false := by simp
        go_wp2_with fail
        refine bodyPost_ret (v := .tuple #[.agg #[.int .i64 (eb' : Int), .int .u32 (ea' : Int), .bool ed'], .bool true]) (by simp [results, Tryz.results20, go_sem, d0, d1, d2]) rfl ?_
        have hRB := HRB.out
        exact HE.out _ (below_put (below_put (below_put HB1.out (by omega) _ _) (by omega) _ _) (by omega) _ _)
end
end Go.Proofs.YtajccmkdfmpapaaGreatDoor
namespace Go.Proofs.YtajccmkdfmpapaaGreatDoor
open Go.RowKit

/-- What cutting a slice tells, in whatever world. -/
def CutIs (Ts : TypeId) (x : Value) (lo hi : Option Value) (v : Value) : Prop :=
  (∀ W : World, (Instr.sliceAt Ts x lo hi none).run Tryz.prog W = .ok v W) ∧ ∀ W : World, (Instr.slice Ts x lo hi none).run Tryz.prog W = .ok v W
theorem rdv_pre {w u : World} {A : Option Addr} {vs : List Value} (h : RdV w w.heap.size A vs) (hb : Below w.heap.size w u) (k : Nat) : RdV u u.heap.size A (vs.take k) := by
  intro hn
  have hp : 0 < vs.length := by simp at hn; omega
  obtain ⟨b, o, hA, hlt, hc⟩ := (h.up hb) hp
  refine ⟨b, o, hA, hlt, fun i hi => ?_⟩
  rw [hc i (by simp at hi; omega)]
  simp
theorem rdv_suf {w u : World} {b o : Nat} {vs : List Value} (h : RdV w w.heap.size (some ⟨b, o, none⟩) vs) (hb : Below w.heap.size w u) (k : Nat) : RdV u u.heap.size (some ⟨b, o + k, none⟩) (vs.drop k) := by
  intro hn
  have hp : k < vs.length := by simp at hn; omega
  obtain ⟨b', o', hA, hlt, hc⟩ := (h.up hb) (by omega)
  have hA := Option.some.inj hA
  injection hA with h1 h2
  subst h1 h2
  refine ⟨b, o + k, rfl, hlt, fun i hi => ?_⟩
  rw [Nat.add_assoc, hc (k + i) (by simp at hi; omega)]
  simp
section
variable {w : World} {Ts : TypeId} {k n c j : Nat} {A : Option Addr} {vs : List Value}
theorem cut_head (he : Tryz.prog.underlying Ts = some (.slice (Tryz.prog.elem Ts))) (hz : ∀ W : World, (sizeOf (Tryz.prog.elem Ts)).run Tryz.prog W = .ok k W) (hr : RdV w w.heap.size A vs) (hA : A = none → c = 0) (hnc : n ≤ c) (hj : j ≤ n) :
    ∃ A1 c1, CutIs Ts (.slice A n c) none (some (.int .i64 (j : Int))) (.slice A1 j c1) ∧ (A1 = none → c1 = 0) ∧ ∀ u, Below w.heap.size w u → RdV u u.heap.size A1 (vs.take (j * k)) := by
  have h2 : ∀ W : World, (Instr.slice Ts (.slice A n c) none (some (.int .i64 (j : Int))) none).run Tryz.prog W = .ok (.slice A j c) W := fun W => by
    rw [run_slice_h (P := Tryz.prog) (w := W) (t := Ts) (a := A) (len := n) (cap := c) (ht := he) (kh := .i64) (h := j) (by omega) (by omega), hz]
    cases A with
    | none => simp [Result.andThen, sliced]
    | some a =>
      have e : sliced (some a) 0 j c k = .slice (some a) j c := by
        unfold sliced
        by_cases hc : c = 0
        · rw [if_pos hc, hc, Nat.sub_zero]
        · rw [if_neg hc, Nat.zero_mul, Nat.sub_zero, Nat.sub_zero]
          rfl
      show Result.ok (sliced (some a) 0 ((j : Int).toNat) c k) W = _
      rw [Int.toNat_natCast, e]
  exact ⟨A, c, ⟨fun W => by rw [run_sliceAt_slice (h := he)]; exact h2 W, h2⟩, hA, fun u hu => rdv_pre hr hu _⟩
theorem cut_tail (he : Tryz.prog.underlying Ts = some (.slice (Tryz.prog.elem Ts))) (hz : ∀ W : World, (sizeOf (Tryz.prog.elem Ts)).run Tryz.prog W = .ok k W) (hr : RdV w w.heap.size A vs) (hA : A = none → c = 0) (hl : vs.length = n * k) (hk : 0 < k) (hnc : n ≤ c) (hj : j ≤ n) :
    ∃ A1 c1, CutIs Ts (.slice A n c) (some (.int .i64 (j : Int))) none (.slice A1 (n - j) c1) ∧ (A1 = none → c1 = 0) ∧ ∀ u, Below w.heap.size w u → RdV u u.heap.size A1 (vs.drop (j * k)) := by
  have h2 : ∀ W : World, (Instr.slice Ts (.slice A n c) (some (.int .i64 (j : Int))) none none).run Tryz.prog W = .ok (sliced A j n c k) W := fun W => by
    rw [run_slice_l (P := Tryz.prog) (w := W) (t := Ts) (a := A) (len := n) (cap := c) (ht := he) (kl := .i64) (l := j) (by omega) (by omega), hz]
    simp [Result.andThen]
  have hcut : ∀ v, sliced A j n c k = v → CutIs Ts (.slice A n c) (some (.int .i64 (j : Int))) none v := fun v e => by
    subst e
    exact ⟨fun W => by rw [run_sliceAt_slice (h := he)]; exact h2 W, h2⟩
  cases A with
  | none =>
    have hc := hA rfl
    subst hc
    obtain rfl : n = 0 := by omega
    obtain rfl : j = 0 := by omega
    have hv : vs = [] := List.eq_nil_of_length_eq_zero (by omega)
    subst hv
    exact ⟨none, 0, hcut _ (by simp [sliced]), fun _ => rfl, fun u _ => by simpa using RdV.nil⟩
  | some a =>
    by_cases hjn : j < n
    · have hp : 0 < vs.length := by
        rw [hl]
        exact Nat.mul_pos (by omega) hk
      obtain ⟨b, o, e, _, _⟩ := hr hp
      have e := Option.some.inj e
      subst e
      refine ⟨some ⟨b, o + j * k, none⟩, c - j, hcut _ ?_, fun e => (by cases e), fun u hu => rdv_suf hr hu _⟩
      have h1 : ¬ (c = j) := by omega
      by_cases h0 : j * k = 0
      · simp [sliced, Addr.add, h0, h1]
      · simp [sliced, Addr.add, h0, h1]
    · obtain rfl : j = n := by omega
      have hdrop : vs.drop (j * k) = [] := by rw [← hl, List.drop_length]
      rw [hdrop]
      have : ∃ A1, sliced (some a) j j c k = .slice A1 (j - j) (c - j) ∧ A1 ≠ none := by
        unfold sliced
        by_cases h1 : c = j
        · exact ⟨some a, by simp [h1], by simp⟩
        · exact ⟨some (a.add (j * k)), by simp [h1], by simp⟩
      obtain ⟨A1, h3, h4⟩ := this
      exact ⟨A1, c - j, hcut _ h3, fun e => absurd e h4, fun u _ => RdV.nil⟩
end
end Go.Proofs.YtajccmkdfmpapaaGreatDoor
