/-
  A ranking of slots: who goes first; what is kept; how many stand. Plain mathematics.
  A region that draws its order, walked by hand: what is held may be more from some operation on. For whatever program.
-/
import Derived.Test.YtajccmkdfmpapaaGreatDoorLruMath
import Derived.Deep.RegionHeldLaw
namespace Go.Proofs.YtajccmkdfmpapaaGreatDoor
namespace RkS

theorem but_app (a b : List Nat) (x : Nat) : butL (a ++ b) x = butL a x ++ butL b x := List.filter_append ..
theorem but_rev (a : List Nat) (x : Nat) : butL a.reverse x = (butL a x).reverse := List.filter_reverse ..
/-- Who goes first, one behind the other. -/
def ord (S : RkS) : List Nat := S.T.reverse ++ S.K.reverse
theorem vic_ord (S : RkS) : S.vic = S.ord.head? := by
  unfold vic ord
  rw [List.head?_append, List.head?_reverse, List.head?_reverse]
theorem ord_nd {S : RkS} (h : S.WF) : S.ord.Nodup := by
  unfold ord
  have hp : (S.T.reverse ++ S.K.reverse).Perm (S.T ++ S.K) := (List.reverse_perm _).append (List.reverse_perm _)
  exact hp.symm.nodup h.nd
theorem ord_mem {S : RkS} {s : Nat} : s ∈ S.ord ↔ s ∈ S.T ++ S.K := by simp [ord]
theorem vic_first {S : RkS} {v : Nat} {r : List Nat} (e : S.ord = v :: r) : S.vicN = v ∧ S.vic.isSome = true := by
  have : S.vic = some v := by rw [vic_ord, e]; rfl
  unfold vicN
  rw [this]
  exact ⟨rfl, rfl⟩
theorem ord_rem {S : RkS} (h : S.WF) {v : Nat} {r : List Nat} (e : S.ord = v :: r) : S.has (v : Int) = true ∧ (S.remS (v : Int)).ord = r := by
  have hh : S.has (v : Int) = true := has_of_mem (ord_mem.1 (by rw [e]; simp))
  refine ⟨hh, ?_⟩
  unfold remS
  rw [if_pos hh]
  unfold ord
  simp only [Int.toNat_natCast]
  rw [← but_rev, ← but_rev, ← but_app]
  show butL S.ord v = r
  have hn := ord_nd h
  rw [e] at hn ⊢
  exact but_mid (P := []) hn
theorem vic_none {S : RkS} (e : S.ord = []) : S.vic.isSome = false := by
  rw [vic_ord, e]
  rfl

/-- Slots that were inserted, and never touched. -/
def ins0 (came : List Nat) (n : Nat) : RkS := ⟨came.reverse, [], n⟩
theorem ins0_yes {came : List Nat} {n : Nat} {x : Int} (h : (ins0 came n).insB x = true) : (ins0 came n).insS x = ins0 (came ++ [x.toNat]) n ∧ ∃ s : Nat, x = (s : Int) := by
  refine ⟨?_, ?_⟩
  · unfold insS
    rw [if_pos h]
    simp [ins0]
  · simp only [insB, Bool.and_eq_true, decide_eq_true_eq] at h
    exact ⟨x.toNat, by omega⟩
theorem ins0_no {came : List Nat} {n : Nat} {x : Int} (h : (ins0 came n).insB x = false) : (ins0 came n).insS x = ins0 came n := by
  unfold insS
  rw [if_neg (by rw [h]; simp)]
/-- Those that are told again, but for the one that was touched. -/
def telL (b : Bool) (t : Int) (came : List Nat) : List Nat := came.filter (fun s => !b || ((s : Int) != t))
theorem tel_snoc (b : Bool) (t : Int) (came : List Nat) (s : Nat) : telL b t (came ++ [s]) = if (!b || ((s : Int) != t)) = true then telL b t came ++ [s] else telL b t came := by
  unfold telL
  rw [List.filter_append, List.filter_cons]
  split <;> simp_all
theorem tel_len (b : Bool) (t : Int) (came : List Nat) : (telL b t came).length ≤ came.length := List.length_filter_le _ _
theorem tel_no (t : Int) (came : List Nat) : telL false t came = came := List.filter_eq_self.2 fun a _ => rfl
theorem tel_yes (s : Nat) (came : List Nat) : telL true (s : Int) came = butL came s := by
  unfold telL butL
  refine List.filter_congr fun a _ => ?_
  by_cases e : a = s
  · subst e
    simp
  · have : ((a : Int) == (s : Int)) = false := by simp; omega
    simp [bne, this, e]
theorem first_yes {came : List Nat} {t : Int} (h : (ins0 came 64).has t = true) : ∃ s : Nat, t = (s : Int) ∧ ((ins0 came 64).touS t).ord = telL true t came ++ [s] := by
  obtain ⟨s, rfl, hs⟩ := has_some h
  refine ⟨s, rfl, ?_⟩
  rw [tel_yes]
  have e : (ins0 came 64).touS (s : Int) = ⟨butL came.reverse s, [s], 64⟩ := by
    unfold touS
    rw [if_pos h]
    unfold demo
    rw [if_neg (by simp [ins0, butL])]
    simp [ins0, butL]
  rw [e]
  unfold ord
  rw [but_rev]
  simp
theorem first_no {came : List Nat} {t : Int} (h : (ins0 came 64).has t = false) : ((ins0 came 64).touS t).ord = telL false t came := by
  have e : (ins0 came 64).touS t = ins0 came 64 := by
    unfold touS
    rw [if_neg (by rw [h]; simp)]
  rw [e, tel_no]
  simp [ord, ins0]

/-- How many stand. -/
def cnt (S : RkS) : Nat := S.T.length + S.K.length
theorem cnt_ord (S : RkS) : S.cnt = S.ord.length := by simp [cnt, ord]
theorem cnt_ins {S : RkS} {x : Int} : (S.insS x).cnt = S.cnt + (if S.insB x = true then 1 else 0) := by
  unfold insS
  split <;> simp [cnt]
  omega
theorem cnt_rem {S : RkS} (hw : S.WF) {x : Int} (h : S.has x = true) : (S.remS x).cnt + 1 = S.cnt := by
  obtain ⟨s, rfl, hs⟩ := has_some h
  unfold remS
  rw [if_pos h]
  have := but_len hw.nd hs
  rw [but_app] at this
  simp [cnt] at this ⊢
  exact this
theorem cnt_demo (S : RkS) : S.demo.cnt = S.cnt := by
  unfold demo
  split
  · rename_i hl
    cases e : S.K.getLast? with
    | some s => simp [cnt]; omega
    | none =>
      rw [List.getLast?_eq_none_iff] at e
      rw [e] at hl
      simp at hl
  · rfl
theorem cnt_tou {S : RkS} (hw : S.WF) {x : Int} : (S.touS x).cnt = S.cnt := by
  unfold touS
  split
  · rename_i h
    rw [cnt_demo]
    have := cnt_rem hw h
    unfold remS at this
    rw [if_pos h] at this
    simp [cnt] at this ⊢
    omega
  · rfl
/-- Never more are kept than there is room for. -/
def Room (S : RkS) : Prop := S.K.length ≤ S.n / 2
theorem but_le (l : List Nat) (x : Nat) : (butL l x).length ≤ l.length := List.length_filter_le _ _
theorem room_ins {S : RkS} (h : S.Room) (x : Int) : (S.insS x).Room := by
  unfold insS
  split <;> exact h
theorem room_rem {S : RkS} (h : S.Room) (x : Int) : (S.remS x).Room := by
  unfold remS
  split
  · exact Nat.le_trans (but_le _ _) h
  · exact h
theorem room_tou {S : RkS} (h : S.Room) (x : Int) : (S.touS x).Room := by
  unfold Room at *
  unfold touS
  split
  · unfold demo
    have := but_le S.K x.toNat
    split
    · simp
      omega
    · rename_i h2
      simp at h2 ⊢
      omega
  · exact h
theorem room_do {S : RkS} (h : S.Room) (d x : Int) : (S.doS d x).Room := by
  unfold doS
  split
  · exact room_ins h x
  · split
    · exact room_tou h x
    · split
      · exact room_rem h x
      · split
        · split
          · exact room_rem h _
          · exact h
        · exact h
theorem n_ins (S : RkS) (x : Int) : (S.insS x).n = S.n := by unfold insS; split <;> rfl
theorem n_rem (S : RkS) (x : Int) : (S.remS x).n = S.n := by unfold remS; split <;> rfl
theorem n_demo (S : RkS) : S.demo.n = S.n := by unfold demo; split <;> rfl
theorem n_tou (S : RkS) (x : Int) : (S.touS x).n = S.n := by
  unfold touS
  split
  · rw [n_demo]
  · rfl
theorem n_do (S : RkS) (d x : Int) : (S.doS d x).n = S.n := by
  unfold doS
  split
  · exact n_ins S x
  · split
    · exact n_tou S x
    · split
      · exact n_rem S x
      · split
        · split
          · exact n_rem S _
          · rfl
        · rfl
/-- How many stand behind an act. -/
theorem cnt_do {S : RkS} (hw : S.WF) (d x : Int) : ((S.doS d x).cnt : Int) = (S.cnt : Int) + (if S.doB d x = true then (if d = 0 then 1 else if 1 < d then -1 else 0) else 0) := by
  by_cases h0 : d = 0
  · subst h0
    have e := cnt_ins (S := S) (x := x)
    show ((S.insS x).cnt : Int) = _ + (if S.insB x = true then _ else _)
    rw [e]
    split <;> simp
  · by_cases h1 : d = 1
    · subst h1
      have e := cnt_tou hw (x := x)
      show ((S.touS x).cnt : Int) = _ + (if S.has x = true then _ else _)
      rw [e]
      split <;> simp
    · by_cases h2 : d = 2
      · subst h2
        show ((S.remS x).cnt : Int) = _ + (if S.has x = true then _ else _)
        by_cases hh : S.has x = true
        · have e := cnt_rem hw hh
          rw [if_pos hh]
          simp
          omega
        · rw [if_neg hh]
          unfold remS
          rw [if_neg hh]
          simp
      · by_cases h3 : d = 3
        · subst h3
          show (((if S.vic.isSome = true then S.remS (S.vicN : Int) else S)).cnt : Int) = _ + (if S.vic.isSome = true then _ else _)
          by_cases hh : S.vic.isSome = true
          · have e := cnt_rem hw (vic_has hh)
            rw [if_pos hh, if_pos hh]
            simp
            omega
          · rw [if_neg hh, if_neg hh]
            simp
        · have hb : S.doB d x = false := by
            unfold doB
            rw [if_neg h0, if_neg h1, if_neg h2, if_neg h3]
          have hs : S.doS d x = S := by
            unfold doS
            rw [if_neg h0, if_neg h1, if_neg h2, if_neg h3]
          rw [hb, hs]
          simp
/-- Who was touched last is no victim, as long as another one is there, and there is room for a kept one. -/
theorem touched_stays {S : RkS} (hw : S.WF) {x : Int} (h : S.has x = true) (hn : 1 < S.n) (hc : 1 < (S.touS x).cnt) : ((S.touS x).vicN : Int) ≠ x := by
  have hw' := touS_wf hw x
  obtain ⟨s, rfl, hs⟩ := has_some h
  have hk : ∃ r, (S.touS (s : Int)).K = s :: r := by
    unfold touS
    rw [if_pos h]
    unfold demo
    split
    · rename_i hl
      simp at hl
      simp only [Int.toNat_natCast]
      cases e : butL S.K s with
      | nil =>
        rw [e] at hl
        simp at hl
        omega
      | cons a r => exact ⟨_, List.dropLast_cons_of_ne_nil (by simp)⟩
    · exact ⟨butL S.K s, by simp⟩
  obtain ⟨r, hr⟩ := hk
  intro e
  have e : (S.touS (s : Int)).vicN = s := by omega
  have hnd := ord_nd hw'
  have hlen := cnt_ord (S.touS (s : Int))
  have ho : (S.touS (s : Int)).ord = ((S.touS (s : Int)).T.reverse ++ r.reverse) ++ [s] := by
    unfold ord
    rw [hr]
    simp
  rw [ho] at hnd hlen
  generalize (S.touS (s : Int)).T.reverse ++ r.reverse = P at hnd hlen ho
  cases P with
  | nil =>
    simp at hlen
    omega
  | cons v P =>
    have := vic_first (S := S.touS (s : Int)) (v := v) (r := P ++ [s]) (by rw [ho]; rfl)
    rw [this.1] at e
    subst e
    simp at hnd
theorem vic_cnt (S : RkS) : S.vic.isSome = decide (0 < S.cnt) := by
  rw [vic_ord, cnt_ord]
  cases S.ord <;> simp

/-- What is kept behind a touch. -/
theorem kept_tou {S : RkS} (hr : S.Room) {s : Nat} (h : S.has (s : Int) = true) : (S.touS (s : Int)).K = (s :: butL S.K s).take (min (s :: butL S.K s).length (S.n / 2)) := by
  have hb := but_le S.K s
  unfold Room at hr
  unfold touS
  rw [if_pos h]
  unfold demo
  simp only [Int.toNat_natCast]
  split
  · rename_i hl
    rw [List.dropLast_eq_take]
    congr 1
    simp at hl ⊢
    omega
  · rename_i hl
    rw [List.take_of_length_le]
    simp at hl ⊢
    omega
/-- All slots stand. -/
def Full (S : RkS) : Prop := S.cnt = S.n
theorem full_has {S : RkS} (hw : S.WF) (hf : S.Full) (x : Int) : S.has x = (decide (0 ≤ x) && decide (x < S.n)) := by
  by_cases h : 0 ≤ x ∧ x < S.n
  · have hin : x.toNat ∈ S.T ++ S.K := Classical.byContradiction fun hn => by
      have := nd_len S.n (x.toNat :: (S.T ++ S.K)) (List.nodup_cons.2 ⟨hn, hw.nd⟩) (fun s hs => by
        rcases List.mem_cons.1 hs with rfl | hs
        · omega
        · exact hw.lt s hs)
      unfold Full cnt at hf
      simp at this
      omega
    have := has_of_mem hin
    rw [Int.toNat_of_nonneg h.1] at this
    rw [this]
    simp [h.1, h.2]
  · have hn : S.has x = false := by
      cases e : S.has x with
      | false => rfl
      | true =>
        obtain ⟨s, rfl, hs⟩ := has_some e
        have := hw.lt s hs
        exact absurd ⟨by omega, by omega⟩ h
    rw [hn]
    symm
    rw [Bool.and_eq_false_iff]
    simp only [decide_eq_false_iff_not]
    omega
theorem range_ins {n s : Nat} (h : s < n) : (ins0 (List.range s) n).insB (s : Int) = true ∧ (ins0 (List.range s) n).insS (s : Int) = ins0 (List.range (s + 1)) n := by
  have hb : (ins0 (List.range s) n).insB (s : Int) = true := by
    unfold insB has
    simp [ins0, hasL_nat]
    exact h
  refine ⟨hb, ?_⟩
  rw [(ins0_yes hb).1, List.range_succ]
  simp
theorem range_full (n : Nat) : (ins0 (List.range n) n).Full ∧ (ins0 (List.range n) n).Room ∧ (ins0 (List.range n) n).K = [] := by
  refine ⟨by simp [Full, cnt, ins0], by simp [Room, ins0], rfl⟩
end RkS
end Go.Proofs.YtajccmkdfmpapaaGreatDoor
namespace Go.Proofs.YtajccmkdfmpapaaGreatDoor
theorem wpAnyH_mono {P : Program} {md : Region.Mode} {ops : Array Oper} {Q : Exit → Act → World → Prop} {S S2 : World → Prop} (hS : ∀ w, S2 w → S w) : ∀ {fuel : Nat} {listed : Array Bool} {a : Act} {w : World}, wpAnyH P md ops Q S2 fuel listed a w → wpAnyH P md ops Q S fuel listed a w
  | 0, _, _, _, h => h
  | _ + 1, _, _, _, h => ⟨h.1, fun i hi => wpOp_mono (fun _ _ h' => ⟨hS _ h'.1, wpAnyH_mono hS h'.2⟩) (h.2 i hi)⟩
end Go.Proofs.YtajccmkdfmpapaaGreatDoor
