/-
  A cache as mathematics: entries by blocks, and who was used last, by blocks, too.
-/
import Derived.Test.YtajccmkdfmpapaaGreatDoorLruMath
namespace Go.Proofs.YtajccmkdfmpapaaGreatDoor

structure CE where
  b : Nat
  a : Nat
  d : Bool
structure CaS where
  E : List CE
  T : List Nat
  K : List Nat
  n : Nat
structure CaS.WF (S : CaS) : Prop where
  asc : S.E.Pairwise (fun x y => x.b < y.b)
  b64 : ∀ e ∈ S.E, e.b < 64
  nd : (S.T ++ S.K).Nodup
  mem : ∀ x, x ∈ S.T ++ S.K ↔ ∃ e ∈ S.E, e.b = x
  le : S.E.length ≤ S.n
  n1 : 1 ≤ S.n
  n64 : S.n ≤ 64

/-- An entry. -/
def atE (L : List CE) (x : Int) : Option CE := L.find? (fun e => decide ((e.b : Int) = x))
/-- Where a block's entry stands. -/
def idxE (L : List CE) (x : Int) : Option Nat := L.findIdx? (fun e => decide ((e.b : Int) = x))
def setE (L : List CE) (x : Int) (f : CE → CE) : List CE := L.map (fun e => if (e.b : Int) = x then f e else e)
def dropE (L : List CE) (x : Int) : List CE := L.filter (fun e => !decide ((e.b : Int) = x))
def insE : List CE → CE → List CE
  | [], y => [y]
  | e :: L, y => if e.b < y.b then e :: insE L y else y :: e :: L
theorem atE_some {L : List CE} {x : Int} {e : CE} (h : atE L x = some e) : e ∈ L ∧ (e.b : Int) = x := ⟨List.mem_of_find?_eq_some h, by simpa using List.find?_some h⟩
theorem atE_none {L : List CE} {x : Int} (h : atE L x = none) : ∀ e ∈ L, (e.b : Int) ≠ x := by
  intro e he
  have := List.find?_eq_none.1 h e he
  simpa using this
theorem atE_idx {L : List CE} {x : Int} {i : Nat} (hn : ∀ j (hj : j < i) (hl : j < L.length), (L[j].b : Int) ≠ x) (hi : i < L.length) (he : (L[i].b : Int) = x) : atE L x = some L[i] := by
  unfold atE
  rw [List.find?_eq_some_iff_getElem]
  exact ⟨by simpa using he, i, hi, rfl, fun j hj => by simpa using hn j hj (by omega)⟩
theorem atE_no {L : List CE} {x : Int} (hn : ∀ j (hl : j < L.length), (L[j].b : Int) ≠ x) : atE L x = none := by
  unfold atE
  rw [List.find?_eq_none]
  intro e he
  obtain ⟨j, hj, rfl⟩ := List.getElem_of_mem he
  simpa using hn j hj
section
variable {L : List CE}
theorem asc_inj (h : L.Pairwise (fun x y => x.b < y.b)) {i j : Nat} (hi : i < L.length) (hj : j < L.length) (e : L[i].b = L[j].b) : i = j := by
  rcases Nat.lt_trichotomy i j with hlt | rfl | hlt
  · have := List.pairwise_iff_getElem.1 h i j hi hj hlt
    omega
  · rfl
  · have := List.pairwise_iff_getElem.1 h j i hj hi hlt
    omega
theorem setE_b (x : Int) {f : CE → CE} (hf : ∀ e, (f e).b = e.b) : (setE L x f).map CE.b = L.map CE.b := by
  unfold setE
  rw [List.map_map]
  refine List.map_congr_left fun e _ => ?_
  simp only [Function.comp]
  split
  · exact hf e
  · rfl
theorem setE_len (x : Int) (f : CE → CE) : (setE L x f).length = L.length := by simp [setE]
/-- One element is set. -/
theorem setE_at (h : L.Pairwise (fun x y => x.b < y.b)) {f : CE → CE} {i : Nat} (hi : i < L.length) : setE L (L[i].b : Int) f = L.set i (f L[i]) := by
  unfold setE
  refine List.ext_getElem (by simp) fun j hj hj2 => ?_
  have hj' : j < L.length := by simpa using hj
  rw [List.getElem_map, List.getElem_set]
  by_cases e : i = j
  · subst e
    simp
  · rw [if_neg e, if_neg (fun e2 => e (asc_inj h hi hj' (by omega)))]
theorem asc_of_b {L' : List CE} (h : L.Pairwise (fun x y => x.b < y.b)) (e : L'.map CE.b = L.map CE.b) : L'.Pairwise (fun x y => x.b < y.b) := by
  have h1 : (L.map CE.b).Pairwise (· < ·) := List.pairwise_map.2 h
  rw [← e] at h1
  exact List.pairwise_map.1 h1
theorem mem_of_b {L' : List CE} (e : L'.map CE.b = L.map CE.b) (x : Nat) : (∃ y ∈ L', y.b = x) ↔ ∃ y ∈ L, y.b = x := by
  have h1 : ∀ (M : List CE), (∃ y ∈ M, y.b = x) ↔ x ∈ M.map CE.b := fun M => by simp
  rw [h1, h1, e]
theorem dropE_mem {x : Int} {e : CE} : e ∈ dropE L x ↔ e ∈ L ∧ (e.b : Int) ≠ x := by simp [dropE]
/-- One element is out. -/
theorem dropE_at (h : L.Pairwise (fun x y => x.b < y.b)) {i : Nat} (hi : i < L.length) : dropE L (L[i].b : Int) = L.take i ++ L.drop (i + 1) := by
  have e : L = L.take i ++ L[i] :: L.drop (i + 1) := by rw [List.getElem_cons_drop, List.take_append_drop]
  obtain ⟨y, hy⟩ : ∃ y, L[i] = y := ⟨_, rfl⟩
  rw [hy] at e ⊢
  have h2 := h
  rw [e, List.pairwise_append, List.pairwise_cons] at h2
  conv => lhs; rw [e]
  unfold dropE
  rw [List.filter_append, List.filter_cons_of_neg (by simp)]
  congr 1
  · refine List.filter_eq_self.2 fun z hz => ?_
    have := h2.2.2 z hz y (by simp)
    simp
    omega
  · refine List.filter_eq_self.2 fun z hz => ?_
    have := h2.2.1.1 z hz
    simp
    omega
theorem insE_mem {y e : CE} : e ∈ insE L y ↔ e = y ∨ e ∈ L := by
  induction L with
  | nil => simp [insE]
  | cons z L ih =>
    unfold insE
    split
    · simp only [List.mem_cons, ih]
      constructor
      · rintro (h | h | h) <;> simp [h]
      · rintro (h | h | h) <;> simp [h]
    · simp
theorem insE_len {y : CE} : (insE L y).length = L.length + 1 := by
  induction L with
  | nil => rfl
  | cons z L ih =>
    unfold insE
    split
    · simp [ih]
    · simp
theorem insE_asc {y : CE} (h : L.Pairwise (fun x y => x.b < y.b)) (hn : ∀ e ∈ L, e.b ≠ y.b) : (insE L y).Pairwise (fun x y => x.b < y.b) := by
  induction L with
  | nil => simp [insE]
  | cons z L ih =>
    have h2 := List.pairwise_cons.1 h
    unfold insE
    split
    · refine List.pairwise_cons.2 ⟨fun e he => ?_, ih h2.2 (fun e he => hn e (by simp [he]))⟩
      rcases insE_mem.1 he with rfl | he
      · assumption
      · exact h2.1 e he
    · have := hn z (by simp)
      refine List.pairwise_cons.2 ⟨fun e he => ?_, h⟩
      rcases List.mem_cons.1 he with rfl | he
      · omega
      · have := h2.1 e he
        omega
/-- Where it is laid. -/
theorem insE_split {y : CE} : ∀ {L : List CE} {i : Nat}, i ≤ L.length → (∀ j (hj : j < i) (hl : j < L.length), L[j].b < y.b) → (∀ h : i < L.length, ¬ L[i].b < y.b) → insE L y = L.take i ++ y :: L.drop i
  | [], 0, _, _, _ => rfl
  | z :: L, 0, _, _, h => by
    have h0 : ¬ z.b < y.b := h (by simp)
    unfold insE
    rw [if_neg h0]
    rfl
  | z :: L, i + 1, hi, h1, h2 => by
    have h0 : z.b < y.b := h1 0 (by omega) (by simp)
    unfold insE
    rw [if_pos h0, insE_split (L := L) (i := i) (by simpa using hi) (fun j hj hl => h1 (j + 1) (by omega) (by simpa using hl)) (fun h => h2 (by simpa using h))]
    rfl
end
/-- A ranking by other names. -/
def RkS.map (S : RkS) (σ : Nat → Nat) : RkS := ⟨S.T.map σ, S.K.map σ, S.n⟩
theorem butL_map {σ : Nat → Nat} {l : List Nat} {x : Nat} (h : ∀ y ∈ l, σ y = σ x → y = x) : butL (l.map σ) (σ x) = (butL l x).map σ := by
  induction l with
  | nil => rfl
  | cons y l ih =>
    have ih := ih (fun z hz => h z (by simp [hz]))
    unfold butL at ih ⊢
    rw [List.map_cons, List.filter_cons, List.filter_cons]
    by_cases e : y = x
    · subst e
      simpa using ih
    · have : σ y ≠ σ x := fun e2 => e (h y (by simp) e2)
      simp [e, this, ih]
theorem getLast_map {σ : Nat → Nat} (l : List Nat) : (l.map σ).getLast? = l.getLast?.map σ := by simp
theorem RkS.map_demo (S : RkS) (σ : Nat → Nat) : (S.map σ).demo = S.demo.map σ := by
  unfold RkS.demo RkS.map
  simp only [List.length_map]
  split
  · simp only [getLast_map, List.map_append, List.map_dropLast]
    cases S.K.getLast? <;> simp
  · rfl
theorem RkS.map_has {S : RkS} {σ : Nat → Nat} {x : Nat} (h : ∀ y ∈ S.T ++ S.K, σ y = σ x → y = x) : (S.map σ).has (σ x : Int) = S.has (x : Int) := by
  have hm : ∀ l : List Nat, (∀ y ∈ l, σ y = σ x → y = x) → decide (σ x ∈ l.map σ) = decide (x ∈ l) := fun l hl => by
    rw [decide_eq_decide, List.mem_map]
    exact ⟨fun ⟨y, hy, e⟩ => hl y hy e ▸ hy, fun hx => ⟨x, hx, rfl⟩⟩
  unfold RkS.has RkS.map
  rw [hasL_nat, hasL_nat, hasL_nat, hasL_nat, hm _ (fun y hy => h y (by simp [hy])), hm _ (fun y hy => h y (by simp [hy]))]
theorem RkS.map_touS {S : RkS} {σ : Nat → Nat} {x : Nat} (h : ∀ y ∈ S.T ++ S.K, σ y = σ x → y = x) : (S.map σ).touS (σ x : Int) = (S.touS (x : Int)).map σ := by
  unfold RkS.touS
  rw [RkS.map_has h]
  split
  · rw [← RkS.map_demo]
    unfold RkS.map
    simp only [Int.toNat_natCast, List.map_cons]
    rw [butL_map (fun y hy => h y (by simp [hy])), butL_map (fun y hy => h y (by simp [hy]))]
  · rfl
theorem RkS.map_remS {S : RkS} {σ : Nat → Nat} {x : Nat} (h : ∀ y ∈ S.T ++ S.K, σ y = σ x → y = x) : (S.map σ).remS (σ x : Int) = (S.remS (x : Int)).map σ := by
  unfold RkS.remS
  rw [RkS.map_has h]
  split
  · unfold RkS.map
    simp only [Int.toNat_natCast]
    rw [butL_map (fun y hy => h y (by simp [hy])), butL_map (fun y hy => h y (by simp [hy]))]
  · rfl
theorem RkS.map_vic (S : RkS) (σ : Nat → Nat) : (S.map σ).vic = S.vic.map σ := by
  unfold RkS.vic RkS.map
  rw [getLast_map, getLast_map]
  cases S.T.getLast? <;> simp
theorem RkS.touS_mem {S : RkS} {x : Nat} (hx : x ∈ S.T ++ S.K) (y : Nat) : y ∈ (S.touS (x : Int)).T ++ (S.touS (x : Int)).K ↔ y ∈ S.T ++ S.K := by
  have hd : ∀ R : RkS, y ∈ R.demo.T ++ R.demo.K ↔ y ∈ R.T ++ R.K := fun R => by
    unfold RkS.demo
    split
    · rcases List.eq_nil_or_concat R.K with e | ⟨l, z, e⟩
      · simp [e]
      · rw [e]
        simp only [List.concat_eq_append, List.getLast?_append, List.getLast?_singleton, Option.some_or, Option.toList_some, List.dropLast_concat, List.mem_append, List.mem_singleton]
        constructor
        · rintro ((h | h) | h) <;> simp [h]
        · rintro (h | h | h) <;> simp [h]
    · rfl
  unfold RkS.touS
  rw [if_pos (RkS.has_of_mem hx), hd]
  simp only [Int.toNat_natCast, List.mem_append, List.mem_cons, mem_but]
  rw [List.mem_append] at hx
  by_cases e : y = x
  · subst e
    simp [hx]
  · simp [e]
namespace CaS
def rk (S : CaS) : RkS := ⟨S.T, S.K, S.n⟩
def has (S : CaS) (x : Int) : Bool := (atE S.E x).isSome
def addr (S : CaS) (x : Int) : Nat := ((atE S.E x).map CE.a).getD 0
def setR (S : CaS) (R : RkS) : CaS := { S with T := R.T, K := R.K }
/-- It is used. -/
def useS (S : CaS) (x : Int) : CaS := if S.has x = true then S.setR (S.rk.touS x) else S
def moveS (S : CaS) (x : Int) (a : Nat) : CaS := { S with E := setE S.E x (fun e => { e with a := a }) }
def putB (S : CaS) (x : Int) : Bool := S.has x || (decide (0 ≤ x) && decide (x ≤ 63) && decide (S.E.length < S.n))
def putS (S : CaS) (x : Int) (a : Nat) (d : Bool) : CaS :=
  if S.has x = true then ({ S with E := setE S.E x (fun e => { e with a := a, d := e.d || d }) } : CaS).useS x
  else if S.putB x = true then { S with E := insE S.E ⟨x.toNat, a, d⟩, T := x.toNat :: S.T } else S
def dropS (S : CaS) (x : Int) : CaS := if S.has x = true then ({ S with E := dropE S.E x } : CaS).setR (S.rk.remS x) else S
def vicE (S : CaS) : Option CE := S.rk.vic.bind (fun b => atE S.E (b : Int))
def isD (t : Int) (e : CE) : Bool := e.d && decide (((e.b / 4 : Nat) : Int) = t)
def dirtyL (S : CaS) (t : Int) : List CE := S.E.filter (isD t)
def cleanS (S : CaS) (t : Int) : CaS := { S with E := S.E.map (fun e => if isD t e = true then { e with d := false } else e) }
def tabL (S : CaS) : List Nat := (List.range 16).filter (fun t => decide (0 < (S.dirtyL (t : Int)).length))
variable {S : CaS}
theorem has_mem {x : Int} (h : S.has x = true) : ∃ e ∈ S.E, (e.b : Int) = x := by
  obtain ⟨e, he⟩ := Option.isSome_iff_exists.1 h
  exact ⟨e, atE_some he⟩
theorem has_no {x : Int} (h : S.has x = false) : ∀ e ∈ S.E, (e.b : Int) ≠ x := atE_none (by simpa [has] using h)
theorem mem_has {x : Int} {e : CE} (he : e ∈ S.E) (hx : (e.b : Int) = x) : S.has x = true := by
  cases h : S.has x with
  | true => rfl
  | false => exact absurd hx (has_no h e he)
theorem tk_of_has (hw : S.WF) {x : Int} (h : S.has x = true) : ∃ b : Nat, x = (b : Int) ∧ b ∈ S.T ++ S.K ∧ b < 64 := by
  obtain ⟨e, he, rfl⟩ := has_mem h
  exact ⟨e.b, rfl, (hw.mem e.b).2 ⟨e, he, rfl⟩, hw.b64 e he⟩
theorem use_wf (hw : S.WF) (x : Int) : (S.useS x).WF := by
  unfold useS
  split
  · rename_i h
    obtain ⟨b, rfl, hb, _⟩ := tk_of_has hw h
    have hm := RkS.touS_mem (S := S.rk) hb
    have hnd : ((S.rk.touS (b : Int)).T ++ (S.rk.touS (b : Int)).K).Nodup := by
      have : (⟨S.T, S.K, 64⟩ : RkS).WF := ⟨hw.nd, fun s hs => by obtain ⟨e, he, rfl⟩ := (hw.mem s).1 hs; exact hw.b64 e he, by show 1 ≤ 64; omega, by show 64 ≤ 64; omega⟩
      have h2 : (RkS.mk (butL S.T b) (b :: butL S.K b) 64).WF := RkS.touch_mid this hb
      unfold RkS.touS
      rw [if_pos (RkS.has_of_mem hb)]
      simp only [Int.toNat_natCast]
      have h3 := h2.nd
      have hd : ∀ R : RkS, (R.T ++ R.K).Nodup → (R.demo.T ++ R.demo.K).Nodup := fun R hR => by
        unfold RkS.demo
        split
        · rcases List.eq_nil_or_concat R.K with e | ⟨l, z, e⟩
          · simpa [e] using hR
          · rw [e] at hR ⊢
            simp only [List.concat_eq_append, List.getLast?_append, List.getLast?_singleton, Option.some_or, Option.toList_some, List.dropLast_concat]
            have hp : ([z] ++ R.T ++ l).Perm (R.T ++ l.concat z) := by
              rw [List.concat_eq_append, ← List.append_assoc, List.append_assoc]
              exact List.perm_append_comm
            exact hp.symm.nodup hR
        · exact hR
      exact hd _ h3
    exact ⟨hw.asc, hw.b64, hnd, fun y => (hm y).trans (hw.mem y), hw.le, hw.n1, hw.n64⟩
  · exact hw
theorem set_wf (hw : S.WF) {L : List CE} (hb : L.map CE.b = S.E.map CE.b) : ({ S with E := L } : CaS).WF := by
  have hl : L.length = S.E.length := by simpa using congrArg List.length hb
  refine ⟨asc_of_b hw.asc hb, fun e he => ?_, hw.nd, fun x => (hw.mem x).trans (mem_of_b hb x).symm, by show L.length ≤ S.n; rw [hl]; exact hw.le, hw.n1, hw.n64⟩
  have : e.b ∈ S.E.map CE.b := by rw [← hb]; exact List.mem_map_of_mem he
  obtain ⟨e2, he2, e3⟩ := List.mem_map.1 this
  rw [← e3]
  exact hw.b64 e2 he2
theorem move_wf (hw : S.WF) (x : Int) (a : Nat) : (S.moveS x a).WF := set_wf hw (setE_b x (fun _ => rfl))
theorem clean_wf (hw : S.WF) (t : Int) : (S.cleanS t).WF := set_wf hw (by
  rw [List.map_map]
  refine List.map_congr_left fun e _ => ?_
  simp only [Function.comp]
  split <;> rfl)
theorem drop_wf (hw : S.WF) (x : Int) : (S.dropS x).WF := by
  unfold dropS
  split
  · rename_i h
    obtain ⟨b, rfl, hb, _⟩ := tk_of_has hw h
    have hR : S.rk.remS (b : Int) = ⟨butL S.T b, butL S.K b, S.n⟩ := by
      unfold RkS.remS
      rw [if_pos (RkS.has_of_mem (S := S.rk) hb)]
      rfl
    rw [hR]
    have hbut : butL S.T b ++ butL S.K b = butL (S.T ++ S.K) b := (List.filter_append ..).symm
    refine ⟨hw.asc.filter _, fun e he => hw.b64 e (dropE_mem.1 he).1, ?_, fun y => ?_, Nat.le_trans (List.length_filter_le _ _) hw.le, hw.n1, hw.n64⟩
    · show (butL S.T b ++ butL S.K b).Nodup
      rw [hbut]
      exact but_nd hw.nd _
    · show y ∈ butL S.T b ++ butL S.K b ↔ _
      rw [hbut, mem_but, hw.mem y]
      constructor
      · rintro ⟨⟨e, he, rfl⟩, hne⟩
        exact ⟨e, dropE_mem.2 ⟨he, fun e2 => hne (by omega)⟩, rfl⟩
      · rintro ⟨e, he, rfl⟩
        have := dropE_mem.1 he
        exact ⟨⟨e, this.1, rfl⟩, fun e2 => this.2 (by omega)⟩
  · exact hw
theorem put_wf (hw : S.WF) (x : Int) (a : Nat) (d : Bool) : (S.putS x a d).WF := by
  unfold putS
  split
  · exact use_wf (set_wf hw (setE_b x (f := fun e => { e with a := a, d := e.d || d }) (fun _ => rfl))) x
  · rename_i hno
    have hno : S.has x = false := by simpa using hno
    split
    · rename_i hp
      unfold putB at hp
      rw [hno] at hp
      simp only [Bool.false_or, Bool.and_eq_true, decide_eq_true_eq] at hp
      obtain ⟨⟨h0, h1⟩, h2⟩ := hp
      obtain ⟨b, rfl⟩ := Int.eq_ofNat_of_zero_le h0
      have hne : ∀ e ∈ S.E, e.b ≠ b := fun e he e2 => has_no hno e he (by omega)
      refine ⟨insE_asc hw.asc (by simpa using hne), fun e he => ?_, ?_, fun y => ?_, by show (insE S.E _).length ≤ S.n; rw [insE_len]; omega, hw.n1, hw.n64⟩
      · rcases insE_mem.1 he with rfl | he
        · simp
          omega
        · exact hw.b64 e he
      · show (b :: S.T ++ S.K).Nodup
        exact List.nodup_cons.2 ⟨fun hb => by obtain ⟨e, he, e2⟩ := (hw.mem b).1 hb; exact hne e he e2, hw.nd⟩
      · show y ∈ b :: S.T ++ S.K ↔ _
        rw [List.cons_append, List.mem_cons, hw.mem y]
        constructor
        · rintro (rfl | ⟨e, he, rfl⟩)
          · exact ⟨_, insE_mem.2 (.inl rfl), by simp⟩
          · exact ⟨e, insE_mem.2 (.inr he), rfl⟩
        · rintro ⟨e, he, rfl⟩
          rcases insE_mem.1 he with rfl | he
          · exact .inl (by simp)
          · exact .inr ⟨e, he, rfl⟩
    · exact hw
end CaS
end Go.Proofs.YtajccmkdfmpapaaGreatDoor
