/-
  Rows as links in a circle; a ranking of slots. Plain mathematics.
-/
namespace Go.Proofs.YtajccmkdfmpapaaGreatDoor

/-- A row's links: ahead, behind, whether a slot stands there. -/
structure RowS where
  ah : Nat → Nat
  be : Nat → Nat
  st : Nat → Bool
def upd {α : Type} (f : Nat → α) (k : Nat) (v : α) : Nat → α := fun i => if i = k then v else f i
theorem upd_same {α : Type} {f : Nat → α} {k : Nat} {v : α} : upd f k v k = v := by simp [upd]
theorem upd_ne {α : Type} {f : Nat → α} {k i : Nat} {v : α} (h : i ≠ k) : upd f k v i = f i := by simp [upd, h]

/-- Each one of a list, and the next one, are linked. -/
def Lk (ah be : Nat → Nat) : List Nat → Prop
  | a :: b :: r => (be a = b ∧ ah b = a) ∧ Lk ah be (b :: r)
  | _ => True
theorem Lk.congr {ah be ah' be' : Nat → Nat} : ∀ {l : List Nat}, Lk ah be l → (∀ k ∈ l.dropLast, be' k = be k) → (∀ k ∈ l.tail, ah' k = ah k) → Lk ah' be' l
  | [], _, _, _ => trivial
  | [_], _, _, _ => trivial
  | a :: b :: r, h, h1, h2 => by
    refine ⟨⟨(h1 a (by simp)).trans h.1.1, (h2 b (by simp)).trans h.1.2⟩, Lk.congr h.2 (fun k hk => h1 k ?_) (fun k hk => h2 k ?_)⟩
    · rw [List.dropLast_cons_of_ne_nil (by simp)]
      exact List.mem_cons_of_mem _ hk
    · simp only [List.tail_cons] at hk ⊢
      exact List.mem_cons_of_mem _ hk
theorem Lk.parts {ah be : Nat → Nat} {x : Nat} {B : List Nat} : ∀ {A : List Nat}, Lk ah be (A ++ x :: B) ↔ Lk ah be (A ++ [x]) ∧ Lk ah be (x :: B)
  | [] => by simp [Lk]
  | [a] => by simp [Lk]
  | a :: b :: A => by
    have := Lk.parts (ah := ah) (be := be) (x := x) (B := B) (A := b :: A)
    simp only [List.cons_append, Lk] at this ⊢
    rw [this]
    constructor
    · rintro ⟨h1, h2, h3⟩
      exact ⟨⟨h1, h2⟩, h3⟩
    · rintro ⟨⟨h1, h2⟩, h3⟩
      exact ⟨h1, h2, h3⟩
theorem Lk.at {ah be : Nat → Nat} : ∀ {c : List Nat} {i a b : Nat}, Lk ah be c → c[i]? = some a → c[i + 1]? = some b → be a = b ∧ ah b = a
  | [], _, _, _, _, h, _ => by simp at h
  | [_], i, _, _, _, _, h => by simp at h
  | x :: y :: r, 0, a, b, h, ha, hb => by
    simp at ha hb
    subst ha hb
    exact h.1
  | x :: y :: r, i + 1, a, b, h, ha, hb => Lk.at (c := y :: r) (i := i) h.2 (by simpa using ha) (by simpa using hb)

/-- The links' numbers of slots, between the end and the end. -/
def ring (l : List Nat) : List Nat := 0 :: (l.map (· + 1) ++ [0])
/-- Without a number. -/
def butL (l : List Nat) (x : Nat) : List Nat := l.filter (fun s => s != x)
theorem mem_but {l : List Nat} {x y : Nat} : y ∈ butL l x ↔ y ∈ l ∧ y ≠ x := by simp [butL]
theorem but_nd {l : List Nat} (h : l.Nodup) (x : Nat) : (butL l x).Nodup := h.filter _
theorem but_not {l : List Nat} {x : Nat} (h : x ∉ l) : butL l x = l := List.filter_eq_self.2 fun a ha => by
  simp
  rintro rfl
  exact h ha
theorem but_mid {P Q : List Nat} {x : Nat} (h : (P ++ x :: Q).Nodup) : butL (P ++ x :: Q) x = P ++ Q := by
  have h1 := List.nodup_append.1 h
  have hp : x ∉ P := fun e => h1.2.2 x e x (by simp) rfl
  have hq : x ∉ Q := (List.nodup_cons.1 h1.2.1).1
  unfold butL
  rw [List.filter_append, List.filter_cons]
  simp only [bne_self_eq_false, Bool.false_eq_true, if_false]
  exact congr (congrArg _ (but_not hp)) (but_not hq)
theorem but_len {l : List Nat} {x : Nat} (h : l.Nodup) (hx : x ∈ l) : (butL l x).length + 1 = l.length := by
  obtain ⟨P, Q, rfl⟩ := List.append_of_mem hx
  rw [but_mid h]
  simp
  omega
theorem nd_len : ∀ (n : Nat) (l : List Nat), l.Nodup → (∀ s ∈ l, s < n) → l.length ≤ n
  | 0, l, _, h => by
    cases l with
    | nil => simp
    | cons a _ => exact absurd (h a (by simp)) (by omega)
  | n + 1, l, hn, h => by
    have := nd_len n (butL l n) (but_nd hn n) (fun s hs => by
      obtain ⟨h1, h2⟩ := mem_but.1 hs
      have := h s h1
      omega)
    by_cases hx : n ∈ l
    · have := but_len hn hx
      omega
    · rw [but_not hx] at this
      omega

/-- The links A are those of the row l. -/
structure RW (A : RowS) (l : List Nat) : Prop where
  lk : Lk A.ah A.be (ring l)
  st : ∀ s, s < 64 → A.st (s + 1) = decide (s ∈ l)
  nd : l.Nodup
  lt : ∀ s ∈ l, s < 64
theorem RW.len {A : RowS} {l : List Nat} (h : RW A l) : l.length ≤ 64 := nd_len 64 l h.nd h.lt
/-- The number of link number j behind the end. -/
def nx (l : List Nat) (j : Nat) : Nat := if h : j < l.length then l[j] + 1 else 0
theorem nx_le {l : List Nat} (h : ∀ s ∈ l, s < 64) (j : Nat) : nx l j ≤ 64 := by
  unfold nx
  split
  · rename_i hj
    exact h _ (List.getElem_mem hj)
  · omega
theorem nx_lt {l : List Nat} {j : Nat} (h : j < l.length) : nx l j = l[j] + 1 := by simp [nx, h]
theorem nx_ge {l : List Nat} {j : Nat} (h : l.length ≤ j) : nx l j = 0 := by simp [nx, Nat.not_lt.2 h]
theorem ring_at (l : List Nat) (j : Nat) (h : j ≤ l.length) : (ring l)[j + 1]? = some (nx l j) := by
  unfold ring
  rw [List.getElem?_cons_succ]
  by_cases hj : j < l.length
  · rw [List.getElem?_append_left (by simpa using hj), nx_lt hj]
    simp [hj]
  · have : j = l.length := by omega
    subst this
    rw [List.getElem?_append_right (by simp), nx_ge (Nat.le_refl _)]
    simp
theorem RW.be0 {A : RowS} {l : List Nat} (h : RW A l) : A.be 0 = nx l 0 ∧ A.ah (nx l 0) = 0 := h.lk.at (i := 0) rfl (ring_at l 0 (by omega))
theorem RW.beS {A : RowS} {l : List Nat} (h : RW A l) (j : Nat) (hj : j < l.length) : A.be (l[j] + 1) = nx l (j + 1) ∧ A.ah (nx l (j + 1)) = l[j] + 1 := by
  refine h.lk.at (i := j + 1) ?_ (ring_at l (j + 1) (by omega))
  rw [ring_at l j (by omega), nx_lt hj]
theorem RW.last {A : RowS} {l : List Nat} {s : Nat} (h : RW A l) (hl : l.getLast? = some s) : A.ah 0 = s + 1 := by
  have hne : l ≠ [] := by rintro rfl; simp at hl
  have hp : 0 < l.length := List.length_pos_iff.2 hne
  have := (h.beS (l.length - 1) (by omega)).2
  rw [nx_ge (by omega)] at this
  rw [this]
  rw [List.getLast?_eq_getElem?, List.getElem?_eq_getElem (by omega)] at hl
  rw [Option.some.inj hl]
theorem RW.ah_le {A : RowS} {l : List Nat} {s : Nat} (h : RW A l) (hs : s ∈ l) : A.ah (s + 1) ≤ 64 ∧ A.be (s + 1) ≤ 64 := by
  obtain ⟨i, hi, rfl⟩ := List.getElem_of_mem hs
  refine ⟨?_, by rw [(h.beS i hi).1]; exact nx_le h.lt _⟩
  cases i with
  | zero =>
    have := h.be0.2
    rw [nx_lt hi] at this
    omega
  | succ i =>
    have := (h.beS i (by omega)).2
    rw [nx_lt hi] at this
    have := h.lt l[i] (List.getElem_mem _)
    omega

/-- A slot that stands nowhere leads the row. -/
def leadS (A : RowS) (s : Nat) : RowS :=
  { ah := upd (upd A.ah (s + 1) 0) (A.be 0) (s + 1), be := upd (upd A.be (s + 1) (A.be 0)) 0 (s + 1), st := upd A.st (s + 1) true }
theorem RW.lead {A : RowS} {l : List Nat} (h : RW A l) (s : Nat) (hs : s < 64) (hn : s ∉ l) : RW (leadS A s) (s :: l) := by
  refine ⟨?_, fun t ht => ?_, List.nodup_cons.2 ⟨hn, h.nd⟩, fun t ht => ?_⟩
  · obtain ⟨y, t, e⟩ : ∃ y t, l.map (· + 1) ++ [0] = y :: t := by
      cases l with
      | nil => exact ⟨_, _, rfl⟩
      | cons a r => exact ⟨_, _, rfl⟩
    have hm : s + 1 ∉ l.map (· + 1) := by simpa using hn
    have h0 : 0 ∉ l.map (· + 1) := by simp
    have hL := h.lk
    unfold ring at hL
    rw [e] at hL
    have ey : A.be 0 = y := hL.1.1
    have hy : y ≠ s + 1 := by
      have : y ∈ l.map (· + 1) ++ [0] := by rw [e]; simp
      rintro rfl
      simp at this
      exact hn this
    have hd : (y :: t).dropLast = l.map (· + 1) := by rw [← e]; simp
    have ht : ∀ k ∈ t, k ≠ s + 1 ∧ k ≠ y := fun k hk => by
      have hkm : k ∈ l.map (· + 1) ++ [0] := by rw [e]; simp [hk]
      refine ⟨fun e2 => by subst e2; simp at hkm; exact hn hkm, fun e2 => ?_⟩
      subst e2
      cases l with
      | nil =>
        simp at e
        rw [e.2] at hk
        cases hk
      | cons a r =>
        simp at e
        obtain ⟨rfl, rfl⟩ := e
        have := (List.nodup_cons.1 h.nd).1
        simp at hk
        exact this hk
    show Lk _ _ (0 :: (s + 1) :: (l.map (· + 1) ++ [0]))
    rw [e]
    unfold leadS
    simp only [ey]
    refine ⟨⟨upd_same, ?_⟩, ⟨?_, upd_same⟩, Lk.congr hL.2 (fun k hk => ?_) (fun k hk => ?_)⟩
    · rw [upd_ne (Ne.symm hy), upd_same]
    · rw [upd_ne (by omega), upd_same]
    · rw [hd] at hk
      rw [upd_ne (by rintro rfl; exact h0 hk), upd_ne (by rintro rfl; exact hm hk)]
    · rw [upd_ne (ht k hk).2, upd_ne (ht k hk).1]
  · show upd A.st (s + 1) true (t + 1) = _
    by_cases e : t = s
    · subst e
      rw [upd_same]
      simp
    · rw [upd_ne (by omega), h.st t ht]
      simp [e]
  · rcases List.mem_cons.1 ht with rfl | ht
    · exact hs
    · exact h.lt t ht
/-- A slot that stands there leaves the row. -/
def leaveS (A : RowS) (s : Nat) : RowS :=
  { ah := upd (upd A.ah (A.be (s + 1)) (A.ah (s + 1))) (s + 1) 0, be := upd (upd A.be (A.ah (s + 1)) (A.be (s + 1))) (s + 1) 0, st := upd A.st (s + 1) false }
theorem RW.leave {A : RowS} {l : List Nat} (h : RW A l) {s : Nat} (hs : s ∈ l) : RW (leaveS A s) (butL l s) := by
  refine ⟨?_, fun t ht => ?_, but_nd h.nd s, fun t ht => h.lt t (mem_but.1 ht).1⟩
  · obtain ⟨P, Q, rfl⟩ := List.append_of_mem hs
    rw [but_mid h.nd]
    have hnd := List.nodup_append.1 h.nd
    have hsP : s ∉ P := fun e => hnd.2.2 s e s (by simp) rfl
    have hsQ : s ∉ Q := (List.nodup_cons.1 hnd.2.1).1
    have hPQ : ∀ a ∈ P, a ∉ Q := fun a ha hb => hnd.2.2 a ha a (by simp [hb]) rfl
    have hPn := hnd.1
    have hQn := (List.nodup_cons.1 hnd.2.1).2
    have hk := h.lk
    have hr : ring (P ++ s :: Q) = (0 :: P.map (· + 1)) ++ (s + 1) :: (Q.map (· + 1) ++ [0]) := by simp [ring]
    rw [hr] at hk
    obtain ⟨k1, k2⟩ := Lk.parts.1 hk
    obtain ⟨P', a, ea⟩ : ∃ P' a, 0 :: P.map (· + 1) = P' ++ [a] := ⟨_, _, (List.dropLast_concat_getLast (by simp)).symm⟩
    obtain ⟨b, Q', eb⟩ : ∃ b Q', Q.map (· + 1) ++ [0] = b :: Q' := by
      cases Q with
      | nil => exact ⟨_, _, rfl⟩
      | cons a r => exact ⟨_, _, rfl⟩
    rw [ea, List.append_assoc] at k1
    rw [eb] at k2
    obtain ⟨k3, k4⟩ := (Lk.parts (A := P') (x := a) (B := [s + 1])).1 k1
    have eba : A.be a = s + 1 := k4.1.1
    have eas : A.ah (s + 1) = a := k4.1.2
    have ebs : A.be (s + 1) = b := k2.1.1
    have ma : ∀ k ∈ P' ++ [a], k = 0 ∨ ∃ p ∈ P, k = p + 1 := fun k hk => by
      rw [← ea] at hk
      simp at hk
      rcases hk with rfl | ⟨p, hp, rfl⟩
      · exact .inl rfl
      · exact .inr ⟨p, hp, rfl⟩
    have mb : ∀ k ∈ b :: Q', k = 0 ∨ ∃ p ∈ Q, k = p + 1 := fun k hk => by
      rw [← eb] at hk
      simp at hk
      rcases hk with ⟨p, hp, rfl⟩ | rfl
      · exact .inr ⟨p, hp, rfl⟩
      · exact .inl rfl
    have na : (P' ++ [a]).Nodup := by
      rw [← ea]
      refine List.nodup_cons.2 ⟨by simp, ?_⟩
      rw [List.nodup_iff_pairwise_ne, List.pairwise_map]
      exact (List.nodup_iff_pairwise_ne.1 hPn).imp (fun h e => h (by omega))
    have nb : (b :: Q').Nodup := by
      rw [← eb]
      refine List.nodup_append.2 ⟨?_, by simp, fun x hx y hy => ?_⟩
      · rw [List.nodup_iff_pairwise_ne, List.pairwise_map]
        exact (List.nodup_iff_pairwise_ne.1 hQn).imp (fun h e => h (by omega))
      · simp at hx hy
        obtain ⟨p, _, rfl⟩ := hx
        omega
    have as : a ≠ s + 1 := by
      rcases ma a (by simp) with e | ⟨p, hp, e⟩
      · omega
      · intro e2
        have : p = s := by omega
        subst this
        exact hsP hp
    have bs : b ≠ s + 1 := by
      rcases mb b (by simp) with e | ⟨p, hp, e⟩
      · omega
      · intro e2
        have : p = s := by omega
        subst this
        exact hsQ hp
    have hnew : ring (P ++ Q) = P' ++ a :: (b :: Q') := by
      rw [← eb]
      have : ring (P ++ Q) = (0 :: P.map (· + 1)) ++ (Q.map (· + 1) ++ [0]) := by simp [ring]
      rw [this, ea]
      simp
    rw [hnew]
    unfold leaveS
    simp only [eas, ebs]
    refine Lk.parts.2 ⟨Lk.congr k3 (fun k hk => ?_) (fun k hk => ?_), ⟨?_, ?_⟩, Lk.congr k2.2 (fun k hk => ?_) (fun k hk => ?_)⟩
    · simp at hk
      have hka : k ≠ a := by
        rintro rfl
        exact (List.nodup_append.1 na).2.2 k hk k (by simp) rfl
      have hks : k ≠ s + 1 := by
        rcases ma k (by simp [hk]) with e | ⟨p, hp, e⟩
        · omega
        · intro e2
          have : p = s := by omega
          subst this
          exact hsP hp
      rw [upd_ne hks, upd_ne hka]
    · rw [← ea] at hk
      simp at hk
      obtain ⟨p, hp, rfl⟩ := hk
      have h1 : p + 1 ≠ s + 1 := fun e => by
        have : p = s := by omega
        subst this
        exact hsP hp
      have h2 : p + 1 ≠ b := fun e => by
        rcases mb b (by simp) with e2 | ⟨q, hq, e2⟩
        · omega
        · have : p = q := by omega
          subst this
          exact hPQ p hp hq
      rw [upd_ne h1, upd_ne h2]
    · rw [upd_ne as, upd_same]
    · rw [upd_ne bs, upd_same]
    · rw [← eb] at hk
      simp at hk
      obtain ⟨p, hp, rfl⟩ := hk
      have h1 : p + 1 ≠ s + 1 := fun e => by
        have : p = s := by omega
        subst this
        exact hsQ hp
      have h2 : p + 1 ≠ a := fun e => by
        rcases ma a (by simp) with e2 | ⟨q, hq, e2⟩
        · omega
        · have : p = q := by omega
          subst this
          exact hPQ p hq hp
      rw [upd_ne h1, upd_ne h2]
    · have h1 : k ≠ s + 1 := by
        rcases mb k (by simp at hk; simp [hk]) with e | ⟨p, hp, e⟩
        · omega
        · intro e2
          have : p = s := by omega
          subst this
          exact hsQ hp
      have h2 : k ≠ b := by
        rintro rfl
        exact (List.nodup_cons.1 nb).1 hk
      rw [upd_ne h1, upd_ne h2]
  · show upd A.st (s + 1) false (t + 1) = _
    by_cases e : t = s
    · subst e
      rw [upd_same]
      simp [mem_but]
    · rw [upd_ne (by omega), h.st t ht]
      simp [mem_but, e]

/-- Does a number stand in a row? -/
def hasL (l : List Nat) (x : Int) : Bool := decide (0 ≤ x) && decide (x.toNat ∈ l)
theorem hasL_nat (l : List Nat) (s : Nat) : hasL l (s : Int) = decide (s ∈ l) := by simp [hasL]
theorem hasL_some {l : List Nat} {x : Int} (h : hasL l x = true) : ∃ s : Nat, x = (s : Int) ∧ s ∈ l := by
  simp [hasL] at h
  exact ⟨x.toNat, by omega, h.2⟩
/-- The row behind a number's leaving. -/
def lvL (l : List Nat) (x : Int) : List Nat := if hasL l x = true then butL l x.toNat else l
theorem RW.has {A : RowS} {l : List Nat} (h : RW A l) {x : Int} (h0 : 0 ≤ x) (h1 : x < 64) : A.st (x.toNat + 1) = hasL l x := by
  rw [h.st _ (by omega)]
  simp [hasL, h0]
theorem RW.has_far {A : RowS} {l : List Nat} (h : RW A l) {x : Int} (h0 : ¬ (0 ≤ x ∧ x < 64)) : hasL l x = false := by
  cases e : hasL l x with
  | false => rfl
  | true =>
    obtain ⟨s, rfl, hs⟩ := hasL_some e
    have := h.lt s hs
    omega
/-- An empty row. -/
def emptyA : RowS := ⟨fun _ => 0, fun _ => 0, fun _ => false⟩
theorem RW.empty : RW emptyA [] := ⟨⟨⟨rfl, rfl⟩, trivial⟩, fun _ _ => rfl, List.nodup_nil, fun _ h => by cases h⟩

/-- A ranking: on trial, kept; how many slots. -/
structure RkS where
  T : List Nat
  K : List Nat
  n : Nat
structure RkS.WF (S : RkS) : Prop where
  nd : (S.T ++ S.K).Nodup
  lt : ∀ s ∈ S.T ++ S.K, s < S.n
  n1 : 1 ≤ S.n
  n64 : S.n ≤ 64
namespace RkS
def has (S : RkS) (x : Int) : Bool := hasL S.T x || hasL S.K x
def insB (S : RkS) (x : Int) : Bool := decide (0 ≤ x) && decide (x < S.n) && !S.has x
def insS (S : RkS) (x : Int) : RkS := if S.insB x = true then { S with T := x.toNat :: S.T } else S
def remS (S : RkS) (x : Int) : RkS := if S.has x = true then { S with T := butL S.T x.toNat, K := butL S.K x.toNat } else S
/-- The last kept one is the first one on trial, if more are kept than there is room for. -/
def demo (S : RkS) : RkS := if S.n / 2 < S.K.length then { S with T := S.K.getLast?.toList ++ S.T, K := S.K.dropLast } else S
def touS (S : RkS) (x : Int) : RkS := if S.has x = true then demo { S with T := butL S.T x.toNat, K := x.toNat :: butL S.K x.toNat } else S
def vic (S : RkS) : Option Nat := S.T.getLast?.or S.K.getLast?
def vicN (S : RkS) : Nat := S.vic.getD 0
/-- An act. -/
def doB (S : RkS) (d x : Int) : Bool := if d = 0 then S.insB x else if d = 1 then S.has x else if d = 2 then S.has x else if d = 3 then S.vic.isSome else false
def doS (S : RkS) (d x : Int) : RkS := if d = 0 then S.insS x else if d = 1 then S.touS x else if d = 2 then S.remS x else if d = 3 then (if S.vic.isSome = true then S.remS (S.vicN : Int) else S) else S
theorem has_some {S : RkS} {x : Int} (h : S.has x = true) : ∃ s : Nat, x = (s : Int) ∧ s ∈ S.T ++ S.K := by
  simp only [has, Bool.or_eq_true] at h
  rcases h with h | h
  · obtain ⟨s, e, hs⟩ := hasL_some h
    exact ⟨s, e, by simp [hs]⟩
  · obtain ⟨s, e, hs⟩ := hasL_some h
    exact ⟨s, e, by simp [hs]⟩
theorem vic_mem {S : RkS} {v : Nat} (h : S.vic = some v) : v ∈ S.T ++ S.K := by
  unfold vic at h
  rcases Option.or_eq_some_iff.1 h with h | ⟨_, h⟩
  · exact List.mem_append.2 (.inl (List.mem_of_getLast? h))
  · exact List.mem_append.2 (.inr (List.mem_of_getLast? h))
theorem has_of_mem {S : RkS} {s : Nat} (h : s ∈ S.T ++ S.K) : S.has (s : Int) = true := by
  simp only [has, hasL_nat]
  simpa using h
theorem vic_has {S : RkS} (h : S.vic.isSome = true) : S.has (S.vicN : Int) = true := by
  obtain ⟨v, e⟩ := Option.isSome_iff_exists.1 h
  unfold vicN
  rw [e]
  exact has_of_mem (vic_mem e)
theorem insS_wf {S : RkS} (h : S.WF) (x : Int) : (S.insS x).WF := by
  unfold insS
  split
  · rename_i hb
    simp only [insB, Bool.and_eq_true, Bool.not_eq_true', decide_eq_true_eq] at hb
    obtain ⟨⟨h0, h1⟩, h2⟩ := hb
    have hn : x.toNat ∉ S.T ++ S.K := fun e => by
      have := has_of_mem e
      rw [Int.toNat_of_nonneg h0, h2] at this
      cases this
    refine ⟨List.nodup_cons.2 ⟨hn, h.nd⟩, fun s hs => ?_, h.n1, h.n64⟩
    rcases List.mem_cons.1 hs with rfl | hs
    · show x.toNat < S.n
      omega
    · exact h.lt s hs
  · exact h
theorem remS_wf {S : RkS} (h : S.WF) (x : Int) : (S.remS x).WF := by
  unfold remS
  split
  · refine ⟨?_, fun s hs => ?_, h.n1, h.n64⟩
    · show (butL S.T x.toNat ++ butL S.K x.toNat).Nodup
      have : butL S.T x.toNat ++ butL S.K x.toNat = butL (S.T ++ S.K) x.toNat := (List.filter_append ..).symm
      rw [this]
      exact but_nd h.nd _
    · simp [mem_but] at hs
      exact h.lt s (by simp; rcases hs with hs | hs <;> simp [hs.1])
  · exact h
theorem demo_wf {S : RkS} (h : S.WF) : S.demo.WF := by
  unfold demo
  split
  · rename_i hl
    obtain ⟨s, hs⟩ : ∃ s, S.K.getLast? = some s := by
      cases e : S.K.getLast? with
      | some s => exact ⟨s, rfl⟩
      | none =>
        rw [List.getLast?_eq_none_iff] at e
        rw [e] at hl
        simp at hl
    have hd : S.K = S.K.dropLast ++ [s] := by
      obtain ⟨ys, e⟩ := List.getLast?_eq_some_iff.1 hs
      rw [e]
      simp
    have hp : (S.K.getLast?.toList ++ S.T ++ S.K.dropLast).Perm (S.T ++ S.K) := by
      rw [hs]
      show (s :: S.T ++ S.K.dropLast).Perm _
      have e1 : (S.T ++ S.K).Perm (S.T ++ (S.K.dropLast ++ [s])) := by rw [← hd]
      have e2 : (S.T ++ (S.K.dropLast ++ [s])) = (S.T ++ S.K.dropLast) ++ [s] := by simp
      rw [e2] at e1
      exact (e1.trans (List.perm_append_comm)).symm
    exact ⟨hp.symm.nodup h.nd, fun t ht => h.lt t (hp.mem_iff.1 ht), h.n1, h.n64⟩
  · exact h
theorem touch_mid {S : RkS} (h : S.WF) {s : Nat} (hs : s ∈ S.T ++ S.K) : (RkS.mk (butL S.T s) (s :: butL S.K s) S.n).WF := by
  refine ⟨?_, fun t ht => ?_, h.n1, h.n64⟩
  · have hp : (butL S.T s ++ s :: butL S.K s).Perm (s :: butL (S.T ++ S.K) s) := by
      rw [show butL (S.T ++ S.K) s = butL S.T s ++ butL S.K s from List.filter_append ..]
      exact List.perm_middle
    exact hp.symm.nodup (List.nodup_cons.2 ⟨fun e => (mem_but.1 e).2 rfl, but_nd h.nd s⟩)
  · simp [mem_but] at ht
    rcases ht with ht | rfl | ht
    · exact h.lt t (by simp [ht.1])
    · exact h.lt t hs
    · exact h.lt t (by simp [ht.1])
theorem touS_wf {S : RkS} (h : S.WF) (x : Int) : (S.touS x).WF := by
  unfold touS
  split
  · rename_i hx
    obtain ⟨s, rfl, hs⟩ := has_some hx
    exact demo_wf (touch_mid h hs)
  · exact h
theorem doS_wf {S : RkS} (h : S.WF) (d x : Int) : (S.doS d x).WF := by
  unfold doS
  split
  · exact insS_wf h x
  · split
    · exact touS_wf h x
    · split
      · exact remS_wf h x
      · split
        · split
          · exact remS_wf h _
          · exact h
        · exact h
theorem T_nd {S : RkS} (h : S.WF) : S.T.Nodup := (List.nodup_append.1 h.nd).1
theorem K_nd {S : RkS} (h : S.WF) : S.K.Nodup := (List.nodup_append.1 h.nd).2.1
theorem len_le {S : RkS} (h : S.WF) : S.T.length + S.K.length ≤ 64 := by
  have := nd_len S.n _ h.nd h.lt
  have := h.n64
  simp at *
  omega
end RkS
end Go.Proofs.YtajccmkdfmpapaaGreatDoor
