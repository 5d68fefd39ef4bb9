/-
  The cache in memory: its ranking, its index, its entries; what is found.
-/
import Derived.Test.YtmoagooabmmmgaaCaCe
import Derived.Test.YtmoagooabmmmgaaCaMath3
import Derived.Test.YtmoagooabmmmgaaLrB
import Derived.Test.YtmoagooabmmmgaaLrN
import Derived.Test.YtmoagooabmmmgaaIxE
namespace Go.Proofs.Ytmoagooabmmmgaa
open Go.RowKit

/-- The index' pairs. -/
def prsE (σ : Nat → Nat) (L : List CE) : PL := L.map (fun e => (e.b, (σ e.b : Int)))
theorem prsE_len (σ : Nat → Nat) (L : List CE) : (prsE σ L).length = L.length := by simp [prsE]
theorem prsE_asc {σ : Nat → Nat} {L : List CE} (h : L.Pairwise (fun x y => x.b < y.b)) : Asc (prsE σ L) := List.pairwise_map.2 h
theorem prsE_get (σ : Nat → Nat) (k : Nat) : ∀ L : List CE, getL (prsE σ L) k = (atE L (k : Int)).map (fun e => (σ e.b : Int))
  | [] => rfl
  | e :: L => by
    have ih := prsE_get σ k L
    show (if e.b = k then some (σ e.b : Int) else getL (prsE σ L) k) = _
    rw [ih]
    unfold atE
    by_cases h : e.b = k
    · rw [if_pos h, List.find?_cons_of_pos (by simp [h])]
      rfl
    · rw [if_neg h, List.find?_cons_of_neg (by simpa using (show ¬ ((e.b : Int) = (k : Int)) by omega))]
theorem prsE_drop (σ : Nat → Nat) (k : Nat) (L : List CE) : dropL (prsE σ L) k = prsE σ (dropE L (k : Int)) := by
  unfold dropL prsE dropE
  rw [List.filter_map]
  congr 1
  refine List.filter_congr fun e _ => ?_
  show (e.b != k) = !decide ((e.b : Int) = (k : Int))
  by_cases h : e.b = k
  · simp [h]
  · have h2 : ¬ ((e.b : Int) = (k : Int)) := by omega
    rw [decide_eq_false h2, bne_iff_ne.2 h]
    rfl
theorem prsE_ins (σ : Nat → Nat) (y : CE) : ∀ L : List CE, insL (prsE σ L) y.b (σ y.b : Int) = prsE σ (insE L y)
  | [] => rfl
  | e :: L => by
    have ih := prsE_ins σ y L
    show (if e.b < y.b then (e.b, (σ e.b : Int)) :: insL (prsE σ L) y.b (σ y.b : Int) else (y.b, (σ y.b : Int)) :: (e.b, (σ e.b : Int)) :: prsE σ L) = prsE σ (if e.b < y.b then e :: insE L y else y :: e :: L)
    rw [ih]
    split <;> rfl
theorem prsE_map (σ : Nat → Nat) {L L' : List CE} (h : L'.map CE.b = L.map CE.b) : prsE σ L' = prsE σ L := by
  have := congrArg (List.map (fun b => (b, (σ b : Int)))) h
  rw [List.map_map, List.map_map] at this
  exact this
theorem prsE_upd {σ : Nat → Nat} {b s : Nat} {L : List CE} (h : ∀ e ∈ L, e.b ≠ b) : prsE (upd σ b s) L = prsE σ L := List.map_congr_left fun e he => by rw [upd_ne (h e he)]
def ixs (σ : Nat → Nat) (S : CaS) : IxS := ⟨prsE σ S.E, S.n⟩
theorem ixs_has (σ : Nat → Nat) (S : CaS) (k : Nat) : (ixs σ S).has k = S.has (k : Int) := by
  unfold IxS.has CaS.has ixs
  rw [prsE_get]
  simp
/-- Where a block's entry lies. -/
def slotOf (σ : Nat → Nat) (S : CaS) (x : Int) : Nat := if S.has x = true then σ x.toNat else 0
theorem ixs_get (σ : Nat → Nat) (S : CaS) (k : Nat) : (ixs σ S).getN k = (slotOf σ S (k : Int) : Int) := by
  unfold IxS.getN ixs slotOf CaS.has
  rw [prsE_get]
  cases h : atE S.E (k : Int) with
  | none => rfl
  | some e =>
    have := (atE_some h).2
    have : e.b = k := by omega
    simp [this]
/-- Entries, each at its slot. -/
def EntC (cs : List Value) (σ : Nat → Nat) (L : List CE) : Prop := ∀ e ∈ L, cs[σ e.b * 3]? = some (.int .i64 (e.b : Int)) ∧ cs[σ e.b * 3 + 1]? = some (.int .u32 (e.a : Int)) ∧ cs[σ e.b * 3 + 2]? = some (.bool e.d)
structure LcC (w : World) (cb kb ib eb : Nat) (σ : Nat → Nat) (S : CaS) : Prop where
  b : Blk w cb 64 [.pointer (some ⟨kb, 0, none⟩), .pointer (some ⟨ib, 0, none⟩), .slice (some ⟨eb, 0, none⟩) S.n S.n]
  k : RkM w kb (S.rk.map σ)
  x : IxM w ib (ixs σ S)
  e : ∃ cs, Blk w eb 33 cs ∧ cs.length = S.n * 3 ∧ EntC cs σ S.E
  ne : kb < ib ∧ ib < eb ∧ eb < cb
  wf : S.WF
/-- What may change in place. -/
def lcF (kb ib eb : Nat) : Nat → Prop := fun k => k = kb ∨ k = ib ∨ k = eb
/-- What a call on a cache does. -/
def LcTo (cb kb ib eb : Nat) (v : Value) (S' : CaS) (w : World) (r : Ending) (w' : World) : Prop :=
  r = .returned v ∧ (∃ σ', LcC w' cb kb ib eb σ' S') ∧ Kept (lcF kb ib eb) w w'
section
variable {w w' : World} {cb kb ib eb : Nat} {σ : Nat → Nat} {S : CaS}
theorem LcC.keep {F : Nat → Prop} (h : LcC w cb kb ib eb σ S) (hk : Kept F w w') (h1 : ¬ F cb) (h2 : ¬ F kb) (h3 : ¬ F ib) (h4 : ¬ F eb) : LcC w' cb kb ib eb σ S := by
  obtain ⟨cs, hb, hl, he⟩ := h.e
  exact ⟨hk.blk h.b h1, h.k.keep hk h2, h.x.keep hk h3, ⟨cs, hk.blk hb h4, hl, he⟩, h.ne, h.wf⟩
theorem LcC.up (h : LcC w cb kb ib eb σ S) (hb : Below w.heap.size w w') : LcC w' cb kb ib eb σ S := h.keep (F := fun _ => False) (Kept.of_below hb) id id id id
theorem LcC.drew (h : LcC w cb kb ib eb σ S) : LcC w.drew cb kb ib eb σ S := h.up (Below.refl _ _).drew
theorem LcC.lt (h : LcC w cb kb ib eb σ S) : cb < w.heap.size := lt_of_block h.b
theorem LcC.cells (h : LcC w cb kb ib eb σ S) : w.cell? ⟨cb, 0, none⟩ = some (.pointer (some ⟨kb, 0, none⟩)) ∧ w.cell? ⟨cb, 1, none⟩ = some (.pointer (some ⟨ib, 0, none⟩)) ∧ w.cell? ⟨cb, 2, none⟩ = some (.slice (some ⟨eb, 0, none⟩) S.n S.n) := ⟨h.b.cell 0 (by simp), h.b.cell 1 (by simp), h.b.cell 2 (by simp)⟩
/-- An entry's slot. -/
theorem LcC.slot (h : LcC w cb kb ib eb σ S) {e : CE} (he : e ∈ S.E) : σ e.b < S.n ∧ w.cell? ⟨eb, σ e.b * 3, none⟩ = some (.int .i64 (e.b : Int)) ∧ w.cell? ⟨eb, σ e.b * 3 + 1, none⟩ = some (.int .u32 (e.a : Int)) ∧ w.cell? ⟨eb, σ e.b * 3 + 2, none⟩ = some (.bool e.d) := by
  obtain ⟨cs, hb, hl, hc⟩ := h.e
  obtain ⟨c0, c1, c2⟩ := hc e he
  refine ⟨?_, hb.at c0, hb.at c1, hb.at c2⟩
  refine h.k.2.lt _ ?_
  show _ ∈ S.T.map σ ++ S.K.map σ
  rw [← List.map_append]
  exact List.mem_map_of_mem ((h.wf.mem e.b).2 ⟨e, he, rfl⟩)
theorem LcC.free (h : LcC w cb kb ib eb σ S) (i : Nat) : w.frozen? ⟨eb, i, none⟩ = false := by
  obtain ⟨cs, hb, _⟩ := h.e
  exact hb.free i
theorem LcC.inj (h : LcC w cb kb ib eb σ S) : S.Inj σ := by
  intro x hx y hy e
  have hnd := h.k.2.nd
  have hnd : (S.T.map σ ++ S.K.map σ).Nodup := hnd
  rw [← List.map_append] at hnd
  have h1 := (h.wf.mem x.b).2 ⟨x, hx, rfl⟩
  have h2 := (h.wf.mem y.b).2 ⟨y, hy, rfl⟩
  obtain ⟨i, hi, ei⟩ := List.getElem_of_mem h1
  obtain ⟨j, hj, ej⟩ := List.getElem_of_mem h2
  rw [← ei, ← ej]
  have hp := List.pairwise_iff_getElem.1 hnd
  rcases Nat.lt_trichotomy i j with hlt | rfl | hlt
  · refine absurd ?_ (hp i j (by simpa using hi) (by simpa using hj) hlt)
    rw [List.getElem_map, List.getElem_map, ei, ej, e]
  · rfl
  · refine absurd ?_ (hp j i (by simpa using hj) (by simpa using hi) hlt)
    rw [List.getElem_map, List.getElem_map, ei, ej, e]
/-- The ranking alone was changed. -/
theorem LcC.rank {R : RkS} (h : LcC w cb kb ib eb σ S) (hk : Kept (fun k => k = kb) w w') (hr : RkM w' kb (R.map σ)) (hn : R.n = S.n) (hw : (S.setR R).WF) : LcC w' cb kb ib eb σ (S.setR R) := by
  have hR : (S.setR R).rk = R := by
    cases R
    subst hn
    rfl
  have hne := h.ne
  obtain ⟨cs, hb, hl, he⟩ := h.e
  exact ⟨hk.blk h.b (by omega), by rw [hR]; exact hr, h.x.keep hk (by omega), ⟨cs, hk.blk hb (by omega), hl, he⟩, h.ne, hw⟩
/-- Entries alone were changed, in place. -/
theorem LcC.entries {L : List CE} {cs : List Value} (h : LcC w cb kb ib eb σ S) (hk : Kept (fun k => k = eb) w w') (hb : Blk w' eb 33 cs) (hl : cs.length = S.n * 3) (he : EntC cs σ L) (hm : L.map CE.b = S.E.map CE.b) : LcC w' cb kb ib eb σ { S with E := L } := by
  have hne := h.ne
  refine ⟨hk.blk h.b (by omega), h.k.keep hk (by omega), ?_, ⟨cs, hb, hl, he⟩, h.ne, CaS.set_wf h.wf hm⟩
  show IxM w' ib ⟨prsE σ L, S.n⟩
  rw [prsE_map σ hm]
  exact h.x.keep hk (by omega)
/-- One cell of one entry. -/
theorem EntC.set1 {cs : List Value} {L : List CE} {b : Nat} {y : Nat} (h : EntC cs σ L) (hi : ∀ x ∈ L, σ x.b = σ b → x.b = b) (hb : ∃ x ∈ L, x.b = b) : EntC (cs.set (σ b * 3 + 1) (.int .u32 (y : Int))) σ (setE L (b : Int) (fun e => { e with a := y })) := by
  intro e he
  obtain ⟨e0, h0, rfl⟩ := List.mem_map.1 he
  obtain ⟨c0, c1, c2⟩ := h e0 h0
  by_cases hx : (e0.b : Int) = (b : Int)
  · rw [if_pos hx]
    have hx : e0.b = b := by omega
    refine ⟨?_, ?_, ?_⟩
    · rw [set_off (by rw [← hx]; simp)]
      exact c0
    · rw [← hx]
      exact set_at c1
    · rw [set_off (by rw [← hx]; simp)]
      exact c2
  · rw [if_neg hx]
    have hne : σ e0.b ≠ σ b := fun e2 => hx (by rw [hi e0 h0 e2])
    exact ⟨by rw [set_off (by omega)]; exact c0, by rw [set_off (by omega)]; exact c1, by rw [set_off (by omega)]; exact c2⟩
theorem EntC.set2 {cs : List Value} {L : List CE} {b : Nat} {f : CE → Bool} {v : Bool} (h : EntC cs σ L) (hi : ∀ x ∈ L, σ x.b = σ b → x.b = b) (hf : ∀ x ∈ L, x.b = b → f x = v) : EntC (cs.set (σ b * 3 + 2) (.bool v)) σ (setE L (b : Int) (fun e => { e with d := f e })) := by
  intro e he
  obtain ⟨e0, h0, rfl⟩ := List.mem_map.1 he
  obtain ⟨c0, c1, c2⟩ := h e0 h0
  by_cases hx : (e0.b : Int) = (b : Int)
  · rw [if_pos hx]
    have hx : e0.b = b := by omega
    refine ⟨?_, ?_, ?_⟩
    · rw [set_off (by rw [← hx]; simp)]
      exact c0
    · rw [set_off (by rw [← hx]; simp)]
      exact c1
    · rw [← hx, ← hf e0 h0 hx]
      exact set_at c2
  · rw [if_neg hx]
    have hne : σ e0.b ≠ σ b := fun e2 => hx (by rw [hi e0 h0 e2])
    exact ⟨by rw [set_off (by omega)]; exact c0, by rw [set_off (by omega)]; exact c1, by rw [set_off (by omega)]; exact c2⟩
theorem lmay_at (x : Int) (w : World) : Calls Try.prog 30 #[.int .i64 x] w (BoolIs (decide (0 ≤ x) && decide (x < 64)) w) := by
  by_cases h0 : 0 ≤ x
  · by_cases h1 : x < 64
    · have HV : Hid ((decide (0 ≤ x) && decide (x < 64)) = true) := Lib.hid (by simp [h0, h1])
      have d0 : decide (0 ≤ x) = true := by simpa using h0
      have d1 : decide (x < 64) = true := by simpa using h1
      rw [HV.out]
      go_enter Try.func30, Try.ntmps30
      go_wp2_with fail
      go_ret
      exact ⟨rfl, rfl⟩
    · have HV : Hid ((decide (0 ≤ x) && decide (x < 64)) = false) := Lib.hid (by simp [h1])
      have d0 : decide (0 ≤ x) = true := by simpa using h0
      have d1 : decide (x < 64) = false := by simpa using h1
      rw [HV.out]
      go_enter Try.func30, Try.ntmps30
      go_wp2_with fail
      go_ret
      exact ⟨rfl, rfl⟩
  · have HV : Hid ((decide (0 ≤ x) && decide (x < 64)) = false) := Lib.hid (by simp [h0])
    have d0 : decide (0 ≤ x) = false := by simpa using h0
    rw [HV.out]
    go_enter Try.func30, Try.ntmps30
    go_wp2_with fail
    go_ret
    exact ⟨rfl, rfl⟩
/-- What find tells. -/
def FindIs (σ : Nat → Nat) (S : CaS) (x : Int) (w : World) (r : Ending) (w' : World) : Prop := r = .returned (.tuple #[.int .i64 (slotOf σ S x : Int), .bool (S.has x)]) ∧ Below w.heap.size w w'
set_option maxHeartbeats 1000000 in
theorem lfindc_at (x : Int) (h : LcC w cb kb ib eb σ S) : Calls Try.prog 25 #[.pointer (some ⟨cb, 0, none⟩), .int .i64 x] w (FindIs σ S x w) := by
  by_cases hm : 0 ≤ x ∧ x < 64
  · obtain ⟨k, rfl⟩ := Int.eq_ofNat_of_zero_le hm.1
    have HM : Hid ((decide (0 ≤ (k : Int)) && decide ((k : Int) < 64)) = true) := Lib.hid (by simp [hm.2])
    have HX := Lib.hid (xget_at k h.x)
    have HE : Hid (∀ r w', GetTo (ixs σ S) k w r w' → FindIs σ S (k : Int) w r w') := Lib.hid (fun r w' ⟨h1, h2⟩ => ⟨by rw [h1, ixs_has, ixs_get], h2⟩)
    have hw : IntKind.u32.wrap (k : Int) = (k : Int) := by
      rw [IntKind.wrap_u32]
      omega
    have g1 := h.cells.2.1
    have HI := Lib.hid (ixs_get σ S k)
    have HS := Lib.hid (ixs_has σ S k)
    clear h hm
    go_enter Try.func25, Try.ntmps25
    go_wp2_with fail
    refine (lmay_at (k : Int) w).mono ?_
    rintro r w1 ⟨rfl, rfl⟩
    rw [HM.out]
    go_wp2_with fail
    refine HX.out.mono ?_
    rintro r w2 ⟨rfl, hb⟩
    have HB := Lib.hid hb
    rw [HI.out, HS.out]
    obtain ⟨hh, eh⟩ : ∃ hh, S.has (k : Int) = hh := ⟨_, rfl⟩
    obtain ⟨ss, es⟩ : ∃ ss, slotOf σ S (k : Int) = ss := ⟨_, rfl⟩
    have HR : Hid (FindIs σ S (k : Int) w (.returned (.tuple #[.int .i64 (ss : Int), .bool hh])) w2) := Lib.hid ⟨by rw [eh, es], HB.out⟩
    rw [eh, es]
    clear hb HX HE HI HS eh es HB
    go_wp2_with fail
    go_ret2
    exact HR.out
  · have HM : Hid ((decide (0 ≤ x) && decide (x < 64)) = false) := Lib.hid (by
      by_cases h0 : 0 ≤ x
      · have : ¬ x < 64 := fun h1 => hm ⟨h0, h1⟩
        simp [this]
      · simp [h0])
    have hno : S.has x = false := by
      cases hh : S.has x with
      | false => rfl
      | true =>
        obtain ⟨e, he, hb⟩ := CaS.has_mem hh
        have := h.wf.b64 e he
        omega
    have HE : Hid (FindIs σ S x w (.returned (.tuple #[.int .i64 0, .bool false])) w) := Lib.hid ⟨by unfold slotOf; rw [hno]; rfl, Below.refl _ _⟩
    clear h hm hno
    go_enter Try.func25, Try.ntmps25
    go_wp2_with fail
    refine (lmay_at x w).mono ?_
    rintro r w1 ⟨rfl, rfl⟩
    rw [HM.out]
    go_wp2_with fail
    go_ret2
    exact HE.out
end
end Go.Proofs.Ytmoagooabmmmgaa
