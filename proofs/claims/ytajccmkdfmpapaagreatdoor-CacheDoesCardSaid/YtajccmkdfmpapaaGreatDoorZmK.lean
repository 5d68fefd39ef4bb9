/-
  The cache in memory: its ranking, its index, its entries; what is found.
  The cache in memory: New, Len, Peek, Get, Move, Victim.
  The cache in memory: Victim.
  The cache in memory: Drop.
  The cache in memory: Put.
-/
import Derived.Test.YtajccmkdfmpapaaGreatDoorZmC
import Derived.Test.YtajccmkdfmpapaaGreatDoorZmH
import Derived.Test.YtajccmkdfmpapaaGreatDoorZmI
import Derived.Test.YtajccmkdfmpapaaGreatDoorZmJ
import Derived.Test.YtajccmkdfmpapaaGreatDoorZmD
import Derived.Deep.DeepCutAuto
namespace Go.Proofs.YtajccmkdfmpapaaGreatDoor
open Go.RowKit

/-- The index' pairs. -/
def prsE (σ : Nat → Nat) (L : List CE) : PL := L.map (fun e => (e.b, (σ e.b : Int)))
theorem prsE_len (σ : Nat → Nat) (L : List CE) : (prsE σ L).length = L.length := by simp [prsE]
theorem prsE_asc {σ : Nat → Nat} {L : List CE} (h : L.Pairwise (fun x y => x.b < y.b)) : Asc (prsE σ L) := List.pairwise_map.2 h
theorem prsE_get (σ : Nat → Nat) (k : Nat) : ∀ L : List CE, getL (prsE σ L) k = (atE L (k : Int)).map (fun e => (σ e.b : Int))
  | [] => rfl
  | e :: L => by
    have ih := prsE_get σ k L
    show (if e.b = k then some (σ e.b : Int) else getL (prsE σ L) k) = _
    rw [ih]
    unfold atE
    by_cases h : e.b = k
    · rw [if_pos h, List.find?_cons_of_pos (by simp [h])]
      rfl
    · rw [if_neg h, List.find?_cons_of_neg (by simpa using (show ¬ ((e.b : Int) = (k : Int)) by omega))]
theorem prsE_drop (σ : Nat → Nat) (k : Nat) (L : List CE) : dropL (prsE σ L) k = prsE σ (dropE L (k : Int)) := by
  unfold dropL prsE dropE
  rw [List.filter_map]
  congr 1
  refine List.filter_congr fun e _ => ?_
  show (e.b != k) = !decide ((e.b : Int) = (k : Int))
  by_cases h : e.b = k
  · simp [h]
  · have h2 : ¬ ((e.b : Int) = (k : Int)) := by omega
    rw [decide_eq_false h2, bne_iff_ne.2 h]
    rfl
theorem prsE_ins (σ : Nat → Nat) (y : CE) : ∀ L : List CE, insL (prsE σ L) y.b (σ y.b : Int) = prsE σ (insE L y)
  | [] => rfl
  | e :: L => by
    have ih := prsE_ins σ y L
    show (if e.b < y.b then (e.b, (σ e.b : Int)) :: insL (prsE σ L) y.b (σ y.b : Int) else (y.b, (σ y.b : Int)) :: (e.b, (σ e.b : Int)) :: prsE σ L) = prsE σ (if e.b < y.b then e :: insE L y else y :: e :: L)
    rw [ih]
    split <;> rfl
theorem prsE_map (σ : Nat → Nat) {L L' : List CE} (h : L'.map CE.b = L.map CE.b) : prsE σ L' = prsE σ L := by
  have := congrArg (List.map (fun b => (b, (σ b : Int)))) h
  rw [List.map_map, List.map_map] at this
  exact this
theorem prsE_upd {σ : Nat → Nat} {b s : Nat} {L : List CE} (h : ∀ e ∈ L, e.b ≠ b) : prsE (upd σ b s) L = prsE σ L := List.map_congr_left fun e he => by rw [upd_ne (h e he)]
def ixs (σ : Nat → Nat) (S : CaS) : IxS := ⟨prsE σ S.E, S.n⟩
theorem ixs_has (σ : Nat → Nat) (S : CaS) (k : Nat) : (ixs σ S).has k = S.has (k : Int) := by
  unfold IxS.has CaS.has ixs
  rw [prsE_get]
  simp
/-- Where a block's entry lies. -/
def slotOf (σ : Nat → Nat) (S : CaS) (x : Int) : Nat := if S.has x = true then σ x.toNat else 0
theorem ixs_get (σ : Nat → Nat) (S : CaS) (k : Nat) : (ixs σ S).getN k = (slotOf σ S (k : Int) : Int) := by
  unfold IxS.getN ixs slotOf CaS.has
  rw [prsE_get]
  cases h : atE S.E (k : Int) with
  | none => rfl
  | some e =>
    have := (atE_some h).2
    have : e.b = k := by omega
    simp [this]
/-- Entries, each at its slot. -/
def EntC (cs : List Value) (σ : Nat → Nat) (L : List CE) : Prop := ∀ e ∈ L, cs[σ e.b * 3]? = some (.int .i64 (e.b : Int)) ∧ cs[σ e.b * 3 + 1]? = some (.int .u32 (e.a : Int)) ∧ cs[σ e.b * 3 + 2]? = some (.bool e.d)
structure LcC (w : World) (cb kb ib eb : Nat) (σ : Nat → Nat) (S : CaS) : Prop where
  b : Blk w cb 76 [.pointer (some ⟨kb, 0, none⟩), .pointer (some ⟨ib, 0, none⟩), .slice (some ⟨eb, 0, none⟩) S.n S.n]
  k : RkM w kb (S.rk.map σ)
  x : IxM w ib (ixs σ S)
  e : ∃ cs, Blk w eb 56 cs ∧ cs.length = S.n * 3 ∧ EntC cs σ S.E
  ne : kb < ib ∧ ib < eb ∧ eb < cb
  wf : S.WF
/-- What may change in place. -/
def lcF (kb ib eb : Nat) : Nat → Prop := fun k => k = kb ∨ k = ib ∨ k = eb
/-- What a call on a cache does. -/
def LcTo (cb kb ib eb : Nat) (v : Value) (S' : CaS) (w : World) (r : Ending) (w' : World) : Prop :=
  r = .returned v ∧ (∃ σ', LcC w' cb kb ib eb σ' S') ∧ Kept (lcF kb ib eb) w w'
section
variable {w w' : World} {cb kb ib eb : Nat} {σ : Nat → Nat} {S : CaS}
theorem LcC.keep {F : Nat → Prop} (h : LcC w cb kb ib eb σ S) (hk : Kept F w w') (h1 : ¬ F cb) (h2 : ¬ F kb) (h3 : ¬ F ib) (h4 : ¬ F eb) : LcC w' cb kb ib eb σ S := by
  obtain ⟨cs, hb, hl, he⟩ := h.e
  exact ⟨hk.blk h.b h1, h.k.keep hk h2, h.x.keep hk h3, ⟨cs, hk.blk hb h4, hl, he⟩, h.ne, h.wf⟩
theorem LcC.up (h : LcC w cb kb ib eb σ S) (hb : Below w.heap.size w w') : LcC w' cb kb ib eb σ S := h.keep (F := fun _ => False) (Kept.of_below hb) id id id id
theorem LcC.drew (h : LcC w cb kb ib eb σ S) : LcC w.drew cb kb ib eb σ S := h.up (Below.refl _ _).drew
theorem LcC.lt (h : LcC w cb kb ib eb σ S) : cb < w.heap.size := lt_of_block h.b
theorem LcC.cells (h : LcC w cb kb ib eb σ S) : w.cell? ⟨cb, 0, none⟩ = some (.pointer (some ⟨kb, 0, none⟩)) ∧ w.cell? ⟨cb, 1, none⟩ = some (.pointer (some ⟨ib, 0, none⟩)) ∧ w.cell? ⟨cb, 2, none⟩ = some (.slice (some ⟨eb, 0, none⟩) S.n S.n) := ⟨h.b.cell 0 (by simp), h.b.cell 1 (by simp), h.b.cell 2 (by simp)⟩
/-- An entry's slot. -/
theorem LcC.slot (h : LcC w cb kb ib eb σ S) {e : CE} (he : e ∈ S.E) : σ e.b < S.n ∧ w.cell? ⟨eb, σ e.b * 3, none⟩ = some (.int .i64 (e.b : Int)) ∧ w.cell? ⟨eb, σ e.b * 3 + 1, none⟩ = some (.int .u32 (e.a : Int)) ∧ w.cell? ⟨eb, σ e.b * 3 + 2, none⟩ = some (.bool e.d) := by
  obtain ⟨cs, hb, hl, hc⟩ := h.e
  obtain ⟨c0, c1, c2⟩ := hc e he
  refine ⟨?_, hb.at c0, hb.at c1, hb.at c2⟩
  refine h.k.2.lt _ ?_
  show _ ∈ S.T.map σ ++ S.K.map σ
  rw [← List.map_append]
  exact List.mem_map_of_mem ((h.wf.mem e.b).2 ⟨e, he, rfl⟩)
theorem LcC.free (h : LcC w cb kb ib eb σ S) (i : Nat) : w.frozen? ⟨eb, i, none⟩ = false := by
  obtain ⟨cs, hb, _⟩ := h.e
  exact hb.free i
theorem LcC.inj (h : LcC w cb kb ib eb σ S) : S.Inj σ := by
  intro x hx y hy e
  have hnd := h.k.2.nd
  have hnd : (S.T.map σ ++ S.K.map σ).Nodup := hnd
  rw [← List.map_append] at hnd
  have h1 := (h.wf.mem x.b).2 ⟨x, hx, rfl⟩
  have h2 := (h.wf.mem y.b).2 ⟨y, hy, rfl⟩
  obtain ⟨i, hi, ei⟩ := List.getElem_of_mem h1
  obtain ⟨j, hj, ej⟩ := List.getElem_of_mem h2
  rw [← ei, ← ej]
  have hp := List.pairwise_iff_getElem.1 hnd
  rcases Nat.lt_trichotomy i j with hlt | rfl | hlt
  · refine absurd ?_ (hp i j (by simpa using hi) (by simpa using hj) hlt)
    rw [List.getElem_map, List.getElem_map, ei, ej, e]
  · rfl
  · refine absurd ?_ (hp j i (by simpa using hj) (by simpa using hi) hlt)
    rw [List.getElem_map, List.getElem_map, ei, ej, e]
/-- The ranking alone was changed. -/
theorem LcC.rank {R : RkS} (h : LcC w cb kb ib eb σ S) (hk : Kept (fun k => k = kb) w w') (hr : RkM w' kb (R.map σ)) (hn : R.n = S.n) (hw : (S.setR R).WF) : LcC w' cb kb ib eb σ (S.setR R) := by
  have hR : (S.setR R).rk = R := by
    cases R
    subst hn
    rfl
  have hne := h.ne
  obtain ⟨cs, hb, hl, he⟩ := h.e
  exact ⟨hk.blk h.b (by omega), by rw [hR]; exact hr, h.x.keep hk (by omega), ⟨cs, hk.blk hb (by omega), hl, he⟩, h.ne, hw⟩
/-- Entries alone were changed, in place. -/
theorem LcC.entries {L : List CE} {cs : List Value} (h : LcC w cb kb ib eb σ S) (hk : Kept (fun k => k = eb) w w') (hb : Blk w' eb 56 cs) (hl : cs.length = S.n * 3) (he : EntC cs σ L) (hm : L.map CE.b = S.E.map CE.b) : LcC w' cb kb ib eb σ { S with E := L } := by
  have hne := h.ne
  refine ⟨hk.blk h.b (by omega), h.k.keep hk (by omega), ?_, ⟨cs, hb, hl, he⟩, h.ne, CaS.set_wf h.wf hm⟩
  show IxM w' ib ⟨prsE σ L, S.n⟩
  rw [prsE_map σ hm]
  exact h.x.keep hk (by omega)
/-- One cell of one entry. -/
theorem EntC.set1 {cs : List Value} {L : List CE} {b : Nat} {y : Nat} (h : EntC cs σ L) (hi : ∀ x ∈ L, σ x.b = σ b → x.b = b) (hb : ∃ x ∈ L, x.b = b) : EntC (cs.set (σ b * 3 + 1) (.int .u32 (y : Int))) σ (setE L (b : Int) (fun e => { e with a := y })) := by
  intro e he
  obtain ⟨e0, h0, rfl⟩ := List.mem_map.1 he
  obtain ⟨c0, c1, c2⟩ := h e0 h0
  by_cases hx : (e0.b : Int) = (b : Int)
  · rw [if_pos hx]
    have hx : e0.b = b := by omega
    refine ⟨?_, ?_, ?_⟩
    · rw [set_off (by rw [← hx]; simp)]
      exact c0
    · rw [← hx]
      exact set_at c1
    · rw [set_off (by rw [← hx]; simp)]
      exact c2
  · rw [if_neg hx]
    have hne : σ e0.b ≠ σ b := fun e2 => hx (by rw [hi e0 h0 e2])
    exact ⟨by rw [set_off (by omega)]; exact c0, by rw [set_off (by omega)]; exact c1, by rw [set_off (by omega)]; exact c2⟩
theorem EntC.set2 {cs : List Value} {L : List CE} {b : Nat} {f : CE → Bool} {v : Bool} (h : EntC cs σ L) (hi : ∀ x ∈ L, σ x.b = σ b → x.b = b) (hf : ∀ x ∈ L, x.b = b → f x = v) : EntC (cs.set (σ b * 3 + 2) (.bool v)) σ (setE L (b : Int) (fun e => { e with d := f e })) := by
  intro e he
  obtain ⟨e0, h0, rfl⟩ := List.mem_map.1 he
  obtain ⟨c0, c1, c2⟩ := h e0 h0
  by_cases hx : (e0.b : Int) = (b : Int)
  · rw [if_pos hx]
    have hx : e0.b = b := by omega
    refine ⟨?_, ?_, ?_⟩
    · rw [set_off (by rw [← hx]; simp)]
      exact c0
    · rw [set_off (by rw [← hx]; simp)]
      exact c1
    · rw [← hx, ← hf e0 h0 hx]
      exact set_at c2
  · rw [if_neg hx]
    have hne : σ e0.b ≠ σ b := fun e2 => hx (by rw [hi e0 h0 e2])
    exact ⟨by rw [set_off (by omega)]; exact c0, by rw [set_off (by omega)]; exact c1, by rw [set_off (by omega)]; exact c2⟩
theorem lmay_at (x : Int) (w : World) : Calls Tryz.prog 45 #[.int .i64 x] w (BoolIs (decide (0 ≤ x) && decide (x < 64)) w) := by
  by_cases h0 : 0 ≤ x
  · by_cases h1 : x < 64
    · have HV : Hid ((decide (0 ≤ x) && decide (x < 64)) = true) := Lib.hid (by simp [h0, h1])
      have d0 : decide (0 ≤ x) = true := by simpa using h0
      have d1 : decide (x < 64) = true := by simpa using h1
      rw [HV.out]
      go_enter Tryz.func45, Tryz.ntmps45
      go_wp2_with fail
      go_ret
      exact ⟨rfl, rfl⟩
    · have HV : Hid ((decide (0 ≤ x) && decide (x < 64)) = false) := Lib.hid (by simp [h1])
      have d0 : decide (0 ≤ x) = true := by simpa using h0
      have d1 : decide (x < 64) = false := by simpa using h1
      rw [HV.out]
      go_enter Tryz.func45, Tryz.ntmps45
      go_wp2_with fail
      go_ret
      exact ⟨rfl, rfl⟩
  · have HV : Hid ((decide (0 ≤ x) && decide (x < 64)) = false) := Lib.hid (by simp [h0])
    have d0 : decide (0 ≤ x) = false := by simpa using h0
    rw [HV.out]
    go_enter Tryz.func45, Tryz.ntmps45
    go_wp2_with fail
    go_ret
    exact ⟨rfl, rfl⟩
/-- What find tells. -/
def FindIs (σ : Nat → Nat) (S : CaS) (x : Int) (w : World) (r : Ending) (w' : World) : Prop := r = .returned (.tuple #[.int .i64 (slotOf σ S x : Int), .bool (S.has x)]) ∧ Below w.heap.size w w'
set_option maxHeartbeats 1000000 in
theorem lfindc_at (x : Int) (h : LcC w cb kb ib eb σ S) : Calls Tryz.prog 44 #[.pointer (some ⟨cb, 0, none⟩), .int .i64 x] w (FindIs σ S x w) := by
  by_cases hm : 0 ≤ x ∧ x < 64
  · obtain ⟨k, rfl⟩ := Int.eq_ofNat_of_zero_le hm.1
    have HM : Hid ((decide (0 ≤ (k : Int)) && decide ((k : Int) < 64)) = true) := Lib.hid (by simp [hm.2])
    have HX := Lib.hid (xget_at k h.x)
    have HE : Hid (∀ r w', GetTo (ixs σ S) k w r w' → FindIs σ S (k : Int) w r w') := Lib.hid (fun r w' ⟨h1, h2⟩ => ⟨by rw [h1, ixs_has, ixs_get], h2⟩)
    have hw : IntKind.u32.wrap (k : Int) = (k : Int) := by
      rw [IntKind.wrap_u32]
      omega
    have g1 := h.cells.2.1
    have HI := Lib.hid (ixs_get σ S k)
    have HS := Lib.hid (ixs_has σ S k)
    clear h hm
    go_enter Tryz.func44, Tryz.ntmps44
    go_wp2_with fail
    refine (lmay_at (k : Int) w).mono ?_
    rintro r w1 ⟨rfl, rfl⟩
    rw [HM.out]
    go_wp2_with fail
    refine HX.out.mono ?_
    rintro r w2 ⟨rfl, hb⟩
    have HB := Lib.hid hb
    rw [HI.out, HS.out]
    obtain ⟨hh, eh⟩ : ∃ hh, S.has (k : Int) = hh := ⟨_, rfl⟩
    obtain ⟨ss, es⟩ : ∃ ss, slotOf σ S (k : Int) = ss := ⟨_, rfl⟩
    have HR : Hid (FindIs σ S (k : Int) w (.returned (.tuple #[.int .i64 (ss : Int), .bool hh])) w2) := Lib.hid ⟨by rw [eh, es], HB.out⟩
    rw [eh, es]
    clear hb HX HE HI HS eh es HB
    go_wp2_with fail
    go_ret2
    exact HR.out
  · have HM : Hid ((decide (0 ≤ x) && decide (x < 64)) = false) := Lib.hid (by
      by_cases h0 : 0 ≤ x
      · have : ¬ x < 64 := fun h1 => hm ⟨h0, h1⟩
        simp [this]
      · simp [h0])
    have hno : S.has x = false := by
      cases hh : S.has x with
      | false => rfl
      | true =>
        obtain ⟨e, he, hb⟩ := CaS.has_mem hh
        have := h.wf.b64 e he
        omega
    have HE : Hid (FindIs σ S x w (.returned (.tuple #[.int .i64 0, .bool false])) w) := Lib.hid ⟨by unfold slotOf; rw [hno]; rfl, Below.refl _ _⟩
    clear h hm hno
    go_enter Tryz.func44, Tryz.ntmps44
    go_wp2_with fail
    refine (lmay_at x w).mono ?_
    rintro r w1 ⟨rfl, rfl⟩
    rw [HM.out]
    go_wp2_with fail
    go_ret2
    exact HE.out
end
end Go.Proofs.YtajccmkdfmpapaaGreatDoor
namespace Go.Proofs.YtajccmkdfmpapaaGreatDoor
open Go.RowKit

theorem caInfo : (Tryz.prog.info? 56).map (fun i => (i.zero, i.size, i.bytes)) = some (some (.agg #[.int .i64 0, .int .u32 0, .bool false]), 3, 16) := by kernel_rfl
theorem make_ents (m : Nat) (hm : m ≤ 64) : ∃ cs : List Value, cs.length = m * 3 ∧ ∀ w : World, (Instr.makeSlice 49 (.int .i64 (m : Int)) (.int .i64 (m : Int))).run Tryz.prog w = .ok (.slice (some ⟨w.heap.size, 0, none⟩) m m) (w.alloc (.cells cs.toArray 56)) := by
  obtain ⟨i0, hi, hz0, hz1, hz2⟩ := info_parts caInfo
  refine ⟨(madeCells (Value.agg #[.int .i64 0, .int .u32 0, .bool false]).cells (m * 3)).toList, by simp [size_madeCells], fun w => ?_⟩
  have := run_make (P := Tryz.prog) w 49 56 i0 (.agg #[.int .i64 0, .int .u32 0, .bool false]) Tryz.underlying49 hi hz0 .i64 .i64 (m : Int) (m : Int) (by omega) (by omega) (by rw [hz2]; omega) (by omega)
  rw [Int.toNat_natCast, hz1] at this
  rw [this, Array.toArray_toList]
/-- What New answers. -/
def LcNew (n : Int) (w : World) (r : Ending) (w' : World) : Prop :=
  Below w.heap.size w w' ∧ if 1 ≤ n ∧ n ≤ 64 then ∃ cb kb ib eb, w.heap.size ≤ kb ∧ r = .returned (.tuple #[.pointer (some ⟨cb, 0, none⟩), .nilIface]) ∧ LcC w' cb kb ib eb id ⟨[], [], [], n.toNat⟩ else r = .returned (.tuple #[.pointer none, .iface 30 (.int .i64 1)])
set_option maxHeartbeats 1000000 in
theorem lcnew_at (n : Int) (w : World) : Calls Tryz.prog 5 #[.int .i64 n] w (LcNew n w) := by
  go_enter Tryz.func5, Tryz.ntmps5
  go_wp2_with fail
  refine (lnew_at n w).mono ?_
  rintro r w1 ⟨hb, h⟩
  by_cases hnn : 1 ≤ n ∧ n ≤ 64
  · rw [if_pos hnn] at h
    obtain ⟨rfl, hm⟩ := h
    have HB1 := Lib.hid hb
    have HM1 := Lib.hid hm
    have HNN := Lib.hid hnn
    obtain ⟨m, rfl⟩ := Int.eq_ofNat_of_zero_le (show 0 ≤ n by omega)
    have hlt := hm.lt
    clear hb hm hnn
    go_wp2_with fail
    refine (xnew_at (m : Int) w1).mono ?_
    rintro r w2 ⟨hb, h⟩
    rw [if_pos HNN.out] at h
    obtain ⟨rfl, hm⟩ := h
    have HB2 := Lib.hid hb
    have HM2 := Lib.hid hm
    have hlt2 := hm.lt
    obtain ⟨cs, hcl, hmk⟩ := make_ents m (by have := HNN.out; omega)
    have HMK := Lib.hid (hmk w2)
    have hmk2 := hmk w2
    obtain ⟨W3, hW3⟩ : ∃ W3, w2.alloc (.cells cs.toArray 56) = W3 := ⟨_, rfl⟩
    have hs3 : W3.heap.size = w2.heap.size + 1 := by rw [← hW3]; simp
    have h3 : Below w2.heap.size w2 W3 := by rw [← hW3]; exact (Below.refl _ _).alloc (Nat.le_refl _) _
    have hb3 : Blk W3 w2.heap.size 56 cs := by rw [← hW3]; exact heap_alloc_new w2 _
    rw [hW3] at hmk2
    have HE : Hid (LcNew (m : Int) w (.returned (.tuple #[.pointer (some ⟨W3.heap.size, 0, none⟩), .nilIface])) (W3.alloc (.cells #[.pointer (some ⟨w.heap.size, 0, none⟩), .pointer (some ⟨w1.heap.size, 0, none⟩), .slice (some ⟨w2.heap.size, 0, none⟩) m m] 76))) := Lib.hid (by
      have h4 : Below W3.heap.size W3 (W3.alloc (.cells #[.pointer (some ⟨w.heap.size, 0, none⟩), .pointer (some ⟨w1.heap.size, 0, none⟩), .slice (some ⟨w2.heap.size, 0, none⟩) m m] 76)) := (Below.refl _ _).alloc (Nat.le_refl _) _
      have h24 := below_all h3 h4
      refine ⟨below_all HB1.out (below_all HB2.out h24), ?_⟩
      rw [if_pos HNN.out]
      refine ⟨_, _, _, _, Nat.le_refl _, rfl, heap_alloc_new W3 _, ?_, ?_, ⟨cs, hb3.up h4 (by omega), hcl, fun e he => (by cases he)⟩, ⟨by omega, by omega, by omega⟩, ⟨List.Pairwise.nil, fun e he => (by cases he), List.nodup_nil, fun x => by simp, by simp, ?_, ?_⟩⟩
      · exact ((HM1.out.up HB2.out).up h24)
      · exact HM2.out.up h24
      · have := HNN.out
        show 1 ≤ (m : Int).toNat
        omega
      · have := HNN.out
        show (m : Int).toNat ≤ 64
        omega)
    rw [hs3] at HE
    clear hb hm hmk hcl h3 hb3 hW3 HB1 HM1 HB2 HM2 HMK
    go_wp2_with fail
    go_ret2
    exact HE.out
  · rw [if_neg hnn] at h
    obtain rfl := h
    have HE : Hid (LcNew n w (.returned (.tuple #[.pointer none, .iface 30 (.int .i64 1)])) w1) := Lib.hid ⟨hb, by rw [if_neg hnn]⟩
    clear hb hnn
    go_wp2_with fail
    go_ret2
    exact HE.out
section
variable {w : World} {cb kb ib eb : Nat} {σ : Nat → Nat} {S : CaS}
theorem lclen_at (h : LcC w cb kb ib eb σ S) : Calls Tryz.prog 10 #[.pointer (some ⟨cb, 0, none⟩)] w (IntIs (S.E.length : Int) w) := by
  have HX := Lib.hid (xlen_at h.x)
  have hl : (ixs σ S).L.length = S.E.length := prsE_len σ S.E
  rw [hl] at HX
  have g1 := h.cells.2.1
  clear h hl
  generalize S.E.length = n at *
  go_enter Tryz.func10, Tryz.ntmps10
  go_wp2_with fail
  refine HX.out.mono ?_
  rintro r w' ⟨rfl, rfl⟩
  go_wp2_with fail
  go_ret
  exact ⟨rfl, rfl⟩
/-- What Peek and Get tell. -/
def LPeekV (S : CaS) (x : Int) : Value := .tuple #[.int .u32 (S.addr x : Int), .bool (S.has x)]
def LPeekIs (S : CaS) (x : Int) (w : World) (r : Ending) (w' : World) : Prop := r = .returned (LPeekV S x) ∧ Below w.heap.size w w'
theorem has_at {S : CaS} {x : Int} (h : S.has x = true) : ∃ e ∈ S.E, (e.b : Int) = x ∧ atE S.E x = some e ∧ x.toNat = e.b := by
  obtain ⟨e, he⟩ := Option.isSome_iff_exists.1 h
  obtain ⟨hm, hb⟩ := atE_some he
  exact ⟨e, hm, hb, he, by omega⟩
theorem slotOf_yes {e : CE} {x : Int} (h : S.has x = true) (he : x.toNat = e.b) : slotOf σ S x = σ e.b := by
  unfold slotOf
  rw [if_pos h, he]
theorem slotOf_no {x : Int} (h : S.has x = false) : slotOf σ S x = 0 := by
  unfold slotOf
  rw [h]
  rfl
set_option maxHeartbeats 1000000 in
theorem lcpeek_at (x : Int) (h : LcC w cb kb ib eb σ S) : Calls Tryz.prog 22 #[.pointer (some ⟨cb, 0, none⟩), .int .i64 x] w (LPeekIs S x w) := by
  have HF := Lib.hid (lfindc_at x h)
  cases hh : S.has x with
  | false =>
    have HV : Hid (LPeekV S x = .tuple #[.int .u32 0, .bool false]) := Lib.hid (by unfold LPeekV; rw [hh, (CaS.addr_none hh).2.1]; rfl)
    unfold FindIs at HF
    rw [slotOf_no hh, hh] at HF
    clear h hh
    go_enter Tryz.func22, Tryz.ntmps22
    go_wp2_with fail
    refine HF.out.mono ?_
    rintro r w' ⟨rfl, hb⟩
    have HB := Lib.hid hb
    clear hb
    go_wp2_with fail
    go_ret2
    exact ⟨by rw [HV.out]; rfl, HB.out⟩
  | true =>
    obtain ⟨e, he, hb, ha, hn⟩ := has_at hh
    have HV : Hid (LPeekV S x = .tuple #[.int .u32 (e.a : Int), .bool true]) := Lib.hid (by unfold LPeekV; rw [(CaS.addr_of ha).1, hh])
    unfold FindIs at HF
    rw [slotOf_yes hh hn, hh] at HF
    have HH := Lib.hid h
    obtain ⟨hlt, _⟩ := h.slot he
    obtain ⟨s, hs⟩ : ∃ s, σ e.b = s := ⟨_, rfl⟩
    have HC : Hid (∀ u, LcC u cb kb ib eb σ S → u.cell? ⟨cb, 2, none⟩ = some (.slice (some ⟨eb, 0, none⟩) S.n S.n) ∧ u.cell? ⟨eb, s * 3 + 1, none⟩ = some (.int .u32 (e.a : Int))) := Lib.hid (fun u hu => ⟨hu.cells.2.2, by rw [← hs]; exact (hu.slot he).2.2.1⟩)
    rw [hs] at HF hlt
    have hn64 := h.wf.n64
    obtain ⟨n, hn'⟩ : ∃ n, S.n = n := ⟨_, rfl⟩
    rw [hn'] at hlt HC hn64
    clear h hh hb ha hn hs hn' he
    generalize e.a = y at *
    go_enter Tryz.func22, Tryz.ntmps22
    go_wp2_with fail
    refine HF.out.mono ?_
    rintro r w' ⟨rfl, hb⟩
    have HB := Lib.hid hb
    obtain ⟨c2, c1⟩ := HC.out _ (HH.out.up hb)
    clear hb HH HC HF
    go_wp2_with fail
    go_ret2
    exact ⟨by rw [HV.out]; rfl, HB.out⟩
theorem LcTo.of_below {w1 : World} {v : Value} {S' : CaS} {r : Ending} {w' : World} (hb : Below w.heap.size w w1) (h : LcTo cb kb ib eb v S' w1 r w') : LcTo cb kb ib eb v S' w r w' := ⟨h.1, h.2.1, (Kept.of_below hb).and h.2.2⟩
/-- The ranking is touched. -/
theorem LcC.use {w' : World} {e : CE} {x : Int} (h : LcC w cb kb ib eb σ S) (hh : S.has x = true) (he : e ∈ S.E) (hb : (e.b : Int) = x) (hm : RkM w' kb ((S.rk.map σ).touS (σ e.b : Int))) (hk : Kept (fun k => k = kb) w w') : LcC w' cb kb ib eb σ (S.useS x) := by
  have hinj : ∀ y ∈ S.rk.T ++ S.rk.K, σ y = σ e.b → y = e.b := CaS.inj_rk h.wf h.inj ⟨_, he, rfl⟩
  have hu : S.useS x = S.setR (S.rk.touS (e.b : Int)) := by
    unfold CaS.useS
    rw [hh, hb]
    rfl
  have hw := CaS.use_wf h.wf x
  rw [hu] at hw ⊢
  rw [RkS.map_touS hinj] at hm
  exact h.rank hk hm (RkS.n_tou _ _) hw
set_option maxHeartbeats 1000000 in
theorem lcget_at (x : Int) (h : LcC w cb kb ib eb σ S) : Calls Tryz.prog 30 #[.pointer (some ⟨cb, 0, none⟩), .int .i64 x] w (LcTo cb kb ib eb (LPeekV S x) (S.useS x) w) := by
  have HF := Lib.hid (lfindc_at x h)
  have HH := Lib.hid h
  cases hh : S.has x with
  | false =>
    have HE : Hid (∀ w', Below w.heap.size w w' → LcTo cb kb ib eb (LPeekV S x) (S.useS x) w (.returned (.tuple #[.int .u32 0, .bool false])) w') := Lib.hid (fun w' hb => by
      have hs : S.useS x = S := by unfold CaS.useS; rw [hh]; rfl
      rw [hs]
      exact ⟨by unfold LPeekV; rw [hh, (CaS.addr_none hh).2.1]; rfl, ⟨σ, h.up hb⟩, Kept.of_below hb⟩)
    unfold FindIs at HF
    rw [slotOf_no hh, hh] at HF
    clear h hh
    go_enter Tryz.func30, Tryz.ntmps30
    go_wp2_with fail
    refine HF.out.mono ?_
    rintro r w' ⟨rfl, hb⟩
    have HB := Lib.hid hb
    clear hb
    go_wp2_with fail
    go_ret2
    exact HE.out _ HB.out
  | true =>
    obtain ⟨e, he, hb, ha, hn⟩ := has_at hh
    unfold FindIs at HF
    rw [slotOf_yes hh hn, hh] at HF
    obtain ⟨hlt, _⟩ := h.slot he
    have hne := h.ne
    have HE : Hid (∀ w1, Below w.heap.size w w1 → ∀ w', RkM w' kb ((S.rk.map σ).touS (σ e.b : Int)) → Kept (fun k => k = kb) w1 w' → LcTo cb kb ib eb (LPeekV S x) (S.useS x) w (.returned (.tuple #[.int .u32 (e.a : Int), .bool true])) w' ∧ w'.cell? ⟨cb, 2, none⟩ = some (.slice (some ⟨eb, 0, none⟩) S.n S.n) ∧ w'.cell? ⟨eb, σ e.b * 3 + 1, none⟩ = some (.int .u32 (e.a : Int))) := Lib.hid (fun w1 hb1 w' hm hk => by
      have h1 := h.up hb1
      have h2 := h1.use hh he hb hm hk
      refine ⟨⟨by unfold LPeekV; rw [(CaS.addr_of ha).1, hh], ⟨σ, h2⟩, (Kept.of_below hb1).and (hk.mono (fun k _ e => .inl e))⟩, hk.cell h1.cells.2.2 (show ¬ cb = kb by omega), hk.cell (h1.slot he).2.2.1 (show ¬ eb = kb by omega)⟩)
    obtain ⟨s, hs⟩ : ∃ s, σ e.b = s := ⟨_, rfl⟩
    rw [hs] at HF hlt HE
    have hn64 := h.wf.n64
    obtain ⟨n, hn'⟩ : ∃ n, S.n = n := ⟨_, rfl⟩
    rw [hn'] at hlt HE hn64
    clear h hh hb ha hn hs hn' he hne
    generalize e.a = y at *
    generalize LPeekV S x = PV at *
    generalize S.useS x = S' at *
    go_enter Tryz.func30, Tryz.ntmps30
    go_wp2_with fail
    refine HF.out.mono ?_
    rintro r w1 ⟨rfl, hb⟩
    have HB := Lib.hid hb
    have c0 := (HH.out.up hb).cells.1
    have HT := Lib.hid (ltouch_at (s : Int) (HH.out.up hb).k)
    clear hb HH HF
    go_wp2_with fail
    refine HT.out.mono ?_
    rintro r w2 ⟨rfl, hm, hk⟩
    obtain ⟨h1, c2, c1⟩ := HE.out _ HB.out _ hm hk
    have HR := Lib.hid h1
    clear hm hk h1 HE HT HB c0
    go_wp2_with fail
    go_ret2
    exact HR.out
set_option maxHeartbeats 1000000 in
theorem lcmove_at (x : Int) (y : Nat) (h : LcC w cb kb ib eb σ S) : Calls Tryz.prog 24 #[.pointer (some ⟨cb, 0, none⟩), .int .i64 x, .int .u32 (y : Int)] w (LcTo cb kb ib eb (.bool (S.has x)) (S.moveS x y) w) := by
  have HF := Lib.hid (lfindc_at x h)
  have HH := Lib.hid h
  cases hh : S.has x with
  | false =>
    have HE : Hid (∀ w', Below w.heap.size w w' → LcTo cb kb ib eb (.bool false) (S.moveS x y) w (.returned (.bool false)) w') := Lib.hid (fun w' hb => by
      have hs : S.moveS x y = S := by
        unfold CaS.moveS setE
        have : S.E.map (fun e => if (e.b : Int) = x then { e with a := y } else e) = S.E := by
          conv => rhs; rw [← List.map_id S.E]
          refine List.map_congr_left fun e he => ?_
          rw [if_neg (CaS.has_no hh e he)]
          rfl
        rw [this]
      rw [hs]
      exact ⟨rfl, ⟨σ, h.up hb⟩, Kept.of_below hb⟩)
    unfold FindIs at HF
    rw [slotOf_no hh, hh] at HF
    clear h hh
    go_enter Tryz.func24, Tryz.ntmps24
    go_wp2_with fail
    refine HF.out.mono ?_
    rintro r w' ⟨rfl, hb⟩
    have HB := Lib.hid hb
    clear hb
    go_wp2_with fail
    go_ret
    exact HE.out _ HB.out
  | true =>
    obtain ⟨e, he, hb, ha, hn⟩ := has_at hh
    unfold FindIs at HF
    rw [slotOf_yes hh hn, hh] at HF
    obtain ⟨hlt, _⟩ := h.slot he
    have HE : Hid (∀ w1, Below w.heap.size w w1 → LcTo cb kb ib eb (.bool true) (S.moveS x y) w (.returned (.bool true)) (w1.setCell ⟨eb, σ e.b * 3 + 1, none⟩ (.int .u32 (y : Int)))) := Lib.hid (fun w1 hb1 => by
      have h1 := h.up hb1
      obtain ⟨cs, hbk, hl, hc⟩ := h1.e
      have hk := kept_put w1 eb (σ e.b * 3 + 1) (.int .u32 (y : Int))
      have hs := hc.set1 (y := y) (b := e.b) (fun z hz e2 => h1.inj z hz e he e2) ⟨e, he, rfl⟩
      rw [hb] at hs
      exact ⟨rfl, ⟨σ, h1.entries hk (hbk.put _ _) (by simpa using hl) hs (setE_b x (fun _ => rfl))⟩, (Kept.of_below hb1).and (hk.mono (fun k _ e => .inr (.inr e)))⟩)
    obtain ⟨s, hs⟩ : ∃ s, σ e.b = s := ⟨_, rfl⟩
    have HC : Hid (∀ u, LcC u cb kb ib eb σ S → u.cell? ⟨cb, 2, none⟩ = some (.slice (some ⟨eb, 0, none⟩) S.n S.n) ∧ u.cell? ⟨eb, s * 3 + 1, none⟩ = some (.int .u32 (e.a : Int)) ∧ u.frozen? ⟨eb, s * 3 + 1, none⟩ = false) := Lib.hid (fun u hu => ⟨hu.cells.2.2, by rw [← hs]; exact (hu.slot he).2.2.1, hu.free _⟩)
    rw [hs] at HF hlt HE
    have hn64 := h.wf.n64
    obtain ⟨n, hn'⟩ : ∃ n, S.n = n := ⟨_, rfl⟩
    rw [hn'] at hlt HC hn64
    clear h hh hb ha hn hs hn' he
    generalize e.a = y0 at *
    generalize S.moveS x y = S' at *
    go_enter Tryz.func24, Tryz.ntmps24
    go_wp2_with fail
    refine HF.out.mono ?_
    rintro r w1 ⟨rfl, hb⟩
    have HB := Lib.hid hb
    obtain ⟨c2, c1, cf⟩ := HC.out _ (HH.out.up hb)
    clear hb HH HC HF
    go_wp2_with fail
    go_ret
    exact HE.out _ HB.out
end
end Go.Proofs.YtajccmkdfmpapaaGreatDoor
namespace Go.Proofs.YtajccmkdfmpapaaGreatDoor
open Go.RowKit

def ceV (e : CE) : Value := .agg #[.int .i64 (e.b : Int), .int .u32 (e.a : Int), .bool e.d]
def vicF (S : CaS) : CE := S.vicE.getD ⟨0, 0, false⟩
def LVicIs (S : CaS) (w : World) (r : Ending) (w' : World) : Prop := r = .returned (.tuple #[ceV (vicF S), .bool S.vicE.isSome]) ∧ Below w.heap.size w w'
section
variable {w : World} {cb kb ib eb : Nat} {σ : Nat → Nat} {S : CaS}
set_option maxHeartbeats 1000000 in
theorem lcvictim_at (h : LcC w cb kb ib eb σ S) : Calls Tryz.prog 19 #[.pointer (some ⟨cb, 0, none⟩)] w (LVicIs S w) := by
  have hb0 : Below w.heap.size w (w.alloc (.cells #[.int .i64 0, .int .u32 0, .bool false] 56)) := (Below.refl _ _).alloc (Nat.le_refl _) _
  have HV := Lib.hid (lvictim_at (h.up hb0).k)
  have c0 := h.cells.1
  have hlt := h.lt
  cases hv : S.vicE with
  | none =>
    have hr : S.rk.vic = none := by rw [← CaS.vicE_vic h.wf, hv]; rfl
    have hm : (S.rk.map σ).vic = none := by rw [RkS.map_vic, hr]; rfl
    have hE : LVicIs S w (.returned (.tuple #[ceV ⟨0, 0, false⟩, .bool false])) (w.alloc (.cells #[.int .i64 0, .int .u32 0, .bool false] 56)) := ⟨by unfold vicF; rw [hv]; rfl, hb0⟩
    have HE := Lib.hid hE
    rw [show (S.rk.map σ).vicN = 0 by unfold RkS.vicN; rw [hm]; rfl, hm] at HV
    clear h hv hr hm hE hb0
    go_enter Tryz.func19, Tryz.ntmps19
    go_wp2_with fail
    refine HV.out.mono ?_
    rintro r w' ⟨rfl, rfl⟩
    go_wp2_with fail
    exact bodyPost_ret (v := .tuple #[.agg #[.int .i64 0, .int .u32 0, .bool false], .bool false]) (by simp [results, Tryz.results19, go_sem]) rfl HE.out
  | some e =>
    obtain ⟨he, ha, hh⟩ := CaS.vicE_mem hv
    have hr : S.rk.vic = some e.b := by rw [← CaS.vicE_vic h.wf, hv]; rfl
    have hm : (S.rk.map σ).vic = some (σ e.b) := by rw [RkS.map_vic, hr]; rfl
    have hE : ∀ w', Below w.heap.size w w' → LVicIs S w (.returned (.tuple #[ceV e, .bool true])) w' := fun w' hb => ⟨by unfold vicF; rw [hv]; rfl, hb⟩
    have HE := Lib.hid hE
    rw [show (S.rk.map σ).vicN = σ e.b by unfold RkS.vicN; rw [hm]; rfl, hm] at HV
    obtain ⟨hsl, e0, e1, e2⟩ := h.slot he
    have hel : eb < w.heap.size := by have := h.ne; omega
    have c2 := h.cells.2.2
    have hn64 := h.wf.n64
    obtain ⟨s, hs⟩ : ∃ s, σ e.b = s := ⟨_, rfl⟩
    obtain ⟨n, hn⟩ : ∃ n, S.n = n := ⟨_, rfl⟩
    obtain ⟨eb', heb⟩ : ∃ y, e.b = y := ⟨_, rfl⟩
    obtain ⟨ea', hea⟩ : ∃ y, e.a = y := ⟨_, rfl⟩
    obtain ⟨ed', hed⟩ : ∃ y, e.d = y := ⟨_, rfl⟩
    have hce : ceV e = .agg #[.int .i64 (eb' : Int), .int .u32 (ea' : Int), .bool ed'] := by unfold ceV; rw [heb, hea, hed]
    rw [hs] at HV hsl e0 e1 e2
    rw [hn] at hsl c2 hn64
    rw [heb] at e0
    rw [hea] at e1
    rw [hed] at e2
    rw [hce] at HE
    clear h hv hr hm hE hb0 ha hh he hce heb hea hed hs hn
    go_enter Tryz.func19, Tryz.ntmps19
    go_wp2_with fail
    refine HV.out.mono ?_
    rintro r w' ⟨rfl, rfl⟩
    go_wp2_with fail
    exact bodyPost_ret (v := .tuple #[.agg #[.int .i64 (eb' : Int), .int .u32 (ea' : Int), .bool ed'], .bool true]) (by simp [results, Tryz.results19, go_sem]) rfl (HE.out _ ((Below.refl _ _).alloc (Nat.le_refl _) _))
end
end Go.Proofs.YtajccmkdfmpapaaGreatDoor
namespace Go.Proofs.YtajccmkdfmpapaaGreatDoor
open Go.RowKit

theorem set3_off {cs : List Value} {k j : Nat} {u v t : Value} (h : j < k ∨ k + 2 < j) : (((cs.set k u).set (k + 1) v).set (k + 2) t)[j]? = cs[j]? := by
  rw [set_off (by omega), set_off (by omega), set_off (by omega)]
theorem set3_at {cs : List Value} {k : Nat} {u v t : Value} (h : k + 2 < cs.length) : (((cs.set k u).set (k + 1) v).set (k + 2) t)[k]? = some u ∧ (((cs.set k u).set (k + 1) v).set (k + 2) t)[k + 1]? = some v ∧ (((cs.set k u).set (k + 1) v).set (k + 2) t)[k + 2]? = some t := by
  refine ⟨?_, ?_, ?_⟩
  · rw [set_off (by omega), set_off (by omega), List.getElem?_set_self (by omega)]
  · rw [set_off (by omega), List.getElem?_set_self (by simp; omega)]
  · rw [List.getElem?_set_self (by simp; omega)]
/-- An entry is laid at a slot. -/
def put3 (w : World) (g s : Nat) (u v t : Value) : World := ((w.setCell ⟨g, s * 3, none⟩ u).setCell ⟨g, s * 3 + 1, none⟩ v).setCell ⟨g, s * 3 + 2, none⟩ t
theorem put3_kept (w : World) (g s : Nat) (u v t : Value) : Kept (fun k => k = g) w (put3 w g s u v t) := (((Kept.refl (fun k => k = g) w).put (.inl rfl) _ u).put (.inl rfl) _ v).put (.inl rfl) _ t
theorem put3_blk {w : World} {g : Nat} {T : TypeId} {cs : List Value} (h : Blk w g T cs) (s : Nat) (u v t : Value) : Blk (put3 w g s u v t) g T (((cs.set (s * 3) u).set (s * 3 + 1) v).set (s * 3 + 2) t) := ((h.put _ u).put _ v).put _ t
section
variable {w w1 w2 w' : World} {cb kb ib eb : Nat} {σ : Nat → Nat} {S : CaS}
theorem LcC.dropped {e : CE} {x : Int} {u v t : Value} (h : LcC w cb kb ib eb σ S) (hh : S.has x = true) (he : e ∈ S.E) (hb : (e.b : Int) = x) (hx : IxM w1 ib ((ixs σ S).dropS e.b)) (hk1 : Kept (fun k => k = ib) w w1) (hr : RkM w2 kb ((S.rk.map σ).remS (σ e.b : Int))) (hk2 : Kept (fun k => k = kb) w1 w2) :
    LcC (put3 w2 eb (σ e.b) u v t) cb kb ib eb σ (S.dropS x) ∧ Kept (lcF kb ib eb) w (put3 w2 eb (σ e.b) u v t) := by
  have hne := h.ne
  have hinj : ∀ y ∈ S.rk.T ++ S.rk.K, σ y = σ e.b → y = e.b := CaS.inj_rk h.wf h.inj ⟨_, he, rfl⟩
  have hk3 := put3_kept w2 eb (σ e.b) u v t
  have hwf := CaS.drop_wf h.wf x
  have hS : S.dropS x = ({ S with E := dropE S.E x } : CaS).setR (S.rk.remS x) := by
    unfold CaS.dropS
    rw [if_pos hh]
  rw [hS] at hwf ⊢
  have hkk : Kept (fun k => k = ib ∨ k = kb ∨ k = eb) w (put3 w2 eb (σ e.b) u v t) := ((hk1.mono (fun k _ e => .inl e)).and (hk2.mono (fun k _ e => .inr (.inl e)))).and (hk3.mono (fun k _ e => .inr (.inr e)))
  have hrn := RkS.n_rem S.rk x
  obtain ⟨cs, hbk, hl, hc⟩ := h.e
  rw [RkS.map_remS hinj, hb] at hr
  refine ⟨⟨hkk.blk h.b (by omega), ?_, ?_, ⟨_, put3_blk ((hk1.blk hbk (by omega)) |> fun z => hk2.blk z (by omega)) _ u v t, (by show _ = S.n * 3; simpa using hl), ?_⟩, hne, hwf⟩, hkk.mono (fun k _ e => by unfold lcF; omega)⟩
  · have : (({ S with E := dropE S.E x } : CaS).setR (S.rk.remS x)).rk = S.rk.remS x := by
      unfold CaS.setR CaS.rk at *
      generalize (RkS.mk S.T S.K S.n).remS x = R at *
      cases R
      simp at hrn
      subst hrn
      rfl
    rw [this]
    exact hr.keep hk3 (by omega)
  · have : ixs σ (({ S with E := dropE S.E x } : CaS).setR (S.rk.remS x)) = (ixs σ S).dropS e.b := by
      unfold ixs IxS.dropS
      simp only [prsE_drop, hb]
      rfl
    rw [this]
    exact (hx.keep hk2 (by omega)).keep hk3 (by omega)
  · intro z hz
    obtain ⟨hz1, hz2⟩ := dropE_mem.1 hz
    have hne2 : σ z.b ≠ σ e.b := fun e2 => hz2 (by rw [h.inj z hz1 e he e2]; exact hb)
    obtain ⟨c0, c1, c2⟩ := hc z hz1
    exact ⟨by rw [set3_off (by omega)]; exact c0, by rw [set3_off (by omega)]; exact c1, by rw [set3_off (by omega)]; exact c2⟩
set_option maxHeartbeats 1000000 in
theorem lcdrop_at (x : Int) (h : LcC w cb kb ib eb σ S) : Calls Tryz.prog 25 #[.pointer (some ⟨cb, 0, none⟩), .int .i64 x] w (LcTo cb kb ib eb (.bool (S.has x)) (S.dropS x) w) := by
  have HF := Lib.hid (lfindc_at x h)
  have HH := Lib.hid h
  cases hh : S.has x with
  | false =>
    have HE : Hid (∀ w', Below w.heap.size w w' → LcTo cb kb ib eb (.bool false) (S.dropS x) w (.returned (.bool false)) w') := Lib.hid (fun w' hb => by
      have hs : S.dropS x = S := by unfold CaS.dropS; rw [hh]; rfl
      rw [hs]
      exact ⟨rfl, ⟨σ, h.up hb⟩, Kept.of_below hb⟩)
    unfold FindIs at HF
    rw [slotOf_no hh, hh] at HF
    clear h hh
    go_enter Tryz.func25, Tryz.ntmps25
    go_wp2_with fail
    refine HF.out.mono ?_
    rintro r w' ⟨rfl, hb⟩
    have HB := Lib.hid hb
    clear hb
    go_wp2_with fail
    go_ret
    exact HE.out _ HB.out
  | true =>
    obtain ⟨e, he, hb, ha, hn⟩ := has_at hh
    unfold FindIs at HF
    rw [slotOf_yes hh hn, hh] at HF
    obtain ⟨hlt, _⟩ := h.slot he
    have hne := h.ne
    obtain ⟨b, heb⟩ : ∃ b, e.b = b := ⟨_, rfl⟩
    have h64 : b < 64 := by rw [← heb]; exact h.wf.b64 e he
    have HE : Hid (∀ w1, Below w.heap.size w w1 → ∀ w2, IxM w2 ib ((ixs σ S).dropS b) → Kept (fun k => k = ib) w1 w2 → ∀ w3, RkM w3 kb ((S.rk.map σ).remS (σ b : Int)) → Kept (fun k => k = kb) w2 w3 → ∀ u v t, LcTo cb kb ib eb (.bool true) (S.dropS x) w (.returned (.bool true)) (put3 w3 eb (σ b) u v t)) := Lib.hid (fun w1 hb1 w2 hx hk1 w3 hr hk2 u v t => by
      subst heb
      have := (h.up hb1).dropped (u := u) (v := v) (t := t) hh he hb hx hk1 hr hk2
      exact ⟨rfl, ⟨σ, this.1⟩, (Kept.of_below hb1).and this.2⟩)
    have HC1 : Hid (∀ w1, Below w.heap.size w w1 → w1.cell? ⟨cb, 1, none⟩ = some (.pointer (some ⟨ib, 0, none⟩)) ∧ IxM w1 ib (ixs σ S)) := Lib.hid (fun w1 hb1 => ⟨(h.up hb1).cells.2.1, (h.up hb1).x⟩)
    have HC2 : Hid (∀ w1, Below w.heap.size w w1 → ∀ w2, Kept (fun k => k = ib) w1 w2 → w2.cell? ⟨cb, 0, none⟩ = some (.pointer (some ⟨kb, 0, none⟩)) ∧ RkM w2 kb (S.rk.map σ)) := Lib.hid (fun w1 hb1 w2 hk1 => ⟨hk1.cell (h.up hb1).cells.1 (show ¬ cb = ib by omega), (h.up hb1).k.keep hk1 (by omega)⟩)
    obtain ⟨s, hs⟩ : ∃ s, σ e.b = s := ⟨_, rfl⟩
    have HC3 : Hid (∀ w1, Below w.heap.size w w1 → ∀ w2, Kept (fun k => k = ib) w1 w2 → ∀ w3, Kept (fun k => k = kb) w2 w3 → w3.cell? ⟨cb, 2, none⟩ = some (.slice (some ⟨eb, 0, none⟩) S.n S.n) ∧ w3.cell? ⟨eb, s * 3, none⟩ = some (.int .i64 (b : Int)) ∧ w3.cell? ⟨eb, s * 3 + 1, none⟩ = some (.int .u32 (e.a : Int)) ∧ w3.cell? ⟨eb, s * 3 + 2, none⟩ = some (.bool e.d) ∧ ∀ i, w3.frozen? ⟨eb, i, none⟩ = false) := Lib.hid (fun w1 hb1 w2 hk1 w3 hk2 => by
      have h1 := h.up hb1
      obtain ⟨_, c0, c1, c2⟩ := h1.slot he
      rw [hs] at c0 c1 c2
      rw [heb] at c0
      have hkk : Kept (fun k => k = ib ∨ k = kb) w1 w3 := (hk1.mono (fun k _ e => .inl e)).and (hk2.mono (fun k _ e => .inr e))
      obtain ⟨cs, hbk, _⟩ := h1.e
      exact ⟨hkk.cell h1.cells.2.2 (show ¬ (cb = ib ∨ cb = kb) by omega), hkk.cell c0 (show ¬ (eb = ib ∨ eb = kb) by omega), hkk.cell c1 (show ¬ (eb = ib ∨ eb = kb) by omega), hkk.cell c2 (show ¬ (eb = ib ∨ eb = kb) by omega), fun i => (hkk.blk hbk (by omega)).free i⟩)
    rw [hs] at HF hlt
    rw [heb] at hs
    rw [hs] at HE
    rw [heb] at hb
    have hn64 := h.wf.n64
    obtain ⟨n, hn'⟩ : ∃ n, S.n = n := ⟨_, rfl⟩
    rw [hn'] at hlt HC3 hn64
    generalize e.a = y0 at *
    generalize e.d = d0 at *
    have hw : IntKind.u32.wrap (b : Int) = (b : Int) := by
      rw [IntKind.wrap_u32]
      omega
    have HR2 : Hid (∀ w1, IxM w1 ib (ixs σ S) → Calls Tryz.prog 48 #[.pointer (some ⟨ib, 0, none⟩), .int .u32 (b : Int)] w1 (IxTo ib ((ixs σ S).has b) ((ixs σ S).dropS b) w1)) := Lib.hid (fun w1 h1 => xdrop_at b h1)
    have HR3 : Hid (∀ w1, RkM w1 kb (S.rk.map σ) → Calls Tryz.prog 49 #[.pointer (some ⟨kb, 0, none⟩), .int .i64 (s : Int)] w1 (RkTo kb ((S.rk.map σ).has (s : Int)) ((S.rk.map σ).remS (s : Int)) w1)) := Lib.hid (fun w1 h1 => lremove_at (s : Int) h1)
    subst hb
    clear h hh ha hn hn' he hne heb hs HH
    go_enter Tryz.func25, Tryz.ntmps25
    go_wp2_with fail
    refine HF.out.mono ?_
    rintro r w1 ⟨rfl, hb⟩
    have HB := Lib.hid hb
    obtain ⟨g1, hx1⟩ := HC1.out _ hb
    have HX := Lib.hid (HR2.out _ hx1)
    clear hb hx1 HF HC1 HR2
    go_wp2_with fail
    refine HX.out.mono ?_
    rintro r w2 ⟨rfl, hx2, hk2⟩
    have HX2 := Lib.hid hx2
    have HK2 := Lib.hid hk2
    obtain ⟨g0, hr2⟩ := HC2.out _ HB.out _ hk2
    have HR := Lib.hid (HR3.out _ hr2)
    clear hx2 hk2 hr2 HX HC2 HR3 g1
    generalize (ixs σ S).has b = q1
    go_wp2_with fail
    refine HR.out.mono ?_
    rintro r w3 ⟨rfl, hr3, hk3⟩
    obtain ⟨c2, e0, e1, e2, ef⟩ := HC3.out _ HB.out _ HK2.out _ hk3
    have f0 := ef (s * 3)
    have f1 := ef (s * 3 + 1)
    have f2 := ef (s * 3 + 2)
    have HEE := Lib.hid (HE.out _ HB.out _ HX2.out HK2.out _ hr3 hk3)
    unfold put3 at HEE
    clear hr3 hk3 HR HC3 HE HB HX2 HK2 g0 ef
    generalize (S.rk.map σ).has (s : Int) = q2
    go_wp2_with fail
    go_ret
    exact HEE.out _ _ _
end
end Go.Proofs.YtajccmkdfmpapaaGreatDoor
namespace Go.Proofs.YtajccmkdfmpapaaGreatDoor
open Go.RowKit

theorem setE_twice {L : List CE} {x : Int} {f g : CE → CE} (hf : ∀ e, (f e).b = e.b) : setE (setE L x f) x g = setE L x (fun e => g (f e)) := by
  unfold setE
  rw [List.map_map]
  refine List.map_congr_left fun e _ => ?_
  simp only [Function.comp]
  by_cases h : (e.b : Int) = x
  · rw [if_pos h, if_pos (by rw [hf]; exact h), if_pos h]
  · rw [if_neg h, if_neg h, if_neg h]
namespace CaS
variable {S : CaS}
/-- A new entry. -/
def newS (S : CaS) (b a : Nat) (d : Bool) : CaS := { S with E := insE S.E ⟨b, a, d⟩, T := b :: S.T }
theorem put_new {b a : Nat} {d : Bool} (hh : S.has (b : Int) = false) (h64 : b < 64) (hl : S.E.length < S.n) : S.putS (b : Int) a d = S.newS b a d ∧ S.putB (b : Int) = true := by
  have hp : S.putB (b : Int) = true := by
    unfold putB
    rw [hh]
    simp
    omega
  refine ⟨?_, hp⟩
  unfold putS newS
  rw [if_neg (by simp [hh]), if_pos hp]
  rfl
theorem put_no {x : Int} {a : Nat} {d : Bool} (hh : S.has x = false) (hp : S.putB x = false) : S.putS x a d = S := by
  unfold putS
  rw [if_neg (by simp [hh]), if_neg (by simp [hp])]
/-- Some slot is free. -/
theorem free_room {σ : Nat → Nat} (hw : S.WF) (hr : (S.rk.map σ).WF) {s : Nat} (hs : s < S.n) (hno : (S.rk.map σ).has (s : Int) = false) : S.E.length < S.n := by
  have hnd := hr.nd
  have hnd : (S.T.map σ ++ S.K.map σ).Nodup := hnd
  have hns : s ∉ S.T.map σ ++ S.K.map σ := fun hm => by
    rw [RkS.has_of_mem (S := S.rk.map σ) hm] at hno
    cases hno
  have h1 : (s :: (S.T.map σ ++ S.K.map σ)).Nodup := List.nodup_cons.2 ⟨hns, hnd⟩
  have h2 := nd_sub (ys := List.range S.n) h1 (fun z hz => by
    rcases List.mem_cons.1 hz with rfl | hz
    · simpa using hs
    · have : z < S.n := hr.lt z hz
      simpa using this)
  have h3 : (S.T.map σ ++ S.K.map σ).length = S.E.length := by
    rw [← rk_len hw]
    simp
  simp only [List.length_cons, List.length_range] at h2
  omega
end CaS
section
variable {w w1 w2 w' : World} {cb kb ib eb : Nat} {σ : Nat → Nat} {S : CaS}
/-- Behind Insert, the index' Put, and the entry's store. -/
theorem LcC.put_in {b s a : Nat} {d : Bool} (h : LcC w cb kb ib eb σ S) (hh : S.has (b : Int) = false) (h64 : b < 64) (hs : s < S.n) (hno : (S.rk.map σ).has (s : Int) = false)
    (hr : RkM w1 kb ((S.rk.map σ).insS (s : Int))) (hk1 : Kept (fun k => k = kb) w w1) (hx : IxM w2 ib ((ixs σ S).putS b (s : Int))) (hk2 : Kept (fun k => k = ib) w1 w2) :
    LcC (put3 w2 eb s (.int .i64 (b : Int)) (.int .u32 (a : Int)) (.bool d)) cb kb ib eb (upd σ b s) (S.newS b a d) ∧ Kept (lcF kb ib eb) w (put3 w2 eb s (.int .i64 (b : Int)) (.int .u32 (a : Int)) (.bool d)) := by
  have hne := h.ne
  have hk3 := put3_kept w2 eb s (.int .i64 (b : Int)) (.int .u32 (a : Int)) (.bool d)
  have hnb : ∀ e ∈ S.E, e.b ≠ b := fun e he e2 => CaS.has_no hh e he (by omega)
  have hl := CaS.free_room h.wf h.k.2 hs hno
  have hpn := CaS.put_new (a := a) (d := d) hh h64 hl
  have hwf := CaS.put_wf h.wf (b : Int) a d
  rw [hpn.1] at hwf
  have hkk : Kept (fun k => k = kb ∨ k = ib ∨ k = eb) w (put3 w2 eb s (.int .i64 (b : Int)) (.int .u32 (a : Int)) (.bool d)) := ((hk1.mono (fun k _ e => .inl e)).and (hk2.mono (fun k _ e => .inr (.inl e)))).and (hk3.mono (fun k _ e => .inr (.inr e)))
  obtain ⟨cs, hbk, hcl, hc⟩ := h.e
  rw [CaS.map_new h.wf hnb hs hno] at hr
  refine ⟨⟨hkk.blk h.b (by omega), ?_, ?_, ⟨_, put3_blk ((hk1.blk hbk (by omega)) |> fun z => hk2.blk z (by omega)) _ _ _ _, (by show _ = S.n * 3; simpa using hcl), ?_⟩, hne, hwf⟩, hkk.mono (fun k _ e => by unfold lcF; omega)⟩
  · exact ((hr.keep hk2 (by omega)).keep hk3 (by omega))
  · have : ixs (upd σ b s) (S.newS b a d) = (ixs σ S).putS b (s : Int) := by
      have hpb : (ixs σ S).putB b = true := by
        unfold IxS.putB
        have : (ixs σ S).L.length = S.E.length := prsE_len σ S.E
        rw [this]
        simp
        exact .inr hl
      unfold IxS.putS
      rw [if_pos hpb]
      unfold ixs CaS.newS
      simp only
      unfold putL
      rw [dropL_not (fun e he => by
        obtain ⟨z, hz, rfl⟩ := List.mem_map.1 he
        exact hnb z hz), ← prsE_upd (b := b) (s := s) hnb]
      have := prsE_ins (upd σ b s) ⟨b, a, d⟩ S.E
      rw [← this]
      simp only [upd_same]
    rw [this]
    exact hx.keep hk3 (by omega)
  · intro z hz
    rcases insE_mem.1 hz with rfl | hz
    · simp only [upd_same]
      exact set3_at (by omega)
    · rw [upd_ne (hnb z hz)]
      have hne2 : σ z.b ≠ s := fun e2 => by
        have h2 : s ∈ (S.rk.map σ).T ++ (S.rk.map σ).K := by
          show s ∈ S.T.map σ ++ S.K.map σ
          rw [← List.map_append, ← e2]
          exact List.mem_map_of_mem ((h.wf.mem z.b).2 ⟨z, hz, rfl⟩)
        rw [RkS.has_of_mem h2] at hno
        cases hno
      obtain ⟨c0, c1, c2⟩ := hc z hz
      exact ⟨by rw [set3_off (by omega)]; exact c0, by rw [set3_off (by omega)]; exact c1, by rw [set3_off (by omega)]; exact c2⟩
/-- A slot that is taken is not inserted. -/
theorem LcC.no_ins {s : Nat} (h : LcC w cb kb ib eb σ S) (hs : s < S.n) (hno : (S.rk.map σ).has (s : Int) = true) (hr : RkM w1 kb ((S.rk.map σ).insS (s : Int))) (hk1 : Kept (fun k => k = kb) w w1) : LcC w1 cb kb ib eb σ S := by
  have hi : (S.rk.map σ).insB (s : Int) = false := by
    unfold RkS.insB
    rw [hno]
    simp
  have : (S.rk.map σ).insS (s : Int) = S.rk.map σ := by
    unfold RkS.insS
    rw [hi]
    rfl
  rw [this] at hr
  exact h.rank (R := S.rk) hk1 hr rfl h.wf
theorem insB_slot {R : RkS} {s : Nat} (hs : s < R.n) : R.insB (s : Int) = !R.has (s : Int) := by
  unfold RkS.insB
  simp [hs]
end
end Go.Proofs.YtajccmkdfmpapaaGreatDoor
