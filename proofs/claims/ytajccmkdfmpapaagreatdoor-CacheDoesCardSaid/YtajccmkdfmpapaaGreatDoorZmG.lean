/-
  The document's cache in memory: what it is, what keeps it.
  The document's cache in memory: find, Peek, Get, Move.
  The document's cache in memory: New; rows by what was there when they were made.
  The document's cache in memory: Get.
-/
import Derived.Test.YtajccmkdfmpapaaGreatDoorZmC
import Derived.Test.YtajccmkdfmpapaaGreatDoorZmF
namespace Go.Proofs.YtajccmkdfmpapaaGreatDoor
open Go.RowKit

/-- Slots of entries. -/
def slotsE (σ : Nat → Nat) (L : List CE) : List Nat := L.map (fun e => σ e.b)
/-- Block rc is the document's cache S, kb its ranking; σ tells blocks' slots. -/
structure RcC (Y : Nat → Prop) (w : World) (rc kb : Nat) (vL vS : Value) (σ : Nat → Nat) (S : CaS) : Prop where
  b : Blk w rc 46 [vL, vS, .pointer (some ⟨kb, 0, none⟩), .int .i64 (S.n : Int)]
  l : OwnK w 0 59 3 vL S.E.length (cesC S.E)
  s : RowF (fun k => k ≠ rc ∧ k ≠ kb ∧ vL.ownBlock ≠ some k ∧ Y k) w vS (iCells (nats (slotsE σ S.E)))
  k : RefM w (fun k => k ≠ rc ∧ vL.ownBlock ≠ some k ∧ Y k) kb (S.rk.map σ)
  ne : rc ≠ kb
  own : ∀ j, vL.ownBlock = some j → j ≠ rc ∧ j ≠ kb ∧ Y j
  inj : ∀ x ∈ S.E, ∀ y ∈ S.E, σ x.b = σ y.b → x.b = y.b
  wf : S.WF
/-- What may change in place. -/
def rcF (rc kb : Nat) (vL : Value) : Nat → Prop := fun k => k = rc ∨ k = kb ∨ vL.ownBlock = some k
section
variable {w w' : World} {Y : Nat → Prop} {rc kb : Nat} {vL vS : Value} {σ : Nat → Nat} {S : CaS}
theorem RcC.up (h : RcC Y w rc kb vL vS σ S) (hb : Below w.heap.size w w') : RcC Y w' rc kb vL vS σ S := ⟨h.b.up hb (lt_of_block h.b), h.l.up hb, h.s.up hb, h.k.up hb, h.ne, h.own, h.inj, h.wf⟩
theorem RefM.new {base : Nat → Prop} {rb : Nat} {R : RkS} (h : RefM w base rb R) : ∀ k, w.heap.size ≤ k → base k := by
  obtain ⟨⟨vT, vK, hr⟩, _⟩ := h
  exact hr.2.2.2
theorem RefM.lt {base : Nat → Prop} {rb : Nat} {R : RkS} (h : RefM w base rb R) : rb < w.heap.size := by
  obtain ⟨⟨vT, vK, hr⟩, hw⟩ := h
  exact lt_of_block hr.1
theorem RcC.lt (h : RcC Y w rc kb vL vS σ S) : rc < w.heap.size ∧ kb < w.heap.size ∧ ∀ j, vL.ownBlock = some j → j < w.heap.size := ⟨lt_of_block h.b, h.k.lt, h.l.blockLt⟩
theorem RcC.cells (h : RcC Y w rc kb vL vS σ S) : w.cell? ⟨rc, 0, none⟩ = some vL ∧ w.cell? ⟨rc, 1, none⟩ = some vS ∧ w.cell? ⟨rc, 2, none⟩ = some (.pointer (some ⟨kb, 0, none⟩)) ∧ w.cell? ⟨rc, 3, none⟩ = some (.int .i64 (S.n : Int)) := ⟨h.b.cell 0 (by simp), h.b.cell 1 (by simp), h.b.cell 2 (by simp), h.b.cell 3 (by simp)⟩
theorem RcC.lens (h : RcC Y w rc kb vL vS σ S) : S.E.length ≤ 64 ∧ S.n ≤ 64 := ⟨Nat.le_trans h.wf.le h.wf.n64, h.wf.n64⟩
/-- The ranking alone was changed. -/
theorem RcC.rank {R : RkS} (h : RcC Y w rc kb vL vS σ S) (hk : Kept (fun k => k = kb) w w') (hr : RefM w' (fun k => k ≠ rc ∧ vL.ownBlock ≠ some k ∧ Y k) kb (R.map σ)) (hn : R.n = S.n) (hw : (S.setR R).WF) : RcC Y w' rc kb vL vS σ (S.setR R) := by
  have ho := h.own
  have hR : (S.setR R).rk = R := by
    cases R
    subst hn
    rfl
  refine ⟨hk.blk h.b h.ne, ?_, h.s.keep hk (fun k e e2 => e.2.1 e2), by rw [hR]; exact hr, h.ne, ho, h.inj, hw⟩
  have hl := h.l
  refine ⟨hl.1, hl.2.imp id fun ⟨g, c, cur, hv, hb, hg, r⟩ => ⟨g, c, cur, hv, hb, (hk.block g (lt_of_block hg) (fun e => ?_)).trans hg, r⟩⟩
  subst hv
  exact (ho g rfl).2.1 e
/-- Entries alone were changed, in place. -/
theorem RcC.entries {L : List CE} (h : RcC Y w rc kb vL vS σ S) (hk : Kept (fun k => vL.ownBlock = some k) w w') (hl : OwnK w' 0 59 3 vL L.length (cesC L)) (hb : L.map CE.b = S.E.map CE.b) : RcC Y w' rc kb vL vS σ { S with E := L } := by
  have ho := h.own
  have hm : slotsE σ L = slotsE σ S.E := by
    have := congrArg (List.map σ) hb
    rw [List.map_map, List.map_map] at this
    exact this
  refine ⟨hk.blk h.b (fun e => (ho _ e).1 rfl), hl, ?_, h.k.keep hk (fun e => (ho _ e).2.1 rfl) (fun k e e2 => e2.2.1 e), h.ne, ho, ?_, CaS.set_wf h.wf hb⟩
  · show RowF _ _ _ (iCells (nats (slotsE σ L)))
    rw [hm]
    exact h.s.keep hk (fun k e e2 => e.2.2.1 e2)
  · intro x hx y hy e
    have hmem : ∀ z ∈ L, ∃ z' ∈ S.E, z'.b = z.b := fun z hz => by
      have : z.b ∈ S.E.map CE.b := by rw [← hb]; exact List.mem_map_of_mem hz
      simpa using this
    obtain ⟨x', hx', ex⟩ := hmem x hx
    obtain ⟨y', hy', ey⟩ := hmem y hy
    rw [← ex, ← ey] at e ⊢
    exact h.inj x' hx' y' hy' e
end
/-- Where a block stands, as the document's find tells it. -/
def fz (L : List CE) (x : Int) : Int := ((idxE L x).map (fun i => (i : Int))).getD (-1)
theorem fz_yes {L : List CE} {x : Int} {i : Nat} (hi : i < L.length) (hn : ∀ j (hj : j < i), (L[j].b : Int) ≠ x) (he : (L[i].b : Int) = x) : fz L x = (i : Int) := by
  have : idxE L x = some i := by
    unfold idxE
    rw [List.findIdx?_eq_some_iff_getElem]
    exact ⟨hi, by simpa using he, fun j hj => by simpa using hn j hj⟩
  unfold fz
  rw [this]
  rfl
theorem fz_no {L : List CE} {x : Int} (hn : ∀ j (hj : j < L.length), (L[j].b : Int) ≠ x) : fz L x = -1 := by
  have : idxE L x = none := by
    unfold idxE
    rw [List.findIdx?_eq_none_iff]
    intro e he
    obtain ⟨j, hj, rfl⟩ := List.getElem_of_mem he
    simpa using hn j hj
  unfold fz
  rw [this]
  rfl
theorem fz_has {S : CaS} {x : Int} (h : S.has x = true) : ∃ i, ∃ hi : i < S.E.length, fz S.E x = (i : Int) ∧ (S.E[i].b : Int) = x ∧ atE S.E x = some S.E[i] := by
  obtain ⟨e, he, hx⟩ := CaS.has_mem h
  cases hc : idxE S.E x with
  | none =>
    unfold idxE at hc
    rw [List.findIdx?_eq_none_iff] at hc
    have := hc e he
    simp [hx] at this
  | some i =>
    have h2 := hc
    unfold idxE at h2
    rw [List.findIdx?_eq_some_iff_getElem] at h2
    obtain ⟨hi, hp, hn⟩ := h2
    refine ⟨i, hi, ?_, by simpa using hp, atE_idx (fun j hj hl => by simpa using hn j hj) hi (by simpa using hp)⟩
    unfold fz
    rw [hc]
    rfl
theorem fz_not {S : CaS} {x : Int} (h : S.has x = false) : fz S.E x = -1 := fz_no (fun j hj => CaS.has_no h _ (List.getElem_mem hj))
end Go.Proofs.YtajccmkdfmpapaaGreatDoor
namespace Go.Proofs.YtajccmkdfmpapaaGreatDoor
open Go.RowKit

section
variable {w : World} {Y : Nat → Prop} {rc kb : Nat} {vL vS : Value} {σ : Nat → Nat} {S : CaS}
set_option maxHeartbeats 1000000 in
theorem cfind_at (x : Int) (h : RcC Y w rc kb vL vS σ S) : Calls Tryz.prog 54 #[.pointer (some ⟨rc, 0, none⟩), .int .i64 x] w (fun r w' => r = .returned (.int .i64 (fz S.E x)) ∧ w = w') := by
  obtain ⟨A, c, rfl, hnc, _, _⟩ := h.l.form
  have HR := Lib.hid h.l.rd
  have hl := h.lens.1
  have g0 := h.cells.1
  obtain ⟨n, hn⟩ : ∃ n, S.E.length = n := ⟨_, rfl⟩
  have HN := Lib.hid hn
  rw [hn] at g0 hl
  clear h hnc hn
  go_enter Tryz.func54, Tryz.ntmps54
  go_wp2_with fail
  go_loopg [5] n (fun q y wr => ∃ i : Nat, i ≤ n ∧ q = n - i ∧ y = .int .i64 (i : Int) ∧ (∀ j (hj : j < i) (hl : j < S.E.length), (S.E[j].b : Int) ≠ x) ∧ w = wr)
  case atStart => exact ⟨0, by omega, rfl, rfl, fun j hj => by omega, rfl⟩
  case round =>
    obtain ⟨i, hi, hq, rfl, hno, rfl⟩ := hrel
    have HQ := Lib.hid hq
    have HNO := Lib.hid hno
    clear hq hno
    by_cases hlt : i < n
    · have hll : i < S.E.length := by rw [HN.out]; exact hlt
      obtain ⟨b, o, rfl, _, hcell⟩ := HR.out (by rw [cesC_len, HN.out]; omega)
      obtain ⟨c0, c1, c2⟩ := ces_cells hcell i hll
      by_cases he : (S.E[i].b : Int) = x
      · have HG : Hid (fz S.E x = (i : Int)) := Lib.hid (fz_yes hll (fun j hj => HNO.out j hj (by omega)) he)
        rw [he] at c0
        have q : (x == x) = true := by simp
        clear hcell he HNO c1 c2
        go_wp2_with fail
        go_ret
        exact ⟨by rw [HG.out]; rfl, rfl⟩
      · have HNO2 : Hid (∀ j (hj : j < i + 1) (hl : j < S.E.length), (S.E[j].b : Int) ≠ x) := Lib.hid (fun j hj hl => by
          by_cases e : j = i
          · subst e
            exact he
          · exact HNO.out j (by omega) hl)
        have q : ((S.E[i].b : Int) == x) = false := by simpa using he
        generalize S.E[i].b = y at *
        clear hcell he HNO c1 c2
        go_wp2_with fail
        go_roundg (n - (i + 1))
        case rel => exact ⟨i + 1, by omega, rfl, by go_num, HNO2.out, rfl⟩
        case measure => have := HQ.out; omega
    · have HG : Hid (fz S.E x = -1) := Lib.hid (fz_no (fun j hj => HNO.out j (by have := HN.out; omega) hj))
      go_wp2_with fail
      go_ret
      exact ⟨by rw [HG.out]; rfl, rfl⟩
/-- What Peek and Get tell. -/
def PeekV (S : CaS) (x : Int) : Value := .tuple #[.int .u32 (S.addr x : Int), .bool (S.has x)]
theorem addr_at {i : Nat} {x : Int} (hi : i < S.E.length) (h : atE S.E x = some S.E[i]) : S.addr x = S.E[i].a ∧ S.has x = true := by
  unfold CaS.addr CaS.has
  rw [h]
  exact ⟨rfl, rfl⟩
theorem addr_no {x : Int} (h : S.has x = false) : S.addr x = 0 := by
  unfold CaS.addr
  have : atE S.E x = none := by simpa [CaS.has] using h
  rw [this]
  rfl
set_option maxHeartbeats 1000000 in
theorem cpeek_at (x : Int) (h : RcC Y w rc kb vL vS σ S) : Calls Tryz.prog 36 #[.pointer (some ⟨rc, 0, none⟩), .int .i64 x] w (fun r w' => r = .returned (PeekV S x) ∧ w = w') := by
  have HF := Lib.hid (cfind_at x h)
  cases hh : S.has x with
  | false =>
    have HV : Hid (PeekV S x = .tuple #[.int .u32 0, .bool false]) := Lib.hid (by unfold PeekV; rw [hh, addr_no hh]; rfl)
    have hz := fz_not hh
    rw [hz] at HF
    clear h hh hz
    go_enter Tryz.func36, Tryz.ntmps36
    go_wp2_with fail
    refine HF.out.mono ?_
    rintro r w' ⟨rfl, rfl⟩
    go_wp2_with fail
    go_ret2
    exact ⟨by rw [HV.out]; rfl, rfl⟩
  | true =>
    obtain ⟨i, hi, hz, hb, ha⟩ := fz_has hh
    have HV : Hid (PeekV S x = .tuple #[.int .u32 (S.E[i].a : Int), .bool true]) := Lib.hid (by unfold PeekV; rw [(addr_at hi ha).1, hh])
    rw [hz] at HF
    obtain ⟨A, c, rfl, hnc, _, _⟩ := h.l.form
    have g0 := h.cells.1
    obtain ⟨b, o, rfl, _, hcell⟩ := h.l.rd (by rw [cesC_len]; omega)
    obtain ⟨c0, c1, c2⟩ := ces_cells hcell i hi
    generalize S.E[i].a = y at *
    have hl := h.lens.1
    obtain ⟨n, hn⟩ : ∃ n, S.E.length = n := ⟨_, rfl⟩
    rw [hn] at g0 hi hl
    have hg : ¬ ((i : Int) < 0) := by omega
    clear h hh hz hb ha hcell c0 c2 hnc hn
    go_enter Tryz.func36, Tryz.ntmps36
    go_wp2_with fail
    refine HF.out.mono ?_
    rintro r w' ⟨rfl, rfl⟩
    go_wp2_with fail
    go_ret2
    exact ⟨by rw [HV.out]; rfl, rfl⟩
/-- A change of the document's cache. -/
def RcTo (Y : Nat → Prop) (rc kb : Nat) (vL : Value) (v : Value) (S' : CaS) (w : World) (r : Ending) (w' : World) : Prop :=
  r = .returned v ∧ (∃ vL' vS' σ', RcC Y w' rc kb vL' vS' σ' S' ∧ ∀ j, vL'.ownBlock = some j → vL.ownBlock = some j ∨ w.heap.size ≤ j) ∧ Kept (rcF rc kb vL) w w'
set_option maxHeartbeats 1000000 in
theorem cmove_at (x : Int) (y : Nat) (h : RcC Y w rc kb vL vS σ S) : Calls Tryz.prog 33 #[.pointer (some ⟨rc, 0, none⟩), .int .i64 x, .int .u32 (y : Int)] w (RcTo Y rc kb vL (.bool (S.has x)) (S.moveS x y) w) := by
  have HF := Lib.hid (cfind_at x h)
  cases hh : S.has x with
  | false =>
    have HE : Hid (RcTo Y rc kb vL (.bool false) (S.moveS x y) w (.returned (.bool false)) w) := Lib.hid (by
      have : S.moveS x y = S := by
        unfold CaS.moveS setE
        have : S.E.map (fun e => if (e.b : Int) = x then { e with a := y } else e) = S.E := by
          conv => rhs; rw [← List.map_id S.E]
          refine List.map_congr_left fun e he => ?_
          rw [if_neg (CaS.has_no hh e he)]
          rfl
        rw [this]
      rw [this]
      exact ⟨rfl, ⟨vL, vS, σ, h, fun j hj => .inl hj⟩, Kept.refl _ _⟩)
    rw [fz_not hh] at HF
    clear h hh
    go_enter Tryz.func33, Tryz.ntmps33
    go_wp2_with fail
    refine HF.out.mono ?_
    rintro r w' ⟨rfl, rfl⟩
    go_wp2_with fail
    go_ret
    exact HE.out
  | true =>
    obtain ⟨i, hi, hz, hb, ha⟩ := fz_has hh
    rw [hz] at HF
    obtain ⟨A, c, rfl, hnc, _, _⟩ := h.l.form
    have hL := h.l
    have g0 := h.cells.1
    obtain ⟨b, o, rfl, hbl, hcell⟩ := h.l.rd (by rw [cesC_len]; omega)
    obtain rfl := hL.off
    obtain ⟨c0, c1, c2⟩ := ces_cells hcell i hi
    have HE : Hid (RcTo Y rc kb (.slice (some ⟨b, 0, none⟩) S.E.length c) (.bool true) (S.moveS x y) w (.returned (.bool true)) (w.setCell ⟨b, i * 3 + 1, none⟩ (.int .u32 (y : Int)))) := Lib.hid (by
      have hk := kept_put w b (i * 3 + 1) (.int .u32 (y : Int))
      have hset : (S.moveS x y).E = S.E.set i { S.E[i] with a := y } := by
        show setE S.E x _ = _
        rw [← hb]
        exact setE_at h.wf.asc hi
      have hcs : cesC (S.moveS x y).E = (cesC S.E).set (i * 3 + 1) (.int .u32 (y : Int)) := by
        rw [hset]
        exact cesC_set1 hi y
      have hb2 : (S.moveS x y).E.map CE.b = S.E.map CE.b := setE_b x (fun _ => rfl)
      have hlen : (S.moveS x y).E.length = S.E.length := setE_len x _
      refine ⟨rfl, ⟨_, vS, σ, h.entries (L := (S.moveS x y).E) (hk.mono (fun k _ e => by subst e; rfl)) ?_ hb2, fun j hj => .inl hj⟩, hk.mono (fun k _ e => .inr (.inr (by subst e; rfl)))⟩
      rw [hcs, hlen]
      exact hL.set _)
    obtain ⟨n, hn⟩ : ∃ n, S.E.length = n := ⟨_, rfl⟩
    have hl := h.lens.1
    rw [hn] at g0 hi hl HE
    generalize S.moveS x y = S' at *
    generalize S.E[i].a = y0 at *
    have hg : ¬ ((i : Int) < 0) := by omega
    rw [Nat.zero_add] at c1
    have hfz := hL.free (i * 3 + 1)
    clear h hh hz hb ha hcell c0 c2 hnc hn hL
    go_enter Tryz.func33, Tryz.ntmps33
    go_wp2_with fail
    refine HF.out.mono ?_
    rintro r w' ⟨rfl, rfl⟩
    go_wp2_with fail
    go_ret
    exact HE.out
end
end Go.Proofs.YtajccmkdfmpapaaGreatDoor
namespace Go.Proofs.YtajccmkdfmpapaaGreatDoor
open Go.RowKit

theorem RowF.old {F : Nat → Prop} {w : World} {v : Value} {vs : List Value} (h : RowF F w v vs) : RowF (fun k => F k ∧ k < w.heap.size) w v vs := by
  obtain ⟨A, c, e, hc, hr, hin, hz⟩ := h
  refine ⟨A, c, e, hc, hr, fun hp b o x hA => ⟨hin hp b o x hA, ?_⟩, hz⟩
  obtain ⟨b', o', hA', hlt, _⟩ := hr hp
  rw [hA] at hA'
  have e2 := Option.some.inj hA'
  injection e2 with e3
  omega
/-- The ranking, where something new is laid that its rows are apart from. -/
theorem RefM.lay {w w' : World} {base base' : Nat → Prop} {rb : Nat} {R : RkS} (h : RefM w base rb R) (hb : Below w.heap.size w w') (h1 : ∀ k, k < w.heap.size → base k → base' k) (h2 : ∀ k, w'.heap.size ≤ k → base' k) : RefM w' base' rb R := by
  obtain ⟨⟨vT, vK, hr⟩, hw⟩ := h
  exact ⟨⟨vT, vK, hr.1.up hb (lt_of_block hr.1), (hr.2.1.old.mono (fun k e => ⟨h1 k e.2 e.1.1, e.1.2⟩)).up hb, (hr.2.2.1.old.mono (fun k e => ⟨h1 k e.2 e.1.1, e.1.2⟩)).up hb, h2⟩, hw⟩
def CNewIs (n : Int) (w : World) (r : Ending) (w' : World) : Prop :=
  Below w.heap.size w w' ∧ if 1 ≤ n ∧ n ≤ 64 then ∃ rc, w.heap.size < rc ∧ r = .returned (.tuple #[.pointer (some ⟨rc, 0, none⟩), .int .i64 0]) ∧ RcC (fun _ => True) w' rc w.heap.size (.slice none 0 0) (.slice none 0 0) id ⟨[], [], [], n.toNat⟩ else r = .returned (.tuple #[.pointer none, .int .i64 1])
set_option maxHeartbeats 1000000 in
theorem cnew_at (n : Int) (w : World) : Calls Tryz.prog 6 #[.int .i64 n] w (CNewIs n w) := by
  go_enter Tryz.func6, Tryz.ntmps6
  go_wp2_with fail
  refine (rnew_at n w).mono ?_
  rintro r w1 h
  obtain ⟨hb, h⟩ := h
  by_cases hnn : 1 ≤ n ∧ n ≤ 64
  · rw [if_pos hnn] at h
    obtain ⟨rfl, hm⟩ := h
    obtain ⟨m, rfl⟩ := Int.eq_ofNat_of_zero_le (show 0 ≤ n by omega)
    rw [Int.toNat_natCast] at hm
    have hlt := hm.lt
    have hb2 : Below w1.heap.size w1 (w1.alloc (.cells #[.slice none 0 0, .slice none 0 0, .pointer (some ⟨w.heap.size, 0, none⟩), .int .i64 (m : Int)] 46)) := (Below.refl _ _).alloc (Nat.le_refl _) _
    have HE : Hid (CNewIs (m : Int) w (.returned (.tuple #[.pointer (some ⟨w1.heap.size, 0, none⟩), .int .i64 0])) (w1.alloc (.cells #[.slice none 0 0, .slice none 0 0, .pointer (some ⟨w.heap.size, 0, none⟩), .int .i64 (m : Int)] 46))) := Lib.hid ⟨below_all hb hb2, by
      rw [if_pos hnn]
      refine ⟨_, hlt, rfl, heap_alloc_new w1 _, OwnK.nil _ _ _ _, RowF.nil _ _, ?_, by omega, fun j hj => (by cases hj), fun x hx => (by cases hx), ⟨List.Pairwise.nil, fun e he => (by cases he), List.nodup_nil, fun x => by simp, by simp, by simp; omega, by simp; omega⟩⟩
      rw [Int.toNat_natCast]
      exact hm.lay hb2 (fun k hk _ => ⟨by omega, (fun e => by cases e), trivial⟩) (fun k hk => ⟨by simp at hk; omega, (fun e => by cases e), trivial⟩)⟩
    clear hb hm hlt hb2 hnn
    go_wp2_with fail
    go_ret2
    exact HE.out
  · rw [if_neg hnn] at h
    obtain rfl := h
    have HE : Hid (CNewIs n w (.returned (.tuple #[.pointer none, .int .i64 1])) w1) := Lib.hid ⟨hb, by rw [if_neg hnn]⟩
    clear hb
    go_wp2_with fail
    go_ret2
    exact HE.out
end Go.Proofs.YtajccmkdfmpapaaGreatDoor
namespace Go.Proofs.YtajccmkdfmpapaaGreatDoor
open Go.RowKit

section
variable {w : World} {Y : Nat → Prop} {rc kb : Nat} {vL vS : Value} {σ : Nat → Nat} {S : CaS}
theorem slot_at {L : List CE} {i : Nat} (h : i < L.length) : (nats (slotsE σ L))[i]? = some (σ L[i].b : Int) := by simp [nats, slotsE, h]
/-- An entry's slot, where it stands. -/
theorem RcC.slot (h : RcC Y w rc kb vL vS σ S) {i : Nat} (hi : i < S.E.length) : ∃ b2 o2 c2, vS = .slice (some ⟨b2, o2, none⟩) S.E.length c2 ∧ S.E.length ≤ c2 ∧ b2 < w.heap.size ∧ b2 ≠ rc ∧ b2 ≠ kb ∧ w.cell? ⟨b2, o2 + i, none⟩ = some (.int .i64 (σ S.E[i].b : Int)) := by
  obtain ⟨A2, c2, e2, hc2, hr2, hin, _⟩ := h.s
  have hlen : (iCells (nats (slotsE σ S.E))).length = S.E.length := by rw [iCells_len, nats_len]; simp [slotsE]
  obtain ⟨b2, o2, rfl, hb2, hcell⟩ := hr2 (by omega)
  have hne := hin (by omega) b2 o2 none rfl
  rw [hlen] at e2 hc2
  have h0 := hcell i (by omega)
  refine ⟨b2, o2, c2, e2, hc2, hb2, hne.1, hne.2.1, h0.trans ?_⟩
  have h1 := slot_at (σ := σ) hi
  obtain ⟨l1, h1⟩ := List.getElem?_eq_some_iff.1 h1
  simp only [iCells, List.getElem_map, h1]
theorem touS_n (R : RkS) (x : Int) : (R.touS x).n = R.n := by
  unfold RkS.touS RkS.demo
  split
  · split <;> rfl
  · rfl
set_option maxHeartbeats 2000000 in
set_option maxRecDepth 100000 in
theorem cget_at (x : Int) (h : RcC Y w rc kb vL vS σ S) : Calls Tryz.prog 31 #[.pointer (some ⟨rc, 0, none⟩), .int .i64 x] w (RcTo Y rc kb vL (PeekV S x) (S.useS x) w) := by
  have HF := Lib.hid (cfind_at x h)
  cases hh : S.has x with
  | false =>
    have HE : Hid (RcTo Y rc kb vL (PeekV S x) (S.useS x) w (.returned (.tuple #[.int .u32 0, .bool false])) w) := Lib.hid (by
      have hv : PeekV S x = .tuple #[.int .u32 0, .bool false] := by unfold PeekV; rw [hh, addr_no hh]; rfl
      have hs : S.useS x = S := by unfold CaS.useS; rw [hh]; rfl
      rw [hv, hs]
      exact ⟨rfl, ⟨vL, vS, σ, h, fun j hj => .inl hj⟩, Kept.refl _ _⟩)
    rw [fz_not hh] at HF
    clear h hh
    go_enter Tryz.func31, Tryz.ntmps31
    go_wp2_with fail
    refine HF.out.mono ?_
    rintro r w' ⟨rfl, rfl⟩
    go_wp2_with fail
    go_ret2
    exact HE.out
  | true =>
    obtain ⟨i, hi, hz, hb, ha⟩ := fz_has hh
    rw [hz] at HF
    obtain ⟨A, c, rfl, hnc, _, _⟩ := h.l.form
    have hL := h.l
    obtain ⟨b, o, rfl, hbl, hcell⟩ := h.l.rd (by rw [cesC_len]; omega)
    obtain ⟨c0, c1, c2'⟩ := ces_cells hcell i hi
    obtain ⟨b2, o2, c2, rfl, hc2, hb2, hn1, hn2, s0⟩ := h.slot hi
    obtain ⟨s, hs⟩ : ∃ s, σ S.E[i].b = s := ⟨_, rfl⟩
    have hinj : ∀ y ∈ S.rk.T ++ S.rk.K, σ y = σ S.E[i].b → y = S.E[i].b := CaS.inj_rk h.wf h.inj ⟨_, List.getElem_mem hi, rfl⟩
    have hmap := RkS.map_touS hinj
    have hhas := RkS.map_has hinj
    rw [hs] at s0 hmap hhas
    have HK : Hid (RefM w.drew (fun k => k ≠ rc ∧ (Value.slice (some ⟨b, o, none⟩) S.E.length c).ownBlock ≠ some k ∧ Y k) kb (S.rk.map σ)) := Lib.hid (h.k.up (Below.refl _ _).drew)
    have HE : Hid (∀ w1, RefM w1 (fun k => k ≠ rc ∧ (Value.slice (some ⟨b, o, none⟩) S.E.length c).ownBlock ≠ some k ∧ Y k) kb ((S.rk.map σ).touS (s : Int)) → Kept (fun k => k = kb) w w1 → RcTo Y rc kb (.slice (some ⟨b, o, none⟩) S.E.length c) (PeekV S x) (S.useS x) w (.returned (.tuple #[.int .u32 (S.E[i].a : Int), .bool true])) w1 ∧ w1.cell? ⟨rc, 0, none⟩ = some (.slice (some ⟨b, o, none⟩) S.E.length c) ∧ w1.cell? ⟨b, o + i * 3 + 1, none⟩ = some (.int .u32 (S.E[i].a : Int))) := Lib.hid (fun w1 hm hk => by
      have hu : S.useS x = S.setR (S.rk.touS (S.E[i].b : Int)) := by unfold CaS.useS; rw [hh, hb]; rfl
      have hw := CaS.use_wf h.wf x
      rw [hu] at hw ⊢
      rw [hmap] at hm
      have hR := h.rank hk hm (touS_n _ _) hw
      refine ⟨⟨by unfold PeekV; rw [(addr_at hi ha).1, hh], ⟨_, _, σ, hR, fun j hj => .inl hj⟩, hk.mono (fun k _ e => .inr (.inl e))⟩, hR.cells.1, ?_⟩
      exact hk.cell c1 (fun e => (h.own b rfl).2.1 e))
    have h1 := h.cells.2.1
    have h2 := h.cells.2.2.1
    have hne := h.ne
    have hl := h.lens.1
    obtain ⟨n, hn⟩ : ∃ n, S.E.length = n := ⟨_, rfl⟩
    rw [hn] at h1 hi hl hc2 HE
    have HSS : Hid (∀ u, Kept (fun k => k = kb) w u → u.cell? ⟨rc, 1, none⟩ = some (.slice (some ⟨b2, o2, none⟩) n c2) ∧ u.cell? ⟨rc, 2, none⟩ = some (.pointer (some ⟨kb, 0, none⟩)) ∧ u.cell? ⟨b2, o2 + i, none⟩ = some (.int .i64 (s : Int))) := Lib.hid (fun u hu => ⟨hu.cell h1 hne, hu.cell h2 hne, hu.cell s0 hn2⟩)
    rw [hn] at HK
    generalize S.useS x = S' at *
    generalize S.E[i].a = y at *
    have hg : ¬ ((i : Int) < 0) := by omega
    clear h hh hz hb ha hcell c0 c1 c2' hnc hn hL hs hinj hmap hhas h1 h2 hne s0
    go_enter Tryz.func31, Tryz.ntmps31
    go_wp2_with fail
    refine HF.out.mono ?_
    rintro r w' ⟨rfl, rfl⟩
    go_wp2_with fail
    refine wp_region_held_drew (S := fun u => u.cell? ⟨rc, 1, none⟩ = some (.slice (some ⟨b2, o2, none⟩) n c2) ∧ u.cell? ⟨rc, 2, none⟩ = some (.pointer (some ⟨kb, 0, none⟩)) ∧ u.cell? ⟨b2, o2 + i, none⟩ = some (.int .i64 (s : Int))) (by kernel_rfl) (HSS.out _ (Kept.refl _ _).drew) (fun hHeld => ?_)
    show wpAnyH _ _ _ _ _ 12 _ _ _
    refine wpAnyH_take (i := 0) (v := ?_) rfl (by kernel_rfl) (by kernel_rfl) (by kernel_rfl) (fun _ _ _ h => h) (Or.inl ⟨by rfl, ?_⟩) hHeld ?_
    rotate_left
    · intro u hSu
      obtain ⟨x0, x1, x2⟩ := hSu
      go_simp
      try with_reducible rfl
    try simp only [Act.put, List.setIfInBounds_toArray, List.set_cons_zero, List.set_cons_succ, List.getElem_toArray, List.getElem_cons_zero, List.getElem_cons_succ]
    refine wpAnyH_take (i := 1) (v := ?_) rfl (by kernel_rfl) (by kernel_rfl) (by kernel_rfl) (fun _ _ _ h => h) (Or.inl ⟨by rfl, ?_⟩) hHeld ?_
    rotate_left
    · intro u hSu
      obtain ⟨x0, x1, x2⟩ := hSu
      go_simp
      try with_reducible rfl
    try simp only [Act.put, List.setIfInBounds_toArray, List.set_cons_zero, List.set_cons_succ, List.getElem_toArray, List.getElem_cons_zero, List.getElem_cons_succ]
    refine wpAnyH_take (i := 2) (v := ?_) rfl (by kernel_rfl) (by kernel_rfl) (by kernel_rfl) (fun _ _ _ h => h) (Or.inl ⟨by rfl, ?_⟩) hHeld ?_
    rotate_left
    · intro u hSu
      obtain ⟨x0, x1, x2⟩ := hSu
      go_simp
      try with_reducible rfl
    try simp only [Act.put, List.setIfInBounds_toArray, List.set_cons_zero, List.set_cons_succ, List.getElem_toArray, List.getElem_cons_zero, List.getElem_cons_succ]
    refine wpAnyH_take (i := 3) (v := ?_) rfl (by kernel_rfl) (by kernel_rfl) (by kernel_rfl) (fun _ _ _ h => h) (Or.inl ⟨by rfl, ?_⟩) hHeld ?_
    rotate_left
    · intro u hSu
      obtain ⟨x0, x1, x2⟩ := hSu
      go_simp
      try with_reducible rfl
    try simp only [Act.put, List.setIfInBounds_toArray, List.set_cons_zero, List.set_cons_succ, List.getElem_toArray, List.getElem_cons_zero, List.getElem_cons_succ]
    refine wpAnyH_take (i := 4) (v := ?_) rfl (by kernel_rfl) (by kernel_rfl) (by kernel_rfl) (fun _ _ _ h => h) (Or.inl ⟨by rfl, ?_⟩) hHeld ?_
    rotate_left
    · intro u hSu
      obtain ⟨x0, x1, x2⟩ := hSu
      go_simp
      try with_reducible rfl
    try simp only [Act.put, List.setIfInBounds_toArray, List.set_cons_zero, List.set_cons_succ, List.getElem_toArray, List.getElem_cons_zero, List.getElem_cons_succ]
    refine wpAnyH_take (i := 5) (v := ?_) rfl (by kernel_rfl) (by kernel_rfl) (by kernel_rfl) (fun _ _ _ h => h) (Or.inl ⟨by rfl, ?_⟩) hHeld ?_
    rotate_left
    · intro u hSu
      obtain ⟨x0, x1, x2⟩ := hSu
      go_simp
      try with_reducible rfl
    try simp only [Act.put, List.setIfInBounds_toArray, List.set_cons_zero, List.set_cons_succ, List.getElem_toArray, List.getElem_cons_zero, List.getElem_cons_succ]
    refine wpAnyH_take (i := 6) (v := ?_) rfl (by kernel_rfl) (by kernel_rfl) (by kernel_rfl) (fun _ _ _ h => h) (Or.inl ⟨by rfl, ?_⟩) hHeld ?_
    rotate_left
    · intro u hSu
      obtain ⟨x0, x1, x2⟩ := hSu
      go_simp
      try with_reducible rfl
    try simp only [Act.put, List.setIfInBounds_toArray, List.set_cons_zero, List.set_cons_succ, List.getElem_toArray, List.getElem_cons_zero, List.getElem_cons_succ]
    refine wpAnyH_take (i := 7) (v := ?_) rfl (by kernel_rfl) (by kernel_rfl) (by kernel_rfl) (fun _ _ _ h => h) (Or.inl ⟨by rfl, ?_⟩) hHeld ?_
    rotate_left
    · intro u hSu
      obtain ⟨x0, x1, x2⟩ := hSu
      go_simp
      try with_reducible rfl
    try simp only [Act.put, List.setIfInBounds_toArray, List.set_cons_zero, List.set_cons_succ, List.getElem_toArray, List.getElem_cons_zero, List.getElem_cons_succ]
    refine wpAnyH_take (i := 8) (v := ?_) rfl (by kernel_rfl) (by kernel_rfl) (by kernel_rfl) (fun _ _ _ h => h) (Or.inl ⟨by rfl, ?_⟩) hHeld ?_
    rotate_left
    · intro u hSu
      obtain ⟨x0, x1, x2⟩ := hSu
      go_simp
      try with_reducible rfl
    try simp only [Act.put, List.setIfInBounds_toArray, List.set_cons_zero, List.set_cons_succ, List.getElem_toArray, List.getElem_cons_zero, List.getElem_cons_succ]
    refine wpAnyH_take (i := 9) (v := ?_) rfl (by kernel_rfl) (by kernel_rfl) (by kernel_rfl) (fun _ _ _ h => h) (Or.inl ⟨by rfl, ?_⟩) hHeld ?_
    rotate_left
    · intro u hSu
      obtain ⟨x0, x1, x2⟩ := hSu
      go_simp
      try with_reducible rfl
    try simp only [Act.put, List.setIfInBounds_toArray, List.set_cons_zero, List.set_cons_succ, List.getElem_toArray, List.getElem_cons_zero, List.getElem_cons_succ]
    refine wpAnyH_take (i := 10) (v := ?_) rfl (by kernel_rfl) (by kernel_rfl) (by kernel_rfl) (fun _ _ _ h => h) (Or.inl ⟨by rfl, ?_⟩) hHeld ?_
    rotate_left
    · intro u hSu
      obtain ⟨x0, x1, x2⟩ := hSu
      go_simp
      try with_reducible rfl
    try simp only [Act.put, List.setIfInBounds_toArray, List.set_cons_zero, List.set_cons_succ, List.getElem_toArray, List.getElem_cons_zero, List.getElem_cons_succ]
    refine wpAnyH_ready (rs := [11]) (by kernel_rfl) (by simp) ?_
    refine (AllReadyH.cons rfl (fun K hK => ?_) AllReadyH.nil)
    go_simp
    refine (rtouch_at (s : Int) HK.out).mono ?_
    rintro r w1 h
    obtain ⟨rfl, hm, hk⟩ := h
    have HK1 := Lib.hid ((Kept.refl _ w).drew.and hk)
    have HM1 := Lib.hid hm
    clear hm hk
    refine hK.out _ _ ?_ (fun hHeld2 => ?_)
    · exact HSS.out _ HK1.out
    clear hK K hHeld
    have hHeld := hHeld2
    clear hHeld2
    try simp only [Act.put, List.setIfInBounds_toArray, List.set_cons_zero, List.set_cons_succ, List.getElem_toArray, List.getElem_cons_zero, List.getElem_cons_succ]
    refine wpAnyH_done (by kernel_rfl) ?_ _
    obtain ⟨he, g0, g1⟩ := HE.out _ HM1.out HK1.out
    have HE1 := Lib.hid he
    clear he HE HM1 HK1 HSS hHeld HK
    go_wp2_with fail
    go_ret2
    exact HE1.out
end
end Go.Proofs.YtajccmkdfmpapaaGreatDoor
