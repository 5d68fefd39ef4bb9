/-
  The landed slots' gather: the blocks of a zone's pages, if each page is at its place; its parts in memory.
-/
import Derived.Test.YthmpimjmajoimaaGreatDoorSm41
import Derived.Test.YthmpimjmajoimaaGreatDoorSm42
import Derived.Maps.AppendAt
namespace Go.Proofs.YthmpimjmajoimaaGreatDoor
open Go.RowKit

/-- A region that draws its order, within a round: one walk in the order of the text, in every world that has the property G. -/
theorem wpIn_region_in {P : Program} {lp n0 id : Nat} {Q : Exit → Act → World → Prop} {a : Act} {w : World} {l : List Oper} (G : World → Prop) (hG : G w.drew) (hm : P.follows .mixedOrders = true) (hB : Region.lexB .any l.toArray = true) (hd : ∀ o ∈ l, ∀ c, o.op ≠ .defer c) (hQ : ¬ LetsOut Q)
    (h : Nonempty (In G) → wpQuiet P l.toArray (fun w' => ∃ n : In G, w' = n.w) (fun a' => ∀ n : In G, Q .normal a' n.w) l a) : (Code.region id l.toArray true).wpIn (Fence.wide.inRound lp) n0 P Q a w := by
  refine wpIn_region_lift hm (by simpa using hd) hQ ?_
  simp only [Region.lexB, Bool.and_eq_true] at hB
  refine wpAny_of_quiet (C := fun w' => ∃ n : In G, w' = n.w) (Q := fun a' => ∀ n : In G, Q .normal a' n.w) (fun a' w' hw' h' => ?_) _ _ _ _ ⟨⟨_, hG⟩, rfl⟩ ?_
  · obtain ⟨n, rfl⟩ := hw'
    exact h' n
  · have := wpAnyQ_lex (P := P) (C := fun w' => ∃ n : In G, w' = n.w) (md := .any) hB.1 l 0 (Array.replicate l.toArray.size false) a (by simp) (by simpa using hB.2) (h ⟨⟨_, hG⟩⟩)
    simpa using this
theorem own_cells {w : World} {base : Nat} {T : TypeId} {v : Value} {vs : List Value} (h : RowV w base T v vs) : ∀ g, v.ownBlock = some g → base ≤ g ∧ ∃ o : Obj, w.heap[g]? = some o ∧ o.isCells = true := by
  rcases h.2 with ⟨rfl, _⟩ | ⟨g, cap, cur, rfl, hb, hg, _⟩
  · intro j hj
    cases hj
  · intro j hj
    simp [Value.ownBlock] at hj
    subst hj
    exact ⟨hb, _, hg, rfl⟩
/-- What may turn: a block ahead of base, or one that is no cells. -/
def Far2 (base : Nat) (w : World) (row : Option Nat) : Prop := ∀ r, row = some r → r < base ∨ ∃ o : Obj, w.heap[r]? = some o ∧ o.isCells = false
theorem Far2.ne {base : Nat} {w : World} {row : Option Nat} (h : Far2 base w row) {g : Nat} (hb : base ≤ g) {o : Obj} (ho : w.heap[g]? = some o) (hc : o.isCells = true) : some g ≠ row := by
  intro e
  rcases h g e.symm with h1 | ⟨o', h1, h2⟩
  · omega
  · rw [ho] at h1
    cases h1
    rw [hc] at h2
    cases h2
/-- What was read of the first i pages. -/
structure GAcc (base : Nat) (w : World) (l : List (List Int)) (i : Nat) (v : Value) (vs : List Value) : Prop where
  row : RowV w base 61 v vs
  len : vs.length = i
  el : ∀ j (h : j < vs.length) (hl : j < l.length), ∃ g cap, vs[j] = .slice (some ⟨g, 0, none⟩) 16 cap ∧ Own8 w base g cap (l[j].drop 17)
  ok : ∀ j (hj : j < l.length), j < i → pgB (l.getD 0 []) j l[j] = true
theorem GAcc.kept {base i : Nat} {w w' : World} {l : List (List Int)} {v : Value} {vs : List Value} {row : Option Nat} (h : GAcc base w l i v vs) (hg : w.grownBy w' row) (hf : Far2 base w row) : GAcc base w' l i v vs :=
  ⟨h.row.kept hg (fun g e => by obtain ⟨hb, o, ho, hc⟩ := own_cells h.row g e; exact hf.ne hb ho hc), h.len, fun j h1 h2 => by
    obtain ⟨g, cap, e, ho⟩ := h.el j h1 h2
    obtain ⟨hb, o, hx, hc⟩ := own_cells (own8_row ho) g rfl
    exact ⟨g, cap, e, ho.kept hg (hf.ne hb hx hc)⟩, h.ok⟩
theorem GAcc.rise {base i : Nat} {w w' : World} {l : List (List Int)} {v : Value} {vs : List Value} (h : GAcc base w l i v vs) (hb : Below w.heap.size w w') : GAcc base w' l i v vs := h.kept (grown_none hb) (fun _ e => by cases e)
theorem GAcc.step {base i g cap : Nat} {w w4 : World} {l : List (List Int)} {v v4 : Value} {vs : List Value} (h : GAcc base w l i v vs) (hi : i < l.length) (hg : w.grownBy w4 v.ownBlock) (hr : RowV w4 base 61 v4 (vs ++ [.slice (some ⟨g, 0, none⟩) 16 cap])) (ho : Own8 w base g cap (l[i].drop 17)) (hok : pgB (l.getD 0 []) i l[i] = true) :
    GAcc base w4 l (i + 1) v4 (vs ++ [.slice (some ⟨g, 0, none⟩) 16 cap]) := by
  have far : ∀ {g cap : Nat} {xs : List Int}, Own8 w base g cap xs → Own8 w4 base g cap xs := fun {g cap xs} ho => ho.kept hg ((own8_row ho).apart h.row (by decide) g rfl)
  refine ⟨hr, by simp [h.len], fun j h1 h2 => ?_, fun j hj hlt => ?_⟩
  · by_cases hji : j < vs.length
    · obtain ⟨g', cap', e, ho'⟩ := h.el j hji h2
      exact ⟨g', cap', by rw [List.getElem_append_left hji]; exact e, far ho'⟩
    · have hlen := h.len
      have : j = i := by rw [List.length_append] at h1; simp at h1; omega
      subst this
      refine ⟨g, cap, ?_, far ho⟩
      rw [List.getElem_append_right (by omega)]
      simp
  · by_cases e : j = i
    · subst e
      exact hok
    · exact h.ok j hj (by omega)
theorem GAcc.fin {base : Nat} {w : World} {l : List (List Int)} {v : Value} {vs : List Value} (h : GAcc base w l l.length v vs) : pagesOk l = true ∧ RdR w vs (blk17 l) := by
  refine ⟨okP_yes (fun j hj => h.ok j hj hj), by rw [h.len]; simp [blk17], fun j h1 h2 => ?_⟩
  have hj : j < l.length := by rw [← h.len]; exact h1
  obtain ⟨g, cap, e, ho⟩ := h.el j h1 hj
  have hb : (blk17 l)[j] = l[j].drop 17 := by simp [blk17]
  have h16 : (l[j].drop 17).length = 16 := by rw [List.length_drop, pgB_len (h.ok j hj hj)]
  refine ⟨some ⟨g, 0, none⟩, cap, by rw [hb, h16]; exact e, by rw [hb]; exact ho.cap, by rw [hb]; exact ho.rd⟩
/-- The head of the first page. -/
def topK (_l : List (List Int)) (i : Nat) : Int := if i = 0 then 0 else 5
def topN (l : List (List Int)) (i o : Nat) : Int := if i = 0 then 0 else bk (l.getD 0 []) o
/-- gather's variables behind i pages: R, R + 1, R + 2 the results, R + 3 the first head, R + 4 the blocks. -/
structure GathT (w0 : World) (R N0 : Nat) (l : List (List Int)) (i : Nat) (t0 t1 t2 t3 : Int) (W : World) : Prop where
  old : Below w0.heap.size w0 W
  size : N0 ≤ W.heap.size
  r0 : Blk W R 159 [.int .u8 0, .int .u32 0, .int .u32 0, .int .u32 0]
  r1 : Boxed W (R + 1) 60 (.slice none 0 0)
  r2 : Boxed W (R + 2) 4 (.bool false)
  top : Blk W (R + 3) 159 [.int .u8 t0, .int .u32 t1, .int .u32 t2, .int .u32 t3]
  row : ∃ v vs, Boxed W (R + 4) 60 v ∧ GAcc N0 W l i v vs
theorem GathT.kept {w0 : World} {R N0 : Nat} {l : List (List Int)} {i : Nat} {t0 t1 t2 t3 : Int} {W W' : World} {row : Option Nat} (h : GathT w0 R N0 l i t0 t1 t2 t3 W) (hR : w0.heap.size ≤ R) (hN : R + 7 ≤ N0) (hg : W.grownBy W' row) (hr : ∀ r, row = some r → N0 ≤ r ∧ ∃ o : Obj, W.heap[r]? = some o ∧ o.isCells = false) : GathT w0 R N0 l i t0 t1 t2 t3 W' := by
  have ne : ∀ k, k < N0 → some k ≠ row := fun k hk e => by
    have := (hr k e.symm).1
    omega
  obtain ⟨v, vs, hv, hc⟩ := h.row
  refine ⟨h.old.grown hg h.old.size (fun k e => by have := (hr k e).1; omega), Nat.le_trans h.size hg.size, ?_, h.r1.kept hg (ne _ (by omega)), h.r2.kept hg (ne _ (by omega)), ?_, v, vs, hv.kept hg (ne _ (by omega)), hc.kept hg (fun r e => .inr (hr r e).2)⟩
  · exact (hg.block R (lt_of_block h.r0) (ne _ (by omega))).trans h.r0
  · exact (hg.block (R + 3) (lt_of_block h.top) (ne _ (by omega))).trans h.top
theorem GathT.rise {w0 : World} {R N0 : Nat} {l : List (List Int)} {i : Nat} {t0 t1 t2 t3 : Int} {W W' : World} (h : GathT w0 R N0 l i t0 t1 t2 t3 W) (hR : w0.heap.size ≤ R) (hN : R + 7 ≤ N0) (hb : Below W.heap.size W W') : GathT w0 R N0 l i t0 t1 t2 t3 W' := h.kept hR hN (grown_none hb) (fun r e => by cases e)
/-- The first head is put. -/
def topW (u : World) (T : Nat) (k0 k1 k2 k3 : Int) : World := (((u.setCell ⟨T, 0, none⟩ (.int .u8 k0)).setCell ⟨T, 1, none⟩ (.int .u32 k1)).setCell ⟨T, 2, none⟩ (.int .u32 k2)).setCell ⟨T, 3, none⟩ (.int .u32 k3)
theorem topW_kept (u : World) (T : Nat) (k0 k1 k2 k3 : Int) : Kept (fun k => k = T) u (topW u T k0 k1 k2 k3) ∧ KeepsOthers u (topW u T k0 k1 k2 k3) :=
  ⟨((((Kept.refl (fun k => k = T) u).put (g := T) (.inl rfl) 0 _).put (g := T) (.inl rfl) 1 _).put (g := T) (.inl rfl) 2 _).put (g := T) (.inl rfl) 3 _, (((KeepsOthers.setCell u ⟨T, 0, none⟩ _).trans (KeepsOthers.setCell _ ⟨T, 1, none⟩ _)).trans (KeepsOthers.setCell _ ⟨T, 2, none⟩ _)).trans (KeepsOthers.setCell _ ⟨T, 3, none⟩ _)⟩
theorem kept_grown {w w' : World} {g : Nat} (h : Kept (fun k => k = g) w w') : w.grownBy w' (some g) := ⟨h.os, h.tape, h.output, h.size, fun k hk hn => h.block k hk (fun e => hn (by rw [e]))⟩
theorem GathT.head {w0 : World} {R N0 : Nat} {l : List (List Int)} {i : Nat} {t0 t1 t2 t3 : Int} {W : World} (h : GathT w0 R N0 l i t0 t1 t2 t3 W) (hR : w0.heap.size ≤ R) (hN : R + 7 ≤ N0) (k0 k1 k2 k3 : Int) : GathT w0 R N0 l i k0 k1 k2 k3 (topW W (R + 3) k0 k1 k2 k3) := by
  obtain ⟨k, _⟩ := topW_kept W (R + 3) k0 k1 k2 k3
  obtain ⟨v, vs, hv, hc⟩ := h.row
  refine ⟨h.old.trans (k.below h.old.size (fun j e => by omega)), Nat.le_trans h.size k.size, k.blk h.r0 (by omega), k.blk h.r1 (by omega), k.blk h.r2 (by omega), ?_, v, vs, k.blk hv (by omega), hc.kept (kept_grown k) (fun r e => .inl (by have := Option.some.inj e; omega))⟩
  exact ((((h.top.put 0 (.int .u8 k0)).put 1 (.int .u32 k1)).put 2 (.int .u32 k2)).put 3 (.int .u32 k3))
abbrev Gath (w0 : World) (R N0 : Nat) (l : List (List Int)) (i : Nat) (W : World) : Prop := GathT w0 R N0 l i (topK l i) (topN l i 1) 0 (topN l i 9) W
/-- Behind a page that is none at its place. -/
structure GStop (w0 : World) (R N0 : Nat) (l : List (List Int)) (W : World) : Prop where
  old : Below w0.heap.size w0 W
  size : N0 ≤ W.heap.size
  r0 : Blk W R 159 [.int .u8 0, .int .u32 0, .int .u32 0, .int .u32 0]
  r1 : Boxed W (R + 1) 60 (.slice none 0 0)
  r2 : Boxed W (R + 2) 4 (.bool false)
  bad : pagesOk l = false
theorem GStop.kept {w0 : World} {R N0 : Nat} {l : List (List Int)} {W W' : World} {row : Option Nat} (h : GStop w0 R N0 l W) (hR : w0.heap.size ≤ R) (hN : R + 7 ≤ N0) (hg : W.grownBy W' row) (hr : ∀ r, row = some r → N0 ≤ r ∧ ∃ o : Obj, W.heap[r]? = some o ∧ o.isCells = false) : GStop w0 R N0 l W' := by
  have ne : ∀ k, k < N0 → some k ≠ row := fun k hk e => by
    have := (hr k e.symm).1
    omega
  exact ⟨h.old.grown hg h.old.size (fun k e => by have := (hr k e).1; omega), Nat.le_trans h.size hg.size, (hg.block R (lt_of_block h.r0) (ne _ (by omega))).trans h.r0, h.r1.kept hg (ne _ (by omega)), h.r2.kept hg (ne _ (by omega)), h.bad⟩
end Go.Proofs.YthmpimjmajoimaaGreatDoor
