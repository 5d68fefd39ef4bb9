/-
  Rows of slots' numbers of a call's own; a ranking beside them.
-/
import Derived.Test.YtpocpeiiacgoaaaLrE
namespace Go.Proofs.Ytpocpeiiacgoaaa
open Go.RowKit

/-- A row of slots' numbers of the call's own. -/
def NatR (w : World) (base g cap : Nat) (l : List Nat) : Prop := OwnG w base 3 g cap (iCells (nats l))
theorem NatR.new (w : World) (base : Nat) (hb : base ≤ w.heap.size) (l : List Nat) (hl : l.length ≤ 1000) : NatR (w.alloc (.cells (iCells (nats l)).toArray 3)) base w.heap.size l.length l := by
  have := OwnG.new w base 3 (iCells (nats l)) hb (by rw [iCells_len, nats_len]; omega)
  rw [iCells_len, nats_len] at this
  exact this
theorem NatR.keep {F : Nat → Prop} {w w' : World} {base g cap : Nat} {l : List Nat} (h : NatR w base g cap l) (hk : Kept F w w') (hn : ¬ F g) : NatR w' base g cap l := by
  refine ⟨h.1, h.2.imp id fun ⟨g', c', cur, hv, hg, hc, r⟩ => ⟨g', c', cur, hv, hg, ?_, r⟩⟩
  have hv' := hv
  injection hv' with h1
  have h1 := Option.some.inj h1
  injection h1 with h1
  subst h1
  exact (hk.block g (lt_of_block hc) hn).trans hc
theorem NatR.up {w w' : World} {base g cap : Nat} {l : List Nat} (h : NatR w base g cap l) (hb : Below w.heap.size w w') : NatR w' base g cap l := h.keep (F := fun _ => False) (Kept.of_below hb) id
/-- A row of numbers is no ranking. -/
theorem NatR.ne {w : World} {base g cap kb : Nat} {l : List Nat} {S : RkS} (h : NatR w base g cap l) (hm : RkM w kb S) : g ≠ kb := by
  rintro rfl
  obtain ⟨⟨cs, hB, _⟩, _⟩ := hm
  rcases h.2 with ⟨h', _⟩ | ⟨g', cap', cur, hv, _, hc, _⟩
  · simp at h'
  · injection hv with h1
    have h1 := Option.some.inj h1
    injection h1 with h1
    subst h1
    rw [show w.heap[g]? = _ from hB] at hc
    have := Option.some.inj hc
    injection this with _ e2
    exact absurd e2 (by decide)
theorem NatR.rd {w : World} {base g cap : Nat} {l : List Nat} (h : NatR w base g cap l) : RdV w w.heap.size (some ⟨g, 0, none⟩) (iCells (nats l)) := OwnG.rdV h
theorem NatR.cell {w : World} {base g cap : Nat} {l : List Nat} (h : NatR w base g cap l) (k : Nat) (hk : k < l.length) : w.cell? ⟨g, k, none⟩ = some (.int .i64 (l[k] : Int)) := by
  rw [OwnG.cell h k (by rw [iCells_len, nats_len]; exact hk)]
  simp [iCells, nats]
theorem NatR.mem {w : World} {base g cap : Nat} {l : List Nat} (h : NatR w base g cap l) : base ≤ g ∧ g < w.heap.size := OwnG.mem h
theorem nats_app (a b : List Nat) : nats (a ++ b) = nats a ++ nats b := by simp [nats]
/-- A ranking and a row of numbers, of a call's own. -/
structure RN (w0 w : World) (kb : Nat) (S : RkS) (g cap : Nat) (l : List Nat) : Prop where
  m : RkM w kb S
  kb : w0.heap.size ≤ kb
  n : NatR w w0.heap.size g cap l
  old : Below w0.heap.size w0 w
theorem RN.up {w0 w w' : World} {kb : Nat} {S : RkS} {g cap : Nat} {l : List Nat} (h : RN w0 w kb S g cap l) (hb : Below w.heap.size w w') : RN w0 w' kb S g cap l := ⟨h.m.up hb, h.kb, h.n.up hb, below_all h.old hb⟩
theorem RN.to {w0 w w' : World} {kb : Nat} {S S' : RkS} {g cap : Nat} {l : List Nat} (h : RN w0 w kb S g cap l) (hm : RkM w' kb S') (hk : Kept (fun k => k = kb) w w') : RN w0 w' kb S' g cap l :=
  ⟨hm, h.kb, h.n.keep hk (h.n.ne h.m), h.old.trans (hk.below h.old.size (fun k e => by rw [e]; exact h.kb))⟩
theorem RN.app {w0 w w' : World} {kb : Nat} {S : RkS} {g cap g' cap' : Nat} {l l' : List Nat} (h : RN w0 w kb S g cap l) (ho : NatR w' w0.heap.size g' cap' l') (hg : w.grownBy w' (some g)) : RN w0 w' kb S g' cap' l' := by
  have hne := h.n.ne h.m
  have hk : Kept (fun k => k = g) w w' := (Kept.refl _ w).grown hg (fun k e => .inl (Option.some.inj e).symm)
  exact ⟨h.m.keep hk (fun e => hne e.symm), h.kb, ho, h.old.trans (hk.below h.old.size (fun k e => by rw [e]; exact h.n.mem.1))⟩
/-- .. and another row of numbers. -/
structure RN2 (w0 w : World) (kb : Nat) (S : RkS) (g cap : Nat) (l : List Nat) (g1 cap1 : Nat) (l1 : List Nat) : Prop where
  a : RN w0 w kb S g cap l
  b : NatR w w0.heap.size g1 cap1 l1
  ne : g1 ≠ g
theorem RN2.up {w0 w w' : World} {kb : Nat} {S : RkS} {g cap g1 cap1 : Nat} {l l1 : List Nat} (h : RN2 w0 w kb S g cap l g1 cap1 l1) (hb : Below w.heap.size w w') : RN2 w0 w' kb S g cap l g1 cap1 l1 := ⟨h.a.up hb, h.b.up hb, h.ne⟩
theorem RN2.app {w0 w w' : World} {kb : Nat} {S : RkS} {g cap g1 cap1 g' cap' : Nat} {l l1 l' : List Nat} (h : RN2 w0 w kb S g cap l g1 cap1 l1) (ho : NatR w' w0.heap.size g' cap' l') (hg : w.grownBy w' (some g)) (hgg : g' = g ∨ g' = w.heap.size) : RN2 w0 w' kb S g' cap' l' g1 cap1 l1 := by
  have hk : Kept (fun k => k = g) w w' := (Kept.refl _ w).grown hg (fun k e => .inl (Option.some.inj e).symm)
  refine ⟨h.a.app ho hg, h.b.keep hk h.ne, ?_⟩
  rcases hgg with rfl | rfl
  · exact h.ne
  · have := h.b.mem.2
    omega
end Go.Proofs.Ytpocpeiiacgoaaa
