/-
  A range over a function whose iterator says at its end what lies in the world, too; its body never leaves. For whatever program.
  A range over a function whose iterator says which element comes when, and at its end what lies in the world; an iterator may itself range over another one. Regions that draw their order, within a round. For whatever program.
  The cache in memory: its entries one behind the other (a range over a function): known.
-/
import Derived.Test.YtajccmkdfmpapaaGreatDoorChecked
import Derived.RangeFuncFrom
import Derived.Test.YtajccmkdfmpapaaGreatDoorZmF
import Derived.OrdersIn
import Derived.OwnWalkIn
import Derived.RangeFuncCalls
import Derived.Test.YtajccmkdfmpapaaGreatDoorLcG
import Derived.Test.YtajccmkdfmpapaaGreatDoorIxK
import Derived.Deep.Cut
import Derived.TacticsInMore
import Derived.RangeFuncBox
import Derived.Shelf.Abstract
import Derived.Maps.AppendAt
namespace Go.Proofs.YtajccmkdfmpapaaGreatDoor
open Go.RowKit

/-- What an iterator promises of a body that always goes on: behind all rounds S of what has come, and of the world. -/
def SeqSeen {α : Type} (F : Fence) (n : Nat) (P : Program) (g : Nat) (lb : Array Value) (encs : α → Array Value) (Kp : World → World → Prop) (S : List α → World → Prop) (N : Nat) (w : World) : Prop :=
  ∀ (l : Nat) (J : List α → World → Prop) (W : World), Below w.heap.size w W → AbidesFrom W.heap.size J →
    (∀ pre x W1, J pre W1 → pre.length < N → YieldAt F (n - 1) P l (encs x) W1 fun e W' => e = .returned (.bool true) ∧ J (pre ++ [x]) W' ∧ Kp W1 W') → J [] W →
    CallsIn F n P g (#[.func (.yield l) #[] #[]] ++ lb) W fun e W' => (∃ v, e = .returned v) ∧ ∃ xs, S xs W' ∧ J xs W'

variable {F : Fence} {n : Nat} {P : Program}
/-- The record of such a loop. -/
def recOf (fn : FuncId) (t : Array Value) (ps : Array Tmp) (assign body : Code) (D : Nat) (st : LoopState) : Loop := { state := st, pending := none, fn := fn, tmps := t, params := ps, assign := assign, body := body, defers := D }

theorem range_seen {α : Type} {g : Operand} {ps : Array Tmp} {assign body : Code} {Q : Exit → Act → World → Prop} {a : Act} {w : World}
    (hro : F.round = none) (h1 : 1 ≤ n) {gf : Nat} {lb : Array Value} (hg : a.eval g = .func (.func gf) #[] lb) (hFg : F.fn gf) (eg : ∀ args w, (callFunc gf args).run P w = .ok (.enter gf args) w)
    {encs : α → Array Value} {Kp : World → World → Prop} {S : List α → World → Prop} {N : Nat} (hseq : SeqSeen F (n - 1) P gf lb encs Kp S N w)
    (hKt : ∀ {A B C : World}, Kp A B → Kp B C → Kp A C) (hKb : ∀ (W : World) (l : Nat) (o o' : Obj), w.heap.size ≤ l → W.heap[l]? = some o → o.isCells = false → Kp W (W.putObj l o'))
    (hS : ∀ (xs : List α) (W : World) (l : Nat) (o o' : Obj), w.heap.size ≤ l → S xs W → W.heap[l]? = some o → o.isCells = false → S xs (W.putObj l o'))
    (hps : ∀ x, (encs x).size = ps.size) (I : List α → World → Prop) (hI : OwnFrom w.heap.size I) (h0 : I [] w) (a₁ : α → Act)
    (hassign : ∀ (l : Nat) (x : α) (W : World) (K : Act → World → Prop), K (a₁ x) W →
      assign.wpIn (F.inRound l) (n - 1 - 1) P (Exit.then K (fun _ _ _ => False)) { tmps := (ps.zip (encs x)).foldl (fun t (p, v) => t.setIfInBounds p v) a.tmps, defers := [] } W)
    (hbody : ∀ (l : Nat) (pre : List α) (x : α) (W : World), I pre W → pre.length < N → body.wpIn (F.inRound l) (n - 1 - 1) P (fun e _ W' => e = .normal ∧ KeepsOthers W W' ∧ Kp W W' ∧ I (pre ++ [x]) W') (a₁ x) W)
    (hdone : ∀ (D : Nat) (xs : List α) (W : World), w.heap.size ≤ D → S xs W → I xs W → W.heap[D]? = some (.deferred (some [])) → Q .normal { a with defers := { target := .collected D, args := #[] } :: a.defers } W) :
    (Code.rangeFunc g ps assign body).wpIn F n P Q a w := by
  refine wpIn_rangeFunc ?_
  intro fn hfn
  rw [hro]
  have hsz : (w.alloc (.deferred (some []))).heap.size = w.heap.size + 1 := World.size_alloc _ _
  obtain ⟨W1, hW1⟩ : ∃ W1, (w.alloc (.deferred (some []))).alloc (.loop (recOf fn a.tmps ps assign body w.heap.size .ready)) = W1 := ⟨_, rfl⟩
  have hL1 : W1.heap[w.heap.size + 1]? = some (.loop (recOf fn a.tmps ps assign body w.heap.size .ready)) := by
    have := World.alloc_heap_new (w.alloc (.deferred (some []))) (.loop (recOf fn a.tmps ps assign body w.heap.size .ready))
    rwa [hsz, hW1] at this
  have hD1 : W1.heap[w.heap.size]? = some (.deferred (some [])) := by
    rw [← hW1]
    exact (Below.heap_alloc _ _ _ (by rw [hsz]; omega)).trans (World.alloc_heap_new w _)
  have hI1 : I [] W1 := by
    rw [← hW1]
    exact hI.alloc _ (hI.alloc _ h0)
  have hb1 : Below w.heap.size w W1 := by
    rw [← hW1]
    exact ((Below.refl _ w).alloc (Nat.le_refl _) _).alloc (by rw [hsz]; omega) _
  have hs1 : W1.heap.size = w.heap.size + 2 := by
    rw [← hW1, World.size_alloc, hsz]
  refine ⟨w.heap.size + 1, [{ target := .collected w.heap.size, args := #[] }], W1, { target := .fn (.func gf) lb, args := #[.func (.yield (w.heap.size + 1)) #[] #[]] }, W1, gf,
    #[.func (.yield (w.heap.size + 1)) #[] #[]] ++ lb, W1, ?_, ?_, ?_, ?_, fun _ => h1, ?_⟩
  · rw [← hW1]
    exact run_enterLoop_outer _ _ _ _ _
  · simp only [resolve, hg]
    simp [go_sem]
  · intro f' hf'
    simp [Target.leads] at hf'
    subst hf'
    exact hFg
  · simp [invoke, go_sem, eg]
  · have hJ : AbidesFrom W1.heap.size (fun pre W => I pre W ∧ W.heap[w.heap.size + 1]? = some (.loop (recOf fn a.tmps ps assign body w.heap.size .ready)) ∧ W.heap[w.heap.size]? = some (.deferred (some []))) := by
      intro s A B row hs hgr hrow
      have hnc : ∀ r, row = some r → w.heap.size ≤ r ∧ ∃ o : Obj, A.heap[r]? = some o ∧ o.isCells = false := fun r e => by
        obtain ⟨hB, o, ho, hw⟩ := hrow r e
        exact ⟨by omega, o, ho, Obj.not_cells_of_walk hw⟩
      exact ⟨hI s A B row hs.1 hgr hnc, (grownBy_keeps hgr (fun r e => (hrow r e).2) hs.2.1 rfl).trans hs.2.1, (grownBy_keeps hgr (fun r e => (hrow r e).2) hs.2.2 rfl).trans hs.2.2⟩
    refine (hseq (w.heap.size + 1) _ W1 hb1 hJ ?_ ⟨hI1, hL1, hD1⟩).mono ?_
    · rintro pre x W ⟨hi, hl, hd⟩ hlen
      have hlt : w.heap.size + 1 < W.heap.size := (Array.getElem?_eq_some_iff.1 hl).1
      refine ⟨fn, _, assign, body, run_yield hl (hps x), roundIn_of_wpIn hfn (hassign _ x W _ ⟨_, run_beginRound hl rfl, ?_⟩)⟩
      obtain ⟨W2, hW2⟩ : ∃ W2, W.putObj (w.heap.size + 1) (.loop (recOf fn a.tmps ps assign body w.heap.size .busy)) = W2 := ⟨_, rfl⟩
      have hl2 : W2.heap[w.heap.size + 1]? = some (.loop (recOf fn a.tmps ps assign body w.heap.size .busy)) := by
        rw [← hW2]
        exact World.putObj_heap_same hlt
      have hd2 : W2.heap[w.heap.size]? = some (.deferred (some [])) := by
        rw [← hW2]
        exact (World.putObj_heap_other (by omega)).trans hd
      have hi2 : I pre W2 := by
        rw [← hW2]
        exact hI.putObj _ hi (by omega) hl rfl
      have hk2 : Kp W W2 := by
        rw [← hW2]
        exact hKb _ _ _ _ (by omega) hl rfl
      show body.wpIn _ _ _ _ _ (W.putObj (w.heap.size + 1) (.loop (recOf fn a.tmps ps assign body w.heap.size .busy)))
      rw [hW2]
      refine wpIn_mono (hbody _ pre x W2 hi2 hlen) ?_
      rintro e a3 W3 ⟨rfl, hko, hkp, hi3⟩
      have hl3 := hko.same _ _ hl2 rfl
      have hd3 := hko.same _ _ hd2 rfl
      have hlt3 := (Array.getElem?_eq_some_iff.1 hl3).1
      refine ⟨_, _, run_endRound none hl3, rfl, ⟨hI.putObj _ hi3 (by omega) hl3 rfl, World.putObj_heap_same hlt3, (World.putObj_heap_other (by omega)).trans hd3⟩, hKt (hKt hk2 hkp) (hKb _ _ _ _ (by omega) hl3 rfl)⟩
    · rintro e W2 ⟨⟨v, rfl⟩, xs, hs, hi, hl, hd⟩
      exact ⟨none, _, run_endLoop hl (by simp [recOf]), hdone _ xs _ (Nat.le_refl _) (hS _ _ _ _ _ (by omega) hs hl rfl) (hI.putObj _ hi (by omega) hl rfl) ((World.putObj_heap_other (by omega)).trans hd)⟩
end Go.Proofs.YtajccmkdfmpapaaGreatDoor
namespace Go.Proofs.YtajccmkdfmpapaaGreatDoor
open Go.RowKit

/-- What an iterator promises of a body that always goes on: x comes behind pre only where G pre x; E is what it leans on; behind all rounds S of what has come, and of the world. -/
def SeqSeenG {α : Type} (F : Fence) (n : Nat) (P : Program) (g : Nat) (lb : Array Value) (encs : α → Array Value) (Kp : World → World → Prop) (E : List α → World → Prop) (G : List α → α → Prop) (S : List α → World → Prop) (w : World) : Prop :=
  ∀ (l : Nat) (J : List α → World → Prop) (W : World), Below w.heap.size w W → OwnFrom W.heap.size J → (∀ pre W1, J pre W1 → E pre W1) →
    (∀ pre x W1, J pre W1 → G pre x → YieldAt F (n - 1) P l (encs x) W1 fun e W' => e = .returned (.bool true) ∧ J (pre ++ [x]) W' ∧ Kp W1 W' ∧ KeepsOthers W1 W') → J [] W →
    CallsIn F n P g (#[.func (.yield l) #[] #[]] ++ lb) W fun e W' => (∃ v, e = .returned v) ∧ ∃ xs, S xs W' ∧ J xs W'

variable {F : Fence} {n : Nat} {P : Program}
theorem OwnFrom.step {β : Type} {B : Nat} {J : β → World → Prop} (h : OwnFrom B J) {s : β} {A C : World} (hj : J s A) (hb : Below A.heap.size A C) : J s C :=
  h s A C none hj ⟨hb.os, hb.tape, hb.output, hb.size, fun k hk _ => hb.block k hk⟩ (fun r e => by cases e)
theorem OwnFrom.mono {β : Type} {B B' : Nat} {J : β → World → Prop} (h : OwnFrom B J) (hB : B ≤ B') : OwnFrom B' J := fun s W W' row hs hg hr => h s W W' row hs hg (fun r e => ⟨Nat.le_trans hB (hr r e).1, (hr r e).2⟩)

theorem range_seenG {α : Type} {g : Operand} {ps : Array Tmp} {assign body : Code} {Q : Exit → Act → World → Prop} {a : Act} {w : World}
    (hro : F.round = none) (h1 : 1 ≤ n) {gf : Nat} {lb : Array Value} (hg : a.eval g = .func (.func gf) #[] lb) (hFg : F.fn gf) (eg : ∀ args w, (callFunc gf args).run P w = .ok (.enter gf args) w)
    {encs : α → Array Value} {Kp : World → World → Prop} {E : List α → World → Prop} {G : List α → α → Prop} {S : List α → World → Prop} (hseq : SeqSeenG F (n - 1) P gf lb encs Kp E G S w)
    (hKt : ∀ {A B C : World}, Kp A B → Kp B C → Kp A C) (hKb : ∀ (W : World) (l : Nat) (o o' : Obj), w.heap.size ≤ l → W.heap[l]? = some o → o.isCells = false → Kp W (W.putObj l o'))
    (hS : ∀ (xs : List α) (W : World) (l : Nat) (o o' : Obj), w.heap.size ≤ l → S xs W → W.heap[l]? = some o → o.isCells = false → S xs (W.putObj l o'))
    (hps : ∀ x, (encs x).size = ps.size) (I : List α → World → Prop) (hI : OwnFrom w.heap.size I) (hIE : ∀ pre W, I pre W → E pre W) (h0 : I [] w) (a₁ : α → Act)
    (hassign : ∀ (l : Nat) (x : α) (W : World) (K : Act → World → Prop), K (a₁ x) W →
      assign.wpIn (F.inRound l) (n - 1 - 1) P (Exit.then K (fun _ _ _ => False)) { tmps := (ps.zip (encs x)).foldl (fun t (p, v) => t.setIfInBounds p v) a.tmps, defers := [] } W)
    (hbody : ∀ (l : Nat) (pre : List α) (x : α) (W : World), I pre W → G pre x → body.wpIn (F.inRound l) (n - 1 - 1) P (fun e _ W' => e = .normal ∧ KeepsOthers W W' ∧ Kp W W' ∧ I (pre ++ [x]) W') (a₁ x) W)
    (hdone : ∀ (D : Nat) (xs : List α) (W : World), w.heap.size ≤ D → S xs W → I xs W → W.heap[D]? = some (.deferred (some [])) → Q .normal { a with defers := { target := .collected D, args := #[] } :: a.defers } W) :
    (Code.rangeFunc g ps assign body).wpIn F n P Q a w := by
  refine wpIn_rangeFunc ?_
  intro fn hfn
  rw [hro]
  have hsz : (w.alloc (.deferred (some []))).heap.size = w.heap.size + 1 := World.size_alloc _ _
  obtain ⟨W1, hW1⟩ : ∃ W1, (w.alloc (.deferred (some []))).alloc (.loop (recOf fn a.tmps ps assign body w.heap.size .ready)) = W1 := ⟨_, rfl⟩
  have hL1 : W1.heap[w.heap.size + 1]? = some (.loop (recOf fn a.tmps ps assign body w.heap.size .ready)) := by
    have := World.alloc_heap_new (w.alloc (.deferred (some []))) (.loop (recOf fn a.tmps ps assign body w.heap.size .ready))
    rwa [hsz, hW1] at this
  have hD1 : W1.heap[w.heap.size]? = some (.deferred (some [])) := by
    rw [← hW1]
    exact (Below.heap_alloc _ _ _ (by rw [hsz]; omega)).trans (World.alloc_heap_new w _)
  have hI1 : I [] W1 := by
    rw [← hW1]
    exact hI.alloc _ (hI.alloc _ h0)
  have hb1 : Below w.heap.size w W1 := by
    rw [← hW1]
    exact ((Below.refl _ w).alloc (Nat.le_refl _) _).alloc (by rw [hsz]; omega) _
  have hs1 : W1.heap.size = w.heap.size + 2 := by
    rw [← hW1, World.size_alloc, hsz]
  refine ⟨w.heap.size + 1, [{ target := .collected w.heap.size, args := #[] }], W1, { target := .fn (.func gf) lb, args := #[.func (.yield (w.heap.size + 1)) #[] #[]] }, W1, gf,
    #[.func (.yield (w.heap.size + 1)) #[] #[]] ++ lb, W1, ?_, ?_, ?_, ?_, fun _ => h1, ?_⟩
  · rw [← hW1]
    exact run_enterLoop_outer _ _ _ _ _
  · simp only [resolve, hg]
    simp [go_sem]
  · intro f' hf'
    simp [Target.leads] at hf'
    subst hf'
    exact hFg
  · simp [invoke, go_sem, eg]
  · have hJ : OwnFrom W1.heap.size (fun pre W => I pre W ∧ W.heap[w.heap.size + 1]? = some (.loop (recOf fn a.tmps ps assign body w.heap.size .ready)) ∧ W.heap[w.heap.size]? = some (.deferred (some []))) := by
      intro s A B row hs hgr hrow
      refine ⟨hI s A B row hs.1 hgr (fun r e => ⟨by have := (hrow r e).1; omega, (hrow r e).2⟩), ?_, ?_⟩
      · exact (hgr.block _ (Array.getElem?_eq_some_iff.1 hs.2.1).1 (fun e => by have := (hrow _ e.symm).1; omega)).trans hs.2.1
      · exact (hgr.block _ (Array.getElem?_eq_some_iff.1 hs.2.2).1 (fun e => by have := (hrow _ e.symm).1; omega)).trans hs.2.2
    refine (hseq (w.heap.size + 1) _ W1 hb1 hJ (fun pre W h => hIE pre W h.1) ?_ ⟨hI1, hL1, hD1⟩).mono ?_
    · rintro pre x W ⟨hi, hl, hd⟩ hG
      have hlt : w.heap.size + 1 < W.heap.size := (Array.getElem?_eq_some_iff.1 hl).1
      refine ⟨fn, _, assign, body, run_yield hl (hps x), roundIn_of_wpIn hfn (hassign _ x W _ ⟨_, run_beginRound hl rfl, ?_⟩)⟩
      obtain ⟨W2, hW2⟩ : ∃ W2, W.putObj (w.heap.size + 1) (.loop (recOf fn a.tmps ps assign body w.heap.size .busy)) = W2 := ⟨_, rfl⟩
      have hl2 : W2.heap[w.heap.size + 1]? = some (.loop (recOf fn a.tmps ps assign body w.heap.size .busy)) := by
        rw [← hW2]
        exact World.putObj_heap_same hlt
      have hd2 : W2.heap[w.heap.size]? = some (.deferred (some [])) := by
        rw [← hW2]
        exact (World.putObj_heap_other (by omega)).trans hd
      have hi2 : I pre W2 := by
        rw [← hW2]
        exact hI.putObj _ hi (by omega) hl rfl
      have hk2 : Kp W W2 := by
        rw [← hW2]
        exact hKb _ _ _ _ (by omega) hl rfl
      have hz2 : W.heap.size = W2.heap.size := by rw [← hW2]; simp
      have ho2 : ∀ k, k ≠ w.heap.size + 1 → W2.heap[k]? = W.heap[k]? := fun k hk => by
        rw [← hW2]
        exact World.putObj_heap_other hk
      show body.wpIn _ _ _ _ _ (W.putObj (w.heap.size + 1) (.loop (recOf fn a.tmps ps assign body w.heap.size .busy)))
      rw [hW2]
      refine wpIn_mono (hbody _ pre x W2 hi2 hG) ?_
      rintro e a3 W3 ⟨rfl, hko, hkp, hi3⟩
      have hl3 := hko.same _ _ hl2 rfl
      have hd3 := hko.same _ _ hd2 rfl
      have hlt3 := (Array.getElem?_eq_some_iff.1 hl3).1
      refine ⟨_, _, run_endRound none hl3, rfl, ⟨hI.putObj _ hi3 (by omega) hl3 rfl, World.putObj_heap_same hlt3, (World.putObj_heap_other (by omega)).trans hd3⟩, hKt (hKt hk2 hkp) (hKb _ _ _ _ (by omega) hl3 rfl), ?_⟩
      refine ⟨by have := hko.size; simp; omega, fun k o hk ho => ?_⟩
      by_cases e : k = w.heap.size + 1
      · subst e
        rw [hl] at hk
        rw [← hk]
        exact World.putObj_heap_same hlt3
      · exact (World.putObj_heap_other e).trans (hko.same _ _ ((ho2 k e).trans hk) ho)
    · rintro e W2 ⟨⟨v, rfl⟩, xs, hs, hi, hl, hd⟩
      exact ⟨none, _, run_endLoop hl (by simp [recOf]), hdone _ xs _ (Nat.le_refl _) (hS _ _ _ _ _ (by omega) hs hl rfl) (hI.putObj _ hi (by omega) hl rfl) ((World.putObj_heap_other (by omega)).trans hd)⟩

/-- A yield of another loop, within a round. -/
theorem YieldAt.inRound {l m l' m' : Nat} {args : Array Value} {W : World} {R : Ending → World → Prop} (h : YieldAt Fence.wide m P l args W R) : YieldAt (Fence.wide.inRound l') m' P l args W R := by
  obtain ⟨fn, t, asg, bo, hy, hR⟩ := h
  exact ⟨fn, t, asg, bo, hy, hR.1, fun c cs _ => hR.2 c cs (room_wide _)⟩

/-- What draws its order goes into a round as it is. -/
theorem opIn_of_op {l m : Nat} {o : Oper} {a : Act} {w : World} {K : Act → World → Prop} {Q : Exit → Act → World → Prop} (hd : ∀ c, o.op ≠ .defer c) (h : o.wp P a w K Q) : o.wpIn (Fence.wide.inRound l) m P a w K Q := by
  refine ⟨fun _ _ => trivial, ?_⟩
  have e : o.semAt (Fence.wide.inRound l).round a.eval = execOp a.eval o := Oper.semAt_plain _ _ _ hd
  rw [e]
  unfold Oper.wp at h
  generalize (execOp a.eval o).run P w = r at *
  cases r with
  | ok x w' =>
    cases x with
    | value v => exact h
    | skip => exact h
    | defer d => exact h
    | enter f args => exact ⟨fun h0 => by simp [Fence.wide, Fence.inRound] at h0, callsIn_wide (n := m - 1) |>.2 h⟩
    | row row args =>
      refine ⟨fun h0 => by simp [Fence.wide, Fence.inRound] at h0, fun c cs _ => ?_⟩
      obtain ⟨v, w2, hr, hs⟩ := h c cs
      exact ⟨v, w2, hr, stepsIn_wide.2 hs⟩
    | _ => exact h.elim
  | halt x w' => cases x <;> exact h
theorem anyIn_of_any {l m : Nat} {md : Region.Mode} {ops : Array Oper} {Q : Exit → Act → World → Prop} (hd : ∀ (i : Nat) (o : Oper), ops[i]? = some o → ∀ c, o.op ≠ .defer c) (hQ : ¬ LetsOut Q) : ∀ (fuel : Nat) (listed : Array Bool) (a : Act) (w : World), wpAny P md ops Q fuel listed a w → wpAnyIn (Fence.wide.inRound l) m P md ops Q fuel listed a w
  | 0, _, _, _, h => h
  | fuel + 1, listed, a, w, h => by
    refine ⟨h.1, fun i hi => ?_⟩
    have h2 := h.2 i hi
    unfold wpOp at h2
    unfold wpOpIn
    cases ho : ops[i]? with
    | none =>
      rw [ho] at h2
      exact anyIn_of_any hd hQ fuel _ _ _ h2
    | some o =>
      rw [ho] at h2
      simp only at h2 ⊢
      split at h2
      · rename_i hw
        rw [if_pos hw]
        rcases h2 with h2 | h2
        · exact Oper.wpIn_mono (fun a' w' h' => anyIn_of_any hd hQ fuel _ _ _ h') (opIn_of_op (hd i o ho) h2)
        · exact absurd h2.2 hQ
      · rename_i hw
        rw [if_neg hw]
        exact ⟨fun _ _ => trivial, anyIn_of_any hd hQ fuel _ _ _ h2⟩
theorem wpIn_region_lift {l m id : Nat} {ops : Array Oper} {Q : Exit → Act → World → Prop} {a : Act} {w : World} (hm : P.follows .mixedOrders = true) (hd : ∀ o ∈ ops.toList, ∀ c, o.op ≠ .defer c) (hQ : ¬ LetsOut Q)
    (h : wpAny P .any ops Q ops.size (Array.replicate ops.size false) a w.drew) : (Code.region id ops true).wpIn (Fence.wide.inRound l) m P Q a w :=
  wpIn_region_any hm (anyIn_of_any (fun i o ho => hd o (by rw [Array.mem_toList_iff]; exact Array.mem_of_getElem? ho)) hQ _ _ _ _ h)
theorem wpIn_region_parts {lp n0 : Nat} {ops : Array Oper} {Q : Exit → Act → World → Prop} {S : World → Prop} {id : Nat} {a : Act} {w : World} (k m : Nat) (l1 : List Oper) (hm : P.follows .mixedOrders = true) (hp : inParts .any ops k = true) (hs : ops.size = k + m) (h1 : ops.toList.take k = l1) (hd : ∀ o ∈ ops.toList, ∀ c, o.op ≠ .defer c) (hQ : ¬ LetsOut Q) (hS : S w.drew)
    (h : S w.drew → wpAnyH P .any l1.toArray (upto (fun a w => wpAny P .any ops Q m (marks k (k + m)) a w) Q) S k (Array.replicate k false) a w.drew) : (Code.region id ops true).wpIn (Fence.wide.inRound lp) n0 P Q a w := by
  refine wpIn_region_lift hm hd hQ ?_
  have hs1 : l1.toArray.size = k := by rw [← h1, List.size_toArray, List.length_take, Array.length_toList]; omega
  have hops : ∀ j, j < k → l1.toArray[j]? = ops[j]? := fun j hj => by
    rw [← Array.getElem?_toList, ← Array.getElem?_toList, ← h1, List.toList_toArray, List.getElem?_take]
    simp [hj]
  have h2 := wpAny_of_held _ _ _ _ (h hS)
  rw [← hs] at h2
  have H : Halves ops k (Array.replicate ops.size false) (Array.replicate k false) := by
    refine ⟨by simp, by simp, fun j hj => ?_, fun j _ hj => ?_⟩
    · rw [Array.getElem?_replicate, Array.getElem?_replicate]
      simp [hj, show j < ops.size by omega]
    · rw [Array.getElem?_replicate]
      simp [hj]
  have := wpAny_parts hp hops hs1 (by omega) k _ _ a _ H h2
  rw [← hs] at this
  exact this
theorem KeepsOthers.drew' (W : World) : KeepsOthers W W.drew := ⟨Nat.le_refl _, fun _ _ h _ => h⟩
theorem letsOut_no {p : Act → World → Prop} : ¬ LetsOut (fun e a w => e = .normal ∧ p a w) := fun ⟨_, _, h⟩ => by cases h.1
end Go.Proofs.YtajccmkdfmpapaaGreatDoor
namespace Go.Proofs.YtajccmkdfmpapaaGreatDoor
open Go.RowKit
attribute [local go_sem] Oper.semAt_some

/-- Types of blocks that no body of a loop over entries writes to. -/
def KTy (T : TypeId) : Prop := T = 34 ∨ T = 24 ∨ T = 120
/-- What lay ahead of block NB lies as it lay, but X; and so do all blocks of those types. -/
structure KeepT (NB : Nat) (X : Nat → Prop) (A B : World) : Prop where
  size : A.heap.size ≤ B.heap.size
  block : ∀ k, k < NB → ¬ X k → B.heap[k]? = A.heap[k]?
  ty : ∀ k T cs, KTy T → Blk A k T cs → Blk B k T cs
section
variable {NB : Nat} {X : Nat → Prop} {A B C : World}
theorem KeepT.refl (A : World) : KeepT NB X A A := ⟨Nat.le_refl _, fun _ _ _ => rfl, fun _ _ _ _ h => h⟩
theorem KeepT.trans (h : KeepT NB X A B) (k : KeepT NB X B C) : KeepT NB X A C := ⟨Nat.le_trans h.size k.size, fun i hi hn => (k.block i hi hn).trans (h.block i hi hn), fun i T cs ht hb => k.ty i T cs ht (h.ty i T cs ht hb)⟩
theorem KeepT.putObj {l : Nat} {o : Obj} (o' : Obj) (hl : NB ≤ l) (h : A.heap[l]? = some o) (ho : o.isCells = false) : KeepT NB X A (A.putObj l o') :=
  ⟨by simp, fun k hk _ => World.putObj_heap_other (by omega), fun k T cs _ hb => by
    have : k ≠ l := fun e => by
      subst e
      unfold Blk at hb
      rw [hb] at h
      rw [← Option.some.inj h] at ho
      simp [Obj.isCells] at ho
    exact (World.putObj_heap_other this).trans hb⟩
theorem KeepT.of_below (hN : NB ≤ A.heap.size) (h : Below A.heap.size A B) : KeepT NB X A B := ⟨h.size, fun k hk _ => h.block k (by omega), fun k T cs _ hb => hb.up h (lt_of_block hb)⟩
theorem KeepT.grown {row : Option Nat} (hN : NB ≤ A.heap.size) (h : A.grownBy B row) (hr : ∀ g, row = some g → (X g ∨ NB ≤ g) ∧ ∃ T cs, Blk A g T cs ∧ ¬ KTy T) : KeepT NB X A B :=
  ⟨h.size, fun k hk hn => h.block k (by omega) (fun e => by
    rcases (hr k e.symm).1 with h1 | h1
    · exact hn h1
    · omega), fun k T cs ht hb => by
    refine (h.block k (lt_of_block hb) (fun e => ?_)).trans hb
    obtain ⟨_, T2, cs2, hb2, hn⟩ := hr k e.symm
    unfold Blk at hb hb2
    rw [hb] at hb2
    have := Option.some.inj hb2
    injection this with _ e2
    subst e2
    exact hn ht⟩
theorem KeepT.blk {k : Nat} {T : TypeId} {cs : List Value} (h : KeepT NB X A B) (hb : Blk A k T cs) (h1 : k < NB) (h2 : ¬ X k) : Blk B k T cs := (h.block k h1 h2).trans hb
theorem KeepT.cell {k : Nat} {T : TypeId} {cs : List Value} {i : Nat} (h : KeepT NB X A B) (ht : KTy T) (hb : Blk A k T cs) : B.cell? ⟨k, i, none⟩ = A.cell? ⟨k, i, none⟩ := by
  have h2 := h.ty k T cs ht hb
  rw [cell_of_row _ k i cs.toArray T (0, 0) h2, cell_of_row _ k i cs.toArray T (0, 0) hb]
theorem KeepT.ix {ib : Nat} {I : IxS} (h : KeepT NB X A B) (hi : IxM A ib I) (h1 : ib < NB) (h2 : ¬ X ib) : IxM B ib I := by
  obtain ⟨⟨cs, T, hC, hT⟩, hw⟩ := hi
  exact ⟨⟨cs, T, ⟨h.blk hC.b h1 h2, hC.len, hC.r, hC.m, hC.p⟩, hT⟩, hw⟩
end
/-- What known leans on. -/
structure KnSt (u : World) (cb kb ib eb PB : Nat) (σ : Nat → Nat) (S : CaS) : Prop where
  b : Blk u cb 76 [.pointer (some ⟨kb, 0, none⟩), .pointer (some ⟨ib, 0, none⟩), .slice (some ⟨eb, 0, none⟩) S.n S.n]
  x : IxM u ib (ixs σ S)
  p : Blk u PB 24 [.pointer (some ⟨cb, 0, none⟩)]
theorem KnSt.keep {NB : Nat} {X : Nat → Prop} {A B : World} {cb kb ib eb PB : Nat} {σ : Nat → Nat} {S : CaS} (h : KnSt A cb kb ib eb PB σ S) (hk : KeepT NB X A B) (h1 : cb < NB) (h2 : ¬ X cb) (h3 : ib < NB) (h4 : ¬ X ib) : KnSt B cb kb ib eb PB σ S :=
  ⟨hk.blk h.b h1 h2, hk.ix h.x h3 h4, hk.ty _ _ _ (.inr (.inl rfl)) h.p⟩
theorem KnSt.up {A B : World} {cb kb ib eb PB : Nat} {σ : Nat → Nat} {S : CaS} (h : KnSt A cb kb ib eb PB σ S) (hb : Below A.heap.size A B) : KnSt B cb kb ib eb PB σ S := ⟨h.b.up hb (lt_of_block h.b), h.x.up hb, h.p.up hb (lt_of_block h.p)⟩
def encP (σ : Nat → Nat) (eb : Nat) (e : CE) : Array Value := #[.pointer (some ⟨eb, σ e.b * 3, none⟩)]
/-- x comes behind pre in L. -/
def Nxt (L : List CE) (pre : List CE) (x : CE) : Prop := ∃ post, pre ++ x :: post = L
theorem keys_prsE (σ : Nat → Nat) (L : List CE) : keysL (prsE σ L) = L.map CE.b := by
  unfold keysL prsE
  rw [List.map_map]
  rfl
set_option maxHeartbeats 2000000 in
set_option maxRecDepth 100000 in
theorem lknownA_in {cb kb ib eb PB NB : Nat} {X : Nat → Prop} {σ : Nat → Nat} {S : CaS} (hsl : ∀ e ∈ S.E, σ e.b < S.n) (hwf : S.WF) (h1 : cb < NB) (h2 : ¬ X cb) (h3 : ib < NB) (h4 : ¬ X ib) (ly : Nat) (J : List CE → World → Prop) (W : World) (hN : NB ≤ W.heap.size) (hJ : OwnFrom W.heap.size J)
    (hY : ∀ pre x W1, J pre W1 → Nxt S.E pre x → YieldAt Fence.wide 1 Tryz.prog ly (encP σ eb x) W1 fun e W' => e = .returned (.bool true) ∧ J (pre ++ [x]) W' ∧ KeepT NB X W1 W' ∧ KeepsOthers W1 W')
    (h0 : J [] W) (hst : KnSt W cb kb ib eb PB σ S) :
    Calls Tryz.prog 59 #[.func (.yield ly) #[] #[], .pointer (some ⟨PB, 0, none⟩)] W fun e W' => (∃ v, e = .returned v) ∧ ∃ xs, xs = S.E ∧ J xs W' := by
  have HY := Lib.hid hY
  have HJ := Lib.hid hJ
  have HK := Lib.hid (And.intro h1 (And.intro h2 (And.intro h3 h4)))
  have HX := Lib.hid (xkeysT_at hst.x)
  have HSL := Lib.hid hsl
  have HST := Lib.hid hst
  have HN := Lib.hid hN
  have H0 := Lib.hid h0
  have hn64 := hwf.n64
  have hle := hwf.le
  have HWF := Lib.hid hwf
  have pb := hst.p.cell 0 (by simp)
  have cb1 := hst.b.cell 1 (by simp)
  simp only [List.getElem_cons_zero, List.getElem_cons_succ] at pb cb1
  obtain ⟨n, hn⟩ : ∃ n, S.E.length = n := ⟨_, rfl⟩
  have hkl : (keysL (ixs σ S).L).length = n := by rw [← hn]; simp [keysL, ixs, prsE]
  have HKL := Lib.hid hkl
  have HLN := Lib.hid hn
  have HKE : Hid (keysL (ixs σ S).L = S.E.map CE.b) := Lib.hid (keys_prsE σ S.E)
  obtain ⟨R, hR⟩ : ∃ R, S.n = R := ⟨_, rfl⟩
  have HR := Lib.hid hR
  rw [hn, hR] at hle
  rw [hR] at hn64
  clear hY hJ h1 h2 h3 h4 hst hsl hwf hN h0 hn hkl hR
  go_enter Tryz.func59, Tryz.ntmps59
  go_wp2_with fail
  refine HX.out.mono ?_
  rintro r w1 ⟨A, c, rfl, hF, hb, hty⟩
  rw [HKL.out] at hF ⊢
  rw [HKE.out] at hF
  have HB1 := Lib.hid hb
  have HF := Lib.hid hF
  have HTY := Lib.hid hty
  have HJ1 := Lib.hid (OwnFrom.step HJ.out H0.out hb)
  have hsz1 := hb.size
  have HN1 : Hid (NB ≤ w1.heap.size) := Lib.hid (by have := HN.out; omega)
  have HS1 := Lib.hid (HST.out.up hb)
  have HRD : Hid (RdV w1 w1.heap.size A (uC (S.E.map CE.b))) := Lib.hid (by
    obtain ⟨A', c', e, _, hr, _⟩ := hF
    injection e with e1
    subst e1
    exact hr)
  clear hF hb hty HX H0 pb cb1
  go_wp2_with fail
  go_loopg [13] n (fun q x wr => ∃ j : Nat, j ≤ n ∧ q = n - j ∧ x = .int .i64 (j : Int) ∧ J (S.E.take j) wr ∧ KeepT NB X w1 wr)
  case atStart => exact ⟨0, by omega, rfl, rfl, HJ1.out, KeepT.refl _⟩
  case round =>
    clear HJ1
    obtain ⟨j, hj, hq, rfl, hjp, hkr⟩ := hrel
    have HQ := Lib.hid hq
    have HJP := Lib.hid hjp
    have HKR := Lib.hid hkr
    clear hq hjp hkr
    by_cases hlt : j < n
    · have hll : j < S.E.length := by rw [HLN.out]; exact hlt
      obtain ⟨b, o, hA, hbl, hcell⟩ := HRD.out (by rw [uC_len, List.length_map, HLN.out]; omega)
      subst hA
      obtain ⟨e, he⟩ : ∃ e, S.E[j] = e := ⟨_, rfl⟩
      have HM : Hid (e ∈ S.E) := Lib.hid (by rw [← he]; exact List.getElem_mem hll)
      have HTK : Hid (S.E.take (j + 1) = S.E.take j ++ [e]) := Lib.hid (by rw [List.take_succ_eq_append_getElem hll, he])
      have HNX : Hid (Nxt S.E (S.E.take j) e) := Lib.hid ⟨S.E.drop (j + 1), by rw [← he, List.getElem_cons_drop, List.take_append_drop]⟩
      have kc : wr.cell? ⟨b, o + j, none⟩ = some (.int .u32 (e.b : Int)) := by
        obtain ⟨cs, hB⟩ := HTY.out b o none rfl
        rw [HKR.out.cell (.inl rfl) hB, hcell j (by rw [uC_len, List.length_map]; exact hll)]
        simp [uC, he]
      have HSR := Lib.hid (HS1.out.keep HKR.out HK.out.1 HK.out.2.1 HK.out.2.2.1 HK.out.2.2.2)
      have pb := HSR.out.p.cell 0 (by simp)
      have cb1 := HSR.out.b.cell 1 (by simp)
      simp only [List.getElem_cons_zero, List.getElem_cons_succ] at pb cb1
      have HG := Lib.hid (xget_at e.b HSR.out.x)
      have hsn : σ e.b < R := by have := HSL.out e HM.out; rw [HR.out] at this; exact this
      have hhas : S.has (e.b : Int) = true := CaS.mem_has HM.out rfl
      have HGV : Hid ((ixs σ S).getN e.b = (σ e.b : Int) ∧ (ixs σ S).has e.b = true) := Lib.hid ⟨by rw [ixs_get, slotOf_yes (e := e) hhas (by simp)], by rw [ixs_has, hhas]⟩
      have HYY := Lib.hid (fun w' hj => HY.out (S.E.take j) e w' hj HNX.out)
      unfold encP at HYY
      obtain ⟨s, hs⟩ : ∃ s, σ e.b = s := ⟨_, rfl⟩
      rw [hs] at hsn HGV HYY
      obtain ⟨k, hk⟩ : ∃ k, e.b = k := ⟨_, rfl⟩
      rw [hk] at kc HG HGV
      clear hcell he hs hk hhas HNX
      go_wp2_with fail
      refine HG.out.mono ?_
      rintro r w4 ⟨rfl, hb⟩
      rw [HGV.out.1, HGV.out.2]
      have HK4 : Hid (KeepT NB X w1 w4) := Lib.hid (HKR.out.trans (KeepT.of_below (by have := HKR.out.size; have := HN1.out; omega) hb))
      have HJ4 := Lib.hid (OwnFrom.step HJ.out HJP.out hb)
      have HS4 := Lib.hid (HSR.out.up hb)
      have pb4 := HS4.out.p.cell 0 (by simp)
      have cb4 := HS4.out.b.cell 2 (by simp)
      rw [HR.out] at cb4
      simp only [List.getElem_cons_zero, List.getElem_cons_succ] at pb4 cb4
      clear hb HG HKR HSR HJP pb cb1 kc
      go_upto_region 4 with fail
      obtain ⟨fn, tmps, assign, body, hy, hRI⟩ := HYY.out w4 HJ4.out
      have HRI := Lib.hid hRI
      clear hRI
      refine (wpIn_wide (n := 2)).1 ?_
      gi_wp2
      refine HRI.out.mono ?_
      rintro e' w5 ⟨rfl, hj5, hk5, hko5⟩
      have HJ5 : Hid (J (S.E.take (j + 1)) w5) := Lib.hid (by rw [HTK.out]; exact hj5)
      have HK5 := Lib.hid (HK4.out.trans hk5)
      clear hj5 hk5 hko5 HRI hy HYY HJ4 HS4 pb4 cb4 HK4
      gi_wp2
      go_wp2_with fail
      go_roundg (n - (j + 1))
      case rel => exact ⟨j + 1, by omega, rfl, by go_num, HJ5.out, HK5.out⟩
      case measure => have := HQ.out; omega
    · obtain rfl : j = n := by omega
      have HE : Hid (J S.E wr) := Lib.hid (by
        have := HJP.out
        rwa [← HLN.out, List.take_length] at this)
      clear HJP HKR
      go_wp2_with fail
      go_end0
      exact ⟨⟨_, rfl⟩, S.E, rfl, HE.out⟩
end Go.Proofs.YtajccmkdfmpapaaGreatDoor
