/-
  A range over a function whose iterator says which element comes when, and at its end what lies in the world; an iterator may itself range over another one. Regions that draw their order, within a round. For whatever program.
-/
import Derived.Test.YtmoagooabmmmgaaRng
import Derived.Test.YtmoagooabmmmgaaPhase
import Derived.OrdersIn
import Derived.OwnWalkIn
import Derived.RangeFuncCalls
namespace Go.Proofs.Ytmoagooabmmmgaa
open Go.RowKit

/-- What an iterator promises of a body that always goes on: x comes behind pre only where G pre x; E is what it leans on; behind all rounds S of what has come, and of the world. -/
def SeqSeenG {α : Type} (F : Fence) (n : Nat) (P : Program) (g : Nat) (lb : Array Value) (encs : α → Array Value) (Kp : World → World → Prop) (E : List α → World → Prop) (G : List α → α → Prop) (S : List α → World → Prop) (w : World) : Prop :=
  ∀ (l : Nat) (J : List α → World → Prop) (W : World), Below w.heap.size w W → OwnFrom W.heap.size J → (∀ pre W1, J pre W1 → E pre W1) →
    (∀ pre x W1, J pre W1 → G pre x → YieldAt F (n - 1) P l (encs x) W1 fun e W' => e = .returned (.bool true) ∧ J (pre ++ [x]) W' ∧ Kp W1 W' ∧ KeepsOthers W1 W') → J [] W →
    CallsIn F n P g (#[.func (.yield l) #[] #[]] ++ lb) W fun e W' => (∃ v, e = .returned v) ∧ ∃ xs, S xs W' ∧ J xs W'

variable {F : Fence} {n : Nat} {P : Program}
theorem OwnFrom.step {β : Type} {B : Nat} {J : β → World → Prop} (h : OwnFrom B J) {s : β} {A C : World} (hj : J s A) (hb : Below A.heap.size A C) : J s C :=
  h s A C none hj ⟨hb.os, hb.tape, hb.output, hb.size, fun k hk _ => hb.block k hk⟩ (fun r e => by cases e)
theorem OwnFrom.mono {β : Type} {B B' : Nat} {J : β → World → Prop} (h : OwnFrom B J) (hB : B ≤ B') : OwnFrom B' J := fun s W W' row hs hg hr => h s W W' row hs hg (fun r e => ⟨Nat.le_trans hB (hr r e).1, (hr r e).2⟩)

theorem range_seenG {α : Type} {g : Operand} {ps : Array Tmp} {assign body : Code} {Q : Exit → Act → World → Prop} {a : Act} {w : World}
    (hro : F.round = none) (h1 : 1 ≤ n) {gf : Nat} {lb : Array Value} (hg : a.eval g = .func (.func gf) #[] lb) (hFg : F.fn gf) (eg : ∀ args w, (callFunc gf args).run P w = .ok (.enter gf args) w)
    {encs : α → Array Value} {Kp : World → World → Prop} {E : List α → World → Prop} {G : List α → α → Prop} {S : List α → World → Prop} (hseq : SeqSeenG F (n - 1) P gf lb encs Kp E G S w)
    (hKt : ∀ {A B C : World}, Kp A B → Kp B C → Kp A C) (hKb : ∀ (W : World) (l : Nat) (o o' : Obj), w.heap.size ≤ l → W.heap[l]? = some o → o.isCells = false → Kp W (W.putObj l o'))
    (hS : ∀ (xs : List α) (W : World) (l : Nat) (o o' : Obj), w.heap.size ≤ l → S xs W → W.heap[l]? = some o → o.isCells = false → S xs (W.putObj l o'))
    (hps : ∀ x, (encs x).size = ps.size) (I : List α → World → Prop) (hI : OwnFrom w.heap.size I) (hIE : ∀ pre W, I pre W → E pre W) (h0 : I [] w) (a₁ : α → Act)
    (hassign : ∀ (l : Nat) (x : α) (W : World) (K : Act → World → Prop), K (a₁ x) W →
      assign.wpIn (F.inRound l) (n - 1 - 1) P (Exit.then K (fun _ _ _ => False)) { tmps := (ps.zip (encs x)).foldl (fun t (p, v) => t.setIfInBounds p v) a.tmps, defers := [] } W)
    (hbody : ∀ (l : Nat) (pre : List α) (x : α) (W : World), I pre W → G pre x → body.wpIn (F.inRound l) (n - 1 - 1) P (fun e _ W' => e = .normal ∧ KeepsOthers W W' ∧ Kp W W' ∧ I (pre ++ [x]) W') (a₁ x) W)
    (hdone : ∀ (D : Nat) (xs : List α) (W : World), w.heap.size ≤ D → S xs W → I xs W → W.heap[D]? = some (.deferred (some [])) → Q .normal { a with defers := { target := .collected D, args := #[] } :: a.defers } W) :
    (Code.rangeFunc g ps assign body).wpIn F n P Q a w := by
  refine wpIn_rangeFunc ?_
  intro fn hfn
  rw [hro]
  have hsz : (w.alloc (.deferred (some []))).heap.size = w.heap.size + 1 := World.size_alloc _ _
  obtain ⟨W1, hW1⟩ : ∃ W1, (w.alloc (.deferred (some []))).alloc (.loop (recOf fn a.tmps ps assign body w.heap.size .ready)) = W1 := ⟨_, rfl⟩
  have hL1 : W1.heap[w.heap.size + 1]? = some (.loop (recOf fn a.tmps ps assign body w.heap.size .ready)) := by
    have := World.alloc_heap_new (w.alloc (.deferred (some []))) (.loop (recOf fn a.tmps ps assign body w.heap.size .ready))
    rwa [hsz, hW1] at this
  have hD1 : W1.heap[w.heap.size]? = some (.deferred (some [])) := by
    rw [← hW1]
    exact (Below.heap_alloc _ _ _ (by rw [hsz]; omega)).trans (World.alloc_heap_new w _)
  have hI1 : I [] W1 := by
    rw [← hW1]
    exact hI.alloc _ (hI.alloc _ h0)
  have hb1 : Below w.heap.size w W1 := by
    rw [← hW1]
    exact ((Below.refl _ w).alloc (Nat.le_refl _) _).alloc (by rw [hsz]; omega) _
  have hs1 : W1.heap.size = w.heap.size + 2 := by
    rw [← hW1, World.size_alloc, hsz]
  refine ⟨w.heap.size + 1, [{ target := .collected w.heap.size, args := #[] }], W1, { target := .fn (.func gf) lb, args := #[.func (.yield (w.heap.size + 1)) #[] #[]] }, W1, gf,
    #[.func (.yield (w.heap.size + 1)) #[] #[]] ++ lb, W1, ?_, ?_, ?_, ?_, fun _ => h1, ?_⟩
  · rw [← hW1]
    exact run_enterLoop_outer _ _ _ _ _
  · simp only [resolve, hg]
    simp [go_sem]
  · intro f' hf'
    simp [Target.leads] at hf'
    subst hf'
    exact hFg
  · simp [invoke, go_sem, eg]
  · have hJ : OwnFrom W1.heap.size (fun pre W => I pre W ∧ W.heap[w.heap.size + 1]? = some (.loop (recOf fn a.tmps ps assign body w.heap.size .ready)) ∧ W.heap[w.heap.size]? = some (.deferred (some []))) := by
      intro s A B row hs hgr hrow
      refine ⟨hI s A B row hs.1 hgr (fun r e => ⟨by have := (hrow r e).1; omega, (hrow r e).2⟩), ?_, ?_⟩
      · exact (hgr.block _ (Array.getElem?_eq_some_iff.1 hs.2.1).1 (fun e => by have := (hrow _ e.symm).1; omega)).trans hs.2.1
      · exact (hgr.block _ (Array.getElem?_eq_some_iff.1 hs.2.2).1 (fun e => by have := (hrow _ e.symm).1; omega)).trans hs.2.2
    refine (hseq (w.heap.size + 1) _ W1 hb1 hJ (fun pre W h => hIE pre W h.1) ?_ ⟨hI1, hL1, hD1⟩).mono ?_
    · rintro pre x W ⟨hi, hl, hd⟩ hG
      have hlt : w.heap.size + 1 < W.heap.size := (Array.getElem?_eq_some_iff.1 hl).1
      refine ⟨fn, _, assign, body, run_yield hl (hps x), roundIn_of_wpIn hfn (hassign _ x W _ ⟨_, run_beginRound hl rfl, ?_⟩)⟩
      obtain ⟨W2, hW2⟩ : ∃ W2, W.putObj (w.heap.size + 1) (.loop (recOf fn a.tmps ps assign body w.heap.size .busy)) = W2 := ⟨_, rfl⟩
      have hl2 : W2.heap[w.heap.size + 1]? = some (.loop (recOf fn a.tmps ps assign body w.heap.size .busy)) := by
        rw [← hW2]
        exact World.putObj_heap_same hlt
      have hd2 : W2.heap[w.heap.size]? = some (.deferred (some [])) := by
        rw [← hW2]
        exact (World.putObj_heap_other (by omega)).trans hd
      have hi2 : I pre W2 := by
        rw [← hW2]
        exact hI.putObj _ hi (by omega) hl rfl
      have hk2 : Kp W W2 := by
        rw [← hW2]
        exact hKb _ _ _ _ (by omega) hl rfl
      have hz2 : W.heap.size = W2.heap.size := by rw [← hW2]; simp
      have ho2 : ∀ k, k ≠ w.heap.size + 1 → W2.heap[k]? = W.heap[k]? := fun k hk => by
        rw [← hW2]
        exact World.putObj_heap_other hk
      show body.wpIn _ _ _ _ _ (W.putObj (w.heap.size + 1) (.loop (recOf fn a.tmps ps assign body w.heap.size .busy)))
      rw [hW2]
      refine wpIn_mono (hbody _ pre x W2 hi2 hG) ?_
      rintro e a3 W3 ⟨rfl, hko, hkp, hi3⟩
      have hl3 := hko.same _ _ hl2 rfl
      have hd3 := hko.same _ _ hd2 rfl
      have hlt3 := (Array.getElem?_eq_some_iff.1 hl3).1
      refine ⟨_, _, run_endRound none hl3, rfl, ⟨hI.putObj _ hi3 (by omega) hl3 rfl, World.putObj_heap_same hlt3, (World.putObj_heap_other (by omega)).trans hd3⟩, hKt (hKt hk2 hkp) (hKb _ _ _ _ (by omega) hl3 rfl), ?_⟩
      refine ⟨by have := hko.size; simp; omega, fun k o hk ho => ?_⟩
      by_cases e : k = w.heap.size + 1
      · subst e
        rw [hl] at hk
        rw [← hk]
        exact World.putObj_heap_same hlt3
      · exact (World.putObj_heap_other e).trans (hko.same _ _ ((ho2 k e).trans hk) ho)
    · rintro e W2 ⟨⟨v, rfl⟩, xs, hs, hi, hl, hd⟩
      exact ⟨none, _, run_endLoop hl (by simp [recOf]), hdone _ xs _ (Nat.le_refl _) (hS _ _ _ _ _ (by omega) hs hl rfl) (hI.putObj _ hi (by omega) hl rfl) ((World.putObj_heap_other (by omega)).trans hd)⟩

/-- A yield of another loop, within a round. -/
theorem YieldAt.inRound {l m l' m' : Nat} {args : Array Value} {W : World} {R : Ending → World → Prop} (h : YieldAt Fence.wide m P l args W R) : YieldAt (Fence.wide.inRound l') m' P l args W R := by
  obtain ⟨fn, t, asg, bo, hy, hR⟩ := h
  exact ⟨fn, t, asg, bo, hy, hR.1, fun c cs _ => hR.2 c cs (room_wide _)⟩

/-- What draws its order goes into a round as it is. -/
theorem opIn_of_op {l m : Nat} {o : Oper} {a : Act} {w : World} {K : Act → World → Prop} {Q : Exit → Act → World → Prop} (hd : ∀ c, o.op ≠ .defer c) (h : o.wp P a w K Q) : o.wpIn (Fence.wide.inRound l) m P a w K Q := by
  refine ⟨fun _ _ => trivial, ?_⟩
  have e : o.semAt (Fence.wide.inRound l).round a.eval = execOp a.eval o := Oper.semAt_plain _ _ _ hd
  rw [e]
  unfold Oper.wp at h
  generalize (execOp a.eval o).run P w = r at *
  cases r with
  | ok x w' =>
    cases x with
    | value v => exact h
    | skip => exact h
    | defer d => exact h
    | enter f args => exact ⟨fun h0 => by simp [Fence.wide, Fence.inRound] at h0, callsIn_wide (n := m - 1) |>.2 h⟩
    | row row args =>
      refine ⟨fun h0 => by simp [Fence.wide, Fence.inRound] at h0, fun c cs _ => ?_⟩
      obtain ⟨v, w2, hr, hs⟩ := h c cs
      exact ⟨v, w2, hr, stepsIn_wide.2 hs⟩
    | _ => exact h.elim
  | halt x w' => cases x <;> exact h
theorem anyIn_of_any {l m : Nat} {md : Region.Mode} {ops : Array Oper} {Q : Exit → Act → World → Prop} (hd : ∀ (i : Nat) (o : Oper), ops[i]? = some o → ∀ c, o.op ≠ .defer c) (hQ : ¬ LetsOut Q) : ∀ (fuel : Nat) (listed : Array Bool) (a : Act) (w : World), wpAny P md ops Q fuel listed a w → wpAnyIn (Fence.wide.inRound l) m P md ops Q fuel listed a w
  | 0, _, _, _, h => h
  | fuel + 1, listed, a, w, h => by
    refine ⟨h.1, fun i hi => ?_⟩
    have h2 := h.2 i hi
    unfold wpOp at h2
    unfold wpOpIn
    cases ho : ops[i]? with
    | none =>
      rw [ho] at h2
      exact anyIn_of_any hd hQ fuel _ _ _ h2
    | some o =>
      rw [ho] at h2
      simp only at h2 ⊢
      split at h2
      · rename_i hw
        rw [if_pos hw]
        rcases h2 with h2 | h2
        · exact Oper.wpIn_mono (fun a' w' h' => anyIn_of_any hd hQ fuel _ _ _ h') (opIn_of_op (hd i o ho) h2)
        · exact absurd h2.2 hQ
      · rename_i hw
        rw [if_neg hw]
        exact ⟨fun _ _ => trivial, anyIn_of_any hd hQ fuel _ _ _ h2⟩
theorem wpIn_region_lift {l m id : Nat} {ops : Array Oper} {Q : Exit → Act → World → Prop} {a : Act} {w : World} (hm : P.follows .mixedOrders = true) (hd : ∀ o ∈ ops.toList, ∀ c, o.op ≠ .defer c) (hQ : ¬ LetsOut Q)
    (h : wpAny P .any ops Q ops.size (Array.replicate ops.size false) a w.drew) : (Code.region id ops true).wpIn (Fence.wide.inRound l) m P Q a w :=
  wpIn_region_any hm (anyIn_of_any (fun i o ho => hd o (by rw [Array.mem_toList_iff]; exact Array.mem_of_getElem? ho)) hQ _ _ _ _ h)
theorem wpIn_region_parts {lp n0 : Nat} {ops : Array Oper} {Q : Exit → Act → World → Prop} {S : World → Prop} {id : Nat} {a : Act} {w : World} (k m : Nat) (l1 : List Oper) (hm : P.follows .mixedOrders = true) (hp : inParts .any ops k = true) (hs : ops.size = k + m) (h1 : ops.toList.take k = l1) (hd : ∀ o ∈ ops.toList, ∀ c, o.op ≠ .defer c) (hQ : ¬ LetsOut Q) (hS : S w.drew)
    (h : S w.drew → wpAnyH P .any l1.toArray (upto (fun a w => wpAny P .any ops Q m (marks k (k + m)) a w) Q) S k (Array.replicate k false) a w.drew) : (Code.region id ops true).wpIn (Fence.wide.inRound lp) n0 P Q a w := by
  refine wpIn_region_lift hm hd hQ ?_
  have hs1 : l1.toArray.size = k := by rw [← h1, List.size_toArray, List.length_take, Array.length_toList]; omega
  have hops : ∀ j, j < k → l1.toArray[j]? = ops[j]? := fun j hj => by
    rw [← Array.getElem?_toList, ← Array.getElem?_toList, ← h1, List.toList_toArray, List.getElem?_take]
    simp [hj]
  have h2 := wpAny_of_held _ _ _ _ (h hS)
  rw [← hs] at h2
  have H : Halves ops k (Array.replicate ops.size false) (Array.replicate k false) := by
    refine ⟨by simp, by simp, fun j hj => ?_, fun j _ hj => ?_⟩
    · rw [Array.getElem?_replicate, Array.getElem?_replicate]
      simp [hj, show j < ops.size by omega]
    · rw [Array.getElem?_replicate]
      simp [hj]
  have := wpAny_parts hp hops hs1 (by omega) k _ _ a _ H h2
  rw [← hs] at this
  exact this
theorem KeepsOthers.drew' (W : World) : KeepsOthers W W.drew := ⟨Nat.le_refl _, fun _ _ h _ => h⟩
theorem letsOut_no {p : Act → World → Prop} : ¬ LetsOut (fun e a w => e = .normal ∧ p a w) := fun ⟨_, _, h⟩ => by cases h.1
end Go.Proofs.Ytmoagooabmmmgaa
