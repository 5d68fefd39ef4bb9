/-
  A range over a function whose iterator says which element comes when; what is assigned may make memory, and the body may write a map that lay there at first. For whatever program.
-/
import Derived.Test.YtckkgjggoopjiaaChecked
import Derived.RangeFuncFrom
import Derived.RangeFuncBox
namespace Go.Proofs.Ytckkgjggoopjiaa
open Go.RowKit

/-- What an iterator promises of a body that always goes on: x comes behind pre only where G pre x; behind all rounds S of what has come. -/
def SeqSeenM {α : Type} (F : Fence) (n : Nat) (P : Program) (g : Nat) (lb : Array Value) (encs : α → Array Value) (Kp : World → World → Prop) (G : List α → α → Prop) (S : List α → Prop) (w : World) : Prop :=
  ∀ (l : Nat) (J : List α → World → Prop) (W : World), Below w.heap.size w W → OwnFrom W.heap.size J →
    (∀ pre x W1, J pre W1 → G pre x → YieldAt F (n - 1) P l (encs x) W1 fun e W' => e = .returned (.bool true) ∧ J (pre ++ [x]) W' ∧ Kp W1 W') → J [] W →
    CallsIn F n P g (#[.func (.yield l) #[] #[]] ++ lb) W fun e W' => (∃ v, e = .returned v) ∧ ∃ xs, S xs ∧ J xs W'
/-- What is no cells lies as it lay, from block B on. -/
structure KeepsFrom (B : Nat) (W W' : World) : Prop where
  size : W.heap.size ≤ W'.heap.size
  same : ∀ (k : Nat) (o : Obj), B ≤ k → W.heap[k]? = some o → o.isCells = false → W'.heap[k]? = some o
theorem KeepsFrom.refl (B : Nat) (W : World) : KeepsFrom B W W := ⟨Nat.le_refl _, fun _ _ _ h _ => h⟩
theorem KeepsFrom.trans {B : Nat} {a b c : World} (h : KeepsFrom B a b) (k : KeepsFrom B b c) : KeepsFrom B a c := ⟨Nat.le_trans h.size k.size, fun i o hi h1 h2 => k.same i o hi (h.same i o hi h1 h2) h2⟩
theorem KeepsFrom.of_below {B : Nat} {W W' : World} (h : Below W.heap.size W W') : KeepsFrom B W W' := ⟨h.size, fun k _ _ hk _ => (h.block k (Array.getElem?_eq_some_iff.1 hk).1).trans hk⟩
theorem KeepsFrom.grown {B b : Nat} {W W' : World} (h : W.grownBy W' (some b)) (hb : b < B) : KeepsFrom B W W' := ⟨h.size, fun k _ hB hk _ => (h.block k (Array.getElem?_eq_some_iff.1 hk).1 (fun e => by have := Option.some.inj e; omega)).trans hk⟩

variable {F : Fence} {n : Nat} {P : Program}
theorem ownFrom_step {β : Type} {B : Nat} {J : β → World → Prop} (h : OwnFrom B J) {s : β} {A C : World} (hj : J s A) (hb : Below A.heap.size A C) : J s C :=
  h s A C none hj ⟨hb.os, hb.tape, hb.output, hb.size, fun k hk _ => hb.block k hk⟩ (fun r e => by cases e)
/-- A call within a round. -/
theorem callsIn_roundM {l n f : Nat} {P : Program} {args : Array Value} {w : World} {R : Ending → World → Prop} (h : Calls P f args w R) : CallsIn (Fence.wide.inRound l) n P f args w R := callsIn_wide (n := n) |>.2 h
/-- The record of such a loop. -/
def recM (fn : FuncId) (t : Array Value) (ps : Array Tmp) (assign body : Code) (D : Nat) (st : LoopState) : Loop := { state := st, pending := none, fn := fn, tmps := t, params := ps, assign := assign, body := body, defers := D }
theorem range_seenM {α : Type} {g : Operand} {ps : Array Tmp} {assign body : Code} {Q : Exit → Act → World → Prop} {a : Act} {w : World}
    (hro : F.round = none) (h1 : 1 ≤ n) {gf : Nat} {lb : Array Value} (hg : a.eval g = .func (.func gf) #[] lb) (hFg : F.fn gf) (eg : ∀ args w, (callFunc gf args).run P w = .ok (.enter gf args) w)
    {encs : α → Array Value} {Kp : World → World → Prop} {G : List α → α → Prop} {S : List α → Prop} (hseq : SeqSeenM F (n - 1) P gf lb encs Kp G S w)
    (hKt : ∀ {A B C : World}, Kp A B → Kp B C → Kp A C) (hKb : ∀ (W : World) (l : Nat) (o o' : Obj), w.heap.size ≤ l → W.heap[l]? = some o → o.isCells = false → Kp W (W.putObj l o')) (hKw : ∀ A B : World, w.heap.size ≤ A.heap.size → Below A.heap.size A B → Kp A B)
    (hps : ∀ x, (encs x).size = ps.size) (I : List α → World → Prop) (hI : OwnFrom w.heap.size I) (h0 : I [] w) (Pa : α → Act → World → Prop) (hPa : ∀ x a1, OwnFrom w.heap.size (fun (_ : Unit) W => Pa x a1 W))
    (hassign : ∀ (l : Nat) (x : α) (W : World) (K : Act → World → Prop), w.heap.size ≤ W.heap.size → (∀ a1 W', Below W.heap.size W W' → Pa x a1 W' → K a1 W') →
      assign.wpIn (F.inRound l) (n - 1 - 1) P (Exit.then K (fun _ _ _ => False)) { tmps := (ps.zip (encs x)).foldl (fun t (p, v) => t.setIfInBounds p v) a.tmps, defers := [] } W)
    (hbody : ∀ (l : Nat) (pre : List α) (x : α) (a1 : Act) (W : World), I pre W → Pa x a1 W → w.heap.size ≤ W.heap.size → G pre x → body.wpIn (F.inRound l) (n - 1 - 1) P (fun e _ W' => e = .normal ∧ KeepsFrom w.heap.size W W' ∧ Kp W W' ∧ I (pre ++ [x]) W') a1 W)
    (hdone : ∀ (D : Nat) (xs : List α) (W : World), w.heap.size ≤ D → S xs → I xs W → W.heap[D]? = some (.deferred (some [])) → Q .normal { a with defers := { target := .collected D, args := #[] } :: a.defers } W) :
    (Code.rangeFunc g ps assign body).wpIn F n P Q a w := by
  refine wpIn_rangeFunc ?_
  intro fn hfn
  rw [hro]
  have hsz : (w.alloc (.deferred (some []))).heap.size = w.heap.size + 1 := World.size_alloc _ _
  obtain ⟨W1, hW1⟩ : ∃ W1, (w.alloc (.deferred (some []))).alloc (.loop (recM fn a.tmps ps assign body w.heap.size .ready)) = W1 := ⟨_, rfl⟩
  have hL1 : W1.heap[w.heap.size + 1]? = some (.loop (recM fn a.tmps ps assign body w.heap.size .ready)) := by
    have := World.alloc_heap_new (w.alloc (.deferred (some []))) (.loop (recM fn a.tmps ps assign body w.heap.size .ready))
    rwa [hsz, hW1] at this
  have hD1 : W1.heap[w.heap.size]? = some (.deferred (some [])) := by
    rw [← hW1]
    exact (Below.heap_alloc _ _ _ (by rw [hsz]; omega)).trans (World.alloc_heap_new w _)
  have hI1 : I [] W1 := by
    rw [← hW1]
    exact hI.alloc _ (hI.alloc _ h0)
  have hb1 : Below w.heap.size w W1 := by
    rw [← hW1]
    exact ((Below.refl _ w).alloc (Nat.le_refl _) _).alloc (by rw [hsz]; omega) _
  have hs1 : W1.heap.size = w.heap.size + 2 := by
    rw [← hW1, World.size_alloc, hsz]
  refine ⟨w.heap.size + 1, [{ target := .collected w.heap.size, args := #[] }], W1, { target := .fn (.func gf) lb, args := #[.func (.yield (w.heap.size + 1)) #[] #[]] }, W1, gf,
    #[.func (.yield (w.heap.size + 1)) #[] #[]] ++ lb, W1, ?_, ?_, ?_, ?_, fun _ => h1, ?_⟩
  · rw [← hW1]
    exact run_enterLoop_outer _ _ _ _ _
  · simp only [resolve, hg]
    simp [go_sem]
  · intro f' hf'
    simp [Target.leads] at hf'
    subst hf'
    exact hFg
  · simp [invoke, go_sem, eg]
  · have hJ : OwnFrom W1.heap.size (fun pre W => I pre W ∧ W.heap[w.heap.size + 1]? = some (.loop (recM fn a.tmps ps assign body w.heap.size .ready)) ∧ W.heap[w.heap.size]? = some (.deferred (some []))) := by
      intro s A B row hs hgr hrow
      refine ⟨hI s A B row hs.1 hgr (fun r e => ⟨by have := (hrow r e).1; omega, (hrow r e).2⟩), ?_, ?_⟩
      · exact (hgr.block _ (Array.getElem?_eq_some_iff.1 hs.2.1).1 (fun e => by have := (hrow _ e.symm).1; omega)).trans hs.2.1
      · exact (hgr.block _ (Array.getElem?_eq_some_iff.1 hs.2.2).1 (fun e => by have := (hrow _ e.symm).1; omega)).trans hs.2.2
    refine (hseq (w.heap.size + 1) _ W1 hb1 hJ ?_ ⟨hI1, hL1, hD1⟩).mono ?_
    · rintro pre x W ⟨hi, hl, hd⟩ hG
      have hlt : w.heap.size + 1 < W.heap.size := (Array.getElem?_eq_some_iff.1 hl).1
      refine ⟨fn, _, assign, body, run_yield hl (hps x), roundIn_of_wpIn hfn (hassign _ x W _ (by omega) (fun a1 Wa hba hpa => ?_))⟩
      have hla := (hba.block _ hlt).trans hl
      have hda := (hba.block _ (by omega)).trans hd
      have hia := ownFrom_step hI hi hba
      have hka := hKw W Wa (by omega) hba
      have hza := hba.size
      refine ⟨_, run_beginRound hla rfl, ?_⟩
      obtain ⟨W2, hW2⟩ : ∃ W2, Wa.putObj (w.heap.size + 1) (.loop (recM fn a.tmps ps assign body w.heap.size .busy)) = W2 := ⟨_, rfl⟩
      have hl2 : W2.heap[w.heap.size + 1]? = some (.loop (recM fn a.tmps ps assign body w.heap.size .busy)) := by
        rw [← hW2]
        exact World.putObj_heap_same (by omega)
      have hd2 : W2.heap[w.heap.size]? = some (.deferred (some [])) := by
        rw [← hW2]
        exact (World.putObj_heap_other (by omega)).trans hda
      have hi2 : I pre W2 := by
        rw [← hW2]
        exact hI.putObj _ hia (by omega) hla rfl
      have hp2 : Pa x a1 W2 := by
        rw [← hW2]
        exact (hPa x a1).putObj (s := ()) _ hpa (by omega) hla rfl
      have hk2 : Kp Wa W2 := by
        rw [← hW2]
        exact hKb _ _ _ _ (by omega) hla rfl
      have hz2 : W2.heap.size = Wa.heap.size := by rw [← hW2]; simp
      show body.wpIn _ _ _ _ _ (Wa.putObj (w.heap.size + 1) (.loop (recM fn a.tmps ps assign body w.heap.size .busy)))
      rw [hW2]
      refine wpIn_mono (hbody _ pre x a1 W2 hi2 hp2 (by omega) hG) ?_
      rintro e a3 W3 ⟨rfl, hko, hkp, hi3⟩
      have hl3 := hko.same _ _ (by omega) hl2 rfl
      have hd3 := hko.same _ _ (Nat.le_refl _) hd2 rfl
      have hlt3 := (Array.getElem?_eq_some_iff.1 hl3).1
      exact ⟨_, _, run_endRound none hl3, rfl, ⟨hI.putObj _ hi3 (by omega) hl3 rfl, World.putObj_heap_same hlt3, (World.putObj_heap_other (by omega)).trans hd3⟩, hKt hka (hKt (hKt hk2 hkp) (hKb _ _ _ _ (by omega) hl3 rfl))⟩
    · rintro e W2 ⟨⟨v, rfl⟩, xs, hs, hi, hl, hd⟩
      exact ⟨none, _, run_endLoop hl (by simp [recM]), hdone _ xs _ (Nat.le_refl _) hs (hI.putObj _ hi (by omega) hl rfl) ((World.putObj_heap_other (by omega)).trans hd)⟩
end Go.Proofs.Ytckkgjggoopjiaa
