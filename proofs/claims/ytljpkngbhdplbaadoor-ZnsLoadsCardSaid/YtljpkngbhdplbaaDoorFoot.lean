/-
  Footprints: the blocks that a structure in memory owns; what a call that writes to them alone keeps; rows of rows of bytes within a footprint.
-/
import Derived.Test.YtljpkngbhdplbaaDoorRowG
namespace Go.Proofs.YtljpkngbhdplbaaDoor
open Go.RowKit

/-- Whatever lies outside F lies as it lay. -/
structure Kept (F : Nat → Prop) (w w' : World) : Prop where
  os : w'.os = w.os
  tape : w'.tape = w.tape
  output : w'.output = w.output
  size : w.heap.size ≤ w'.heap.size
  block : ∀ k, k < w.heap.size → ¬ F k → w'.heap[k]? = w.heap[k]?
/-- F and all blocks that were made on the way from a to b. -/
def grow (F : Nat → Prop) (a b : World) : Nat → Prop := fun k => F k ∨ (a.heap.size ≤ k ∧ k < b.heap.size)
theorem Kept.refl (F : Nat → Prop) (w : World) : Kept F w w := ⟨rfl, rfl, rfl, Nat.le_refl _, fun _ _ _ => rfl⟩
theorem Kept.trans {F : Nat → Prop} {a b c : World} (h : Kept F a b) (k : Kept (grow F a b) b c) : Kept F a c :=
  ⟨k.os.trans h.os, k.tape.trans h.tape, k.output.trans h.output, Nat.le_trans h.size k.size, fun i hi hn => (k.block i (Nat.lt_of_lt_of_le hi h.size) (fun hg => hg.elim hn (fun hx => absurd hx.1 (Nat.not_le_of_lt hi)))).trans (h.block i hi hn)⟩
theorem Kept.and {F : Nat → Prop} {a b c : World} (h : Kept F a b) (k : Kept F b c) : Kept F a c :=
  ⟨k.os.trans h.os, k.tape.trans h.tape, k.output.trans h.output, Nat.le_trans h.size k.size, fun i hi hn => (k.block i (Nat.lt_of_lt_of_le hi h.size) hn).trans (h.block i hi hn)⟩
theorem Kept.mono {F G : Nat → Prop} {a b : World} (h : Kept F a b) (hfg : ∀ k, k < a.heap.size → F k → G k) : Kept G a b := ⟨h.os, h.tape, h.output, h.size, fun i hi hn => h.block i hi (fun hf => hn (hfg i hi hf))⟩
theorem Kept.of_below {F : Nat → Prop} {w w' : World} (h : Below w.heap.size w w') : Kept F w w' := ⟨h.os, h.tape, h.output, h.size, fun i hi _ => h.block i hi⟩
theorem Kept.below {F : Nat → Prop} {B : Nat} {w w' : World} (h : Kept F w w') (hB : B ≤ w.heap.size) (hF : ∀ k, F k → B ≤ k) : Below B w w' :=
  ⟨h.os, h.tape, h.output, h.size, fun k hk => h.block k (by omega) (fun hf => by have := hF k hf; omega)⟩
theorem Kept.grown {F : Nat → Prop} {a w w' : World} {row : Option Nat} (h : Kept F a w) (hg : w.grownBy w' row) (hr : ∀ k, row = some k → F k ∨ a.heap.size ≤ k) : Kept F a w' :=
  ⟨hg.os.trans h.os, hg.tape.trans h.tape, hg.output.trans h.output, Nat.le_trans h.size hg.size, fun i hi hn => (hg.block i (Nat.lt_of_lt_of_le hi h.size) (fun e => by
    rcases hr i e.symm with hf | hs
    · exact hn hf
    · omega)).trans (h.block i hi hn)⟩
theorem Kept.put {F : Nat → Prop} {a w : World} (h : Kept F a w) {g : Nat} (hg : F g ∨ a.heap.size ≤ g) (o : Nat) (v : Value) : Kept F a (w.setCell ⟨g, o, none⟩ v) :=
  h.grown (grown_put (World.grownBy.refl w _) o v) (fun k e => by obtain rfl := Option.some.inj e; exact hg)
theorem Kept.alloc {F : Nat → Prop} {a w : World} (h : Kept F a w) (o : Obj) : Kept F a (w.alloc o) := h.grown (World.grownBy_alloc w o none) (fun k e => by cases e)
theorem Kept.drew {F : Nat → Prop} {a w : World} (h : Kept F a w) : Kept F a w.drew := ⟨h.os, h.tape, h.output, h.size, h.block⟩
theorem Kept.blk {F : Nat → Prop} {w w' : World} {g : Nat} {T : TypeId} {cs : List Value} (h : Kept F w w') (hb : Blk w g T cs) (hn : ¬ F g) : Blk w' g T cs := (h.block g (lt_of_block hb) hn).trans hb
theorem Kept.cell {F : Nat → Prop} {w w' : World} {p : Addr} {v : Value} (h : Kept F w w') (hc : w.cell? p = some v) (hn : ¬ F p.block) : w'.cell? p = some v := by
  have hlt : p.block < w.heap.size := by
    apply Classical.byContradiction
    intro hge
    have : w.heap[p.block]? = none := Array.getElem?_eq_none (by omega)
    simp [World.cell?, this] at hc
  rw [World.cell?_of_block (w := w) (h.block p.block hlt hn)]
  exact hc

/-- Where something is read it lies in F. -/
def InF (F : Nat → Prop) (A : Option Addr) : Prop := ∀ b o x, A = some ⟨b, o, x⟩ → F b
theorem InF.mono {F G : Nat → Prop} {A : Option Addr} (h : InF F A) (hfg : ∀ k, F k → G k) : InF G A := fun b o x e => hfg _ (h b o x e)
theorem InF.none (F : Nat → Prop) : InF F none := fun _ _ _ e => by cases e
theorem InF.one {F : Nat → Prop} {g o : Nat} (h : F g) : InF F (some ⟨g, o, Option.none⟩) := fun b o x e => by have e := Option.some.inj e; injection e with e; subst e; exact h
/-- .. if there is something. -/
def InN (n : Nat) (F : Nat → Prop) (A : Option Addr) : Prop := 0 < n → InF F A
theorem InN.mono {n : Nat} {F G : Nat → Prop} {A : Option Addr} (h : InN n F A) (hfg : ∀ k, F k → G k) : InN n G A := fun hp => (h hp).mono hfg
theorem InF.n {n : Nat} {F : Nat → Prop} {A : Option Addr} (h : InF F A) : InN n F A := fun _ => h
theorem Rd.keep {F : Nat → Prop} {w w' : World} {A : Option Addr} {xs : List Int} (h : Rd w w.heap.size A xs) (hk : Kept F w w') (hn : InN xs.length (fun k => ¬ F k) A) : Rd w' w'.heap.size A xs := by
  intro hp
  obtain ⟨b, o, hA, hlt, hc⟩ := h hp
  exact ⟨b, o, hA, Nat.lt_of_lt_of_le hlt hk.size, fun i hi => hk.cell (hc i hi) (hn hp _ _ _ hA)⟩
theorem RdV.keep {F : Nat → Prop} {w w' : World} {A : Option Addr} {vs : List Value} (h : RdV w w.heap.size A vs) (hk : Kept F w w') (hn : InN vs.length (fun k => ¬ F k) A) : RdV w' w'.heap.size A vs := by
  intro hp
  obtain ⟨b, o, hA, hlt, hc⟩ := h hp
  exact ⟨b, o, hA, Nat.lt_of_lt_of_le hlt hk.size, fun i hi => hk.cell (hc i hi) (hn hp _ _ _ hA)⟩

/-- The value v is a slice that reads as these bytes, within F. -/
def BytF (F : Nat → Prop) (w : World) (v : Value) (xs : List Int) : Prop := ∃ A c, v = .slice A xs.length c ∧ xs.length ≤ c ∧ Rd w w.heap.size A xs ∧ InN xs.length F A ∧ (A = none → c = 0)
theorem BytF.keep {F G : Nat → Prop} {w w' : World} {v : Value} {xs : List Int} (h : BytF F w v xs) (hk : Kept G w w') (hn : ∀ k, F k → ¬ G k) : BytF F w' v xs := by
  obtain ⟨A, c, e, hc, hr, hf, h0⟩ := h
  exact ⟨A, c, e, hc, hr.keep hk (hf.mono hn), hf, h0⟩
theorem BytF.mono {F G : Nat → Prop} {w : World} {v : Value} {xs : List Int} (h : BytF F w v xs) (hfg : ∀ k, F k → G k) : BytF G w v xs := by
  obtain ⟨A, c, e, hc, hr, hf, h0⟩ := h
  exact ⟨A, c, e, hc, hr, hf.mono hfg, h0⟩
/-- The value v is a row of rows of bytes, within F. -/
structure RowsF (F : Nat → Prop) (w : World) (v : Value) (l : List (List Int)) : Prop where
  out : ∃ A c vs, v = .slice A l.length c ∧ l.length ≤ c ∧ RdV w w.heap.size A vs ∧ InN vs.length F A ∧ (A = none → c = 0) ∧ vs.length = l.length ∧ ∀ i (h : i < vs.length) (h2 : i < l.length), BytF F w vs[i] l[i]
theorem RowsF.keep {F G : Nat → Prop} {w w' : World} {v : Value} {l : List (List Int)} (h : RowsF F w v l) (hk : Kept G w w') (hn : ∀ k, F k → ¬ G k) : RowsF F w' v l := by
  obtain ⟨A, c, vs, e, hc, hr, hf, h0, hl, hx⟩ := h.out
  exact ⟨A, c, vs, e, hc, hr.keep hk (hf.mono hn), hf, h0, hl, fun i h1 h2 => (hx i h1 h2).keep hk hn⟩
theorem RowsF.mono {F G : Nat → Prop} {w : World} {v : Value} {l : List (List Int)} (h : RowsF F w v l) (hfg : ∀ k, F k → G k) : RowsF G w v l := by
  obtain ⟨A, c, vs, e, hc, hr, hf, h0, hl, hx⟩ := h.out
  exact ⟨A, c, vs, e, hc, hr, hf.mono hfg, h0, hl, fun i h1 h2 => (hx i h1 h2).mono hfg⟩
theorem RowsF.up {F : Nat → Prop} {w w' : World} {v : Value} {l : List (List Int)} (h : RowsF F w v l) (hb : Below w.heap.size w w') : RowsF F w' v l := h.keep (G := fun _ => False) (Kept.of_below hb) (fun _ _ => id)
theorem RowsF.nil (F : Nat → Prop) (w : World) : RowsF F w (.slice none 0 0) [] := ⟨none, 0, [], rfl, by simp, RdV.nil, (InF.none _).n, fun _ => rfl, rfl, fun i h => by simp at h⟩
end Go.Proofs.YtljpkngbhdplbaaDoor
