/-
  platelayerlaw13.ZonesParts answers true.
-/
import Derived.Test.YteoohafadijkmaaTaAw
import Derived.Test.YteoohafadijkmaaQRow
import Derived.Deep.CutBlock
import Derived.Deep.DeepCutAuto
import Derived.Laws.MakeOwn
namespace Go.Proofs.Yteoohafadijkmaa
open Go.RowKit

theorem i_cell0 {w : World} {b o : Nat} {x : Int} {l : List Int} (h : ∀ i (h : i < (iCells (x :: l)).length), w.cell? ⟨b, o + i, none⟩ = some (iCells (x :: l))[i]) : w.cell? ⟨b, o, none⟩ = some (.int .i64 x) := h 0 (by rw [iCells_len]; simp)
theorem i_cellK {w : World} {b o : Nat} {l : List Int} (h : ∀ i (h : i < (iCells l).length), w.cell? ⟨b, o + i, none⟩ = some (iCells l)[i]) (k : Nat) (hk : k < l.length) : w.cell? ⟨b, o + k, none⟩ = some (.int .i64 l[k]) := by
  rw [h k (by rw [iCells_len]; exact hk)]
  simp [iCells]
/-- An act: what to do, a zone. -/
structure ZAct where
  d : Int
  z : Int
/-- Acts that are read. -/
def RdZA (w : World) (A : Option Addr) (l : List ZAct) : Prop :=
  0 < l.length → ∃ b o : Nat, A = some ⟨b, o, none⟩ ∧ b < w.heap.size ∧ ∀ i (h : i < l.length), w.cell? ⟨b, o + i * 2, none⟩ = some (.int .i64 l[i].d) ∧ w.cell? ⟨b, o + i * 2 + 1, none⟩ = some (.int .i64 l[i].z)
theorem RdZA.below {w w' : World} {A : Option Addr} {l : List ZAct} (h : RdZA w A l) (hb : Below w.heap.size w w') : RdZA w' A l := by
  intro hn
  obtain ⟨b, o, hA, hlt, hc⟩ := h hn
  exact ⟨b, o, hA, Nat.lt_of_lt_of_le hlt hb.size, fun i hi => ⟨(hb.cell (p := ⟨b, o + i * 2, none⟩) hlt).trans (hc i hi).1, (hb.cell (p := ⟨b, o + i * 2 + 1, none⟩) hlt).trans (hc i hi).2⟩⟩
/-- A row of states. -/
def stL (f : Nat → Int) (n : Nat) : List Int := (List.range n).map f
theorem stL_len (f : Nat → Int) (n : Nat) : (stL f n).length = n := by simp [stL]
theorem stL_congr {f g : Nat → Int} {n : Nat} (h : ∀ i, i < n → f i = g i) : stL f n = stL g n := List.map_congr_left fun i hi => h i (List.mem_range.1 hi)
theorem stL_set (f : Nat → Int) (n k : Nat) (v : Int) : (iCells (stL f n)).set k (.int .i64 v) = iCells (stL (fun i => if i = k then v else f i) n) := by
  refine List.ext_getElem (by simp [iCells, stL]) fun i h1 h2 => ?_
  simp only [List.getElem_set, iCells, stL, List.getElem_map, List.getElem_range]
  by_cases e : k = i
  · subst e
    simp
  · have : ¬ i = k := fun h => e h.symm
    simp [e, this]
def zerosI (k : Nat) : Obj := .cells (madeCells (Value.int .i64 0).cells (k * 1)) 3
theorem make_ints (k : Nat) (hk : k ≤ 1000) (w : World) : (Instr.makeSlice 29 (.int .i64 (k : Int)) (.int .i64 (k : Int))).run Try.prog w = .ok (.slice (some ⟨w.heap.size, 0, none⟩) k k) (w.alloc (zerosI k)) := by
  obtain ⟨i0, hi, hz0, hz1, hz2⟩ := info_parts intInfo
  have := run_make (P := Try.prog) w 29 3 i0 (.int .i64 0) Try.underlying29 hi hz0 .i64 .i64 (k : Int) (k : Int) (by omega) (Int.le_refl _) (by rw [hz2]; omega) (by omega)
  rw [hz1] at this
  simpa [zerosI] using this
theorem zerosI_blk (k : Nat) (w : World) : Blk (w.alloc (zerosI k)) w.heap.size 3 (iCells (stL (fun _ => 0) k)) := by
  have h := heap_alloc_new w (zerosI k)
  have e : zerosI k = .cells (iCells (stL (fun _ => 0) k)).toArray 3 := by
    unfold zerosI
    congr 1
    refine Array.ext (by rw [size_madeCells]; simp [iCells, stL]) fun i h1 h2 => ?_
    simp [madeCells, Value.cells, Nat.mod_one, iCells, stL]
  rw [e] at h ⊢
  exact h
theorem he_z : Try.prog.underlying 29 = some (.slice (Try.prog.elem 29)) := by kernel_rfl
theorem hz_z : ∀ W : World, (sizeOf (Try.prog.elem 29)).run Try.prog W = .ok 1 W := by
  intro W
  have h : Try.prog.elem 29 = 3 := by kernel_rfl
  rw [h]
  simp [Try.sizeOf3]
theorem OwnK.keepOff {w w' : World} {base k n : Nat} {T : TypeId} {v : Value} {cs : List Value} {F : Nat → Prop} (h : OwnK w base T k v n cs) (hk : Kept F w w') (hn : ∀ j, v.ownBlock = some j → ¬ F j) : OwnK w' base T k v n cs :=
  ⟨h.1, h.2.imp id fun ⟨g', c', cur, hv, hb, hc, r⟩ => ⟨g', c', cur, hv, hb, (hk.block g' (lt_of_block hc) (hn g' (by rw [hv]; rfl))).trans hc, r⟩⟩
theorem OwnK.ltOff {w : World} {base k n : Nat} {T : TypeId} {v : Value} {cs : List Value} (h : OwnK w base T k v n cs) : ∀ j, v.ownBlock = some j → j < w.heap.size := by
  rcases h.2 with ⟨rfl, _⟩ | ⟨g, cap, cur, rfl, hb, hg, _⟩
  · intro j hj
    cases hj
  · intro j hj
    simp [Value.ownBlock] at hj
    subst hj
    exact lt_of_block hg
section
variable {E : Value → Prop} {O : TOps E} {w0 w w' : World} {tb gs n rn rc : Nat} {T : TaS} {A : Nat → Prop} {f : Nat → Int} {RA : Option Addr} {vf vc : Value}
/-- A table, and the row of free ones that the law keeps. -/
structure ZQ (O : TOps E) (w0 w : World) (tb : Nat) (T : TaS) (A : Nat → Prop) (RA : Option Addr) (rn rc : Nat) (row : List Int) : Prop where
  x : TaX O w0 w tb T A
  q : QRow w w0.heap.size RA rn rc row
  qa : ∀ g, inQ RA g → A g
theorem ZQ.up {row : List Int} (h : ZQ O w0 w tb T A RA rn rc row) (hb : Below w.heap.size w w') : ZQ O w0 w' tb T A RA rn rc row := ⟨h.x.up hb, h.q.up hb, h.qa⟩
theorem ZQ.fresh {row : List Int} (h : ZQ O w0 w tb T A RA rn rc row) (hb : Below w.heap.size w w') : ZQ O w0 w' tb T (fun k => A k ∨ (w.heap.size ≤ k ∧ k < w'.heap.size)) RA rn rc row := ⟨h.x.fresh hb, h.q.up hb, fun g hg => .inl (h.qa g hg)⟩
theorem ZQ.to {row : List Int} {v : Value} {T' : TaS} {r : Ending} (h : ZQ O w0 w tb T A RA rn rc row) (ht : TaXTo O w0 tb A v T' w r w') : ZQ O w0 w' tb T' A RA rn rc row := ⟨ht.2.1, h.q.keep ht.2.2 (fun g hg hx => hx.2 (h.qa g hg)), h.qa⟩
/-- .. with rows of states, of free ones, of closed ones, all of the call's own. -/
structure ZR (O : TOps E) (w0 w : World) (tb : Nat) (T : TaS) (A : Nat → Prop) (RA : Option Addr) (rn rc gs n : Nat) (f : Nat → Int) (vf vc : Value) : Prop where
  z : ZQ O w0 w tb T A RA rn rc T.row
  s : Blk w gs 3 (iCells (stL f n))
  sa : A gs
  sg : w0.heap.size ≤ gs
  ql : ∀ g, inQ RA g → g < gs
  fo : OwnK w w0.heap.size 3 1 vf T.row.length (iCells T.row)
  fl : ∀ j, vf.ownBlock = some j → j < gs
  co : OwnK w w0.heap.size 3 1 vc T.closedL.length (iCells T.closedL)
  cl : ∀ j, vc.ownBlock = some j → j < gs
theorem ZR.up (h : ZR O w0 w tb T A RA rn rc gs n f vf vc) (hb : Below w.heap.size w w') : ZR O w0 w' tb T A RA rn rc gs n f vf vc := ⟨h.z.up hb, h.s.up hb (lt_of_block h.s), h.sa, h.sg, h.ql, h.fo.up hb, h.fl, h.co.up hb, h.cl⟩
theorem ZR.put (h : ZR O w0 w tb T A RA rn rc gs n f vf vc) (k : Nat) (v : Int) : ZR O w0 (w.setCell ⟨gs, k, none⟩ (.int .i64 v)) tb T A RA rn rc gs n (fun i => if i = k then v else f i) vf vc := by
  have hk : Kept (fun j => j = gs) w (w.setCell ⟨gs, k, none⟩ (.int .i64 v)) := kept_put _ _ _ _
  refine ⟨⟨h.z.x.put hk (fun j e => by subst e; exact ⟨h.sa, h.sg⟩), h.z.q.keep hk (fun g hg e => by have := h.ql g hg; omega), h.z.qa⟩, ?_, h.sa, h.sg, h.ql, h.fo.keepOff hk (fun j e e2 => by have := h.fl j e; omega), h.fl, h.co.keepOff hk (fun j e e2 => by have := h.cl j e; omega), h.cl⟩
  rw [← stL_set]
  exact h.s.put k _
theorem ZR.same {g : Nat → Int} (h : ZR O w0 w tb T A RA rn rc gs n f vf vc) (e : ∀ i, i < n → f i = g i) : ZR O w0 w tb T A RA rn rc gs n g vf vc := ⟨h.z, by rw [← stL_congr e]; exact h.s, h.sa, h.sg, h.ql, h.fo, h.fl, h.co, h.cl⟩
theorem ZR.cell (h : ZR O w0 w tb T A RA rn rc gs n f vf vc) {k : Nat} (hk : k < n) : w.cell? ⟨gs, k, none⟩ = some (.int .i64 (f k)) := by
  have := h.s.cell k (by rw [iCells_len, stL_len]; exact hk)
  rw [this]
  simp [iCells, stL]
end
section
variable {E : Value → Prop} {O : TOps E} {w0 w w' : World} {tb : Nat} {T : TaS} {A G : Nat → Prop}
theorem TaX.putf (h : TaX O w0 w tb T A) (hk : Kept G w w') (hg : ∀ k, G k → A k ∧ w0.heap.size ≤ k) : TaX O w0 w' tb T (fun k => A k ∨ (w.heap.size ≤ k ∧ k < w'.heap.size)) := by
  obtain ⟨F, hd, hf, ha, ho⟩ := h
  exact ⟨F, O.keep hd hk (fun k h1 h2 => (hf k h1).2 (hg k h2).1), fun k h1 => ⟨(hf k h1).1, fun hx => hx.elim (hf k h1).2 (fun h2 => by have := O.lt hd k h1; omega)⟩, fun k h => h.elim (fun h => Nat.lt_of_lt_of_le (ha k h) hk.size) (fun h => h.2), ho.trans (hk.below ho.size (fun k h => (hg k h).2))⟩
end
/-- The row behind what was taken. -/
def rowA (T : TaS) (d : Int) : List Int := if d = 0 then T.takeS.row else T.row
theorem rowA_do (T : TaS) (d z : Int) : (T.doS d z).row = if d = 2 ∧ T.giveB z = true then rowA T d ++ [z] else rowA T d := by
  unfold TaS.doS rowA
  by_cases h0 : d = 0
  · rw [if_pos h0, if_pos h0, if_neg (by omega)]
  · rw [if_neg h0, if_neg h0]
    by_cases h1 : d = 1
    · rw [if_pos h1, if_neg (by omega)]
      unfold TaS.closeS
      split <;> rfl
    · rw [if_neg h1]
      by_cases h2 : d = 2
      · rw [if_pos h2]
        unfold TaS.giveS TaS.giveB
        by_cases h3 : T.stA z = 0
        · rw [if_pos h3, if_neg (by simp [h3])]
        · rw [if_neg h3, if_pos ⟨h2, by simpa using h3⟩]
      · rw [if_neg h2, if_neg (fun h => h2 h.1)]
end Go.Proofs.Yteoohafadijkmaa
