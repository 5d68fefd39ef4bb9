/-
  Entries in memory, as rows of three cells.
-/
import Derived.Test.YtmoagooabmmmgaaCaMath2
import Derived.Test.YtmoagooabmmmgaaRowK
namespace Go.Proofs.Ytmoagooabmmmgaa
open Go.RowKit

theorem OwnK.set {w : World} {base k n c g i : Nat} {T : TypeId} {cs : List Value} (h : OwnK w base T k (.slice (some ⟨g, 0, none⟩) n c) n cs) (u : Value) : OwnK (w.setCell ⟨g, i, none⟩ u) base T k (.slice (some ⟨g, 0, none⟩) n c) n (cs.set i u) := by
  refine ⟨by rw [List.length_set]; exact h.1, ?_⟩
  rcases h.2 with ⟨e, _⟩ | ⟨g', cap, cur, hv, hb, hg, hc, hm, hs, ht⟩
  · cases e
  · injection hv with e1 e2 e3
    have e1 := Option.some.inj e1
    injection e1 with e1
    subst e1
    refine .inr ⟨g, cap, cur.setIfInBounds i u, by rw [e3], hb, heap_setCell_same w g i cur T u hg, hc, hm, by simp [hs], ?_⟩
    rw [Array.toList_setIfInBounds, List.take_set, ht]
theorem OwnK.free {w : World} {base k n c g : Nat} {T : TypeId} {cs : List Value} (h : OwnK w base T k (.slice (some ⟨g, 0, none⟩) n c) n cs) (i : Nat) : w.frozen? ⟨g, i, none⟩ = false := by
  rcases h.2 with ⟨e, _⟩ | ⟨g', cap, cur, hv, hb, hg, hc, hm, hs, ht⟩
  · cases e
  · injection hv with e1
    have e1 := Option.some.inj e1
    injection e1 with e1
    subst e1
    exact frozen_of_row w g i cur T hg
theorem OwnK.off {w : World} {base k n c b o : Nat} {T : TypeId} {cs : List Value} (h : OwnK w base T k (.slice (some ⟨b, o, none⟩) n c) n cs) : o = 0 := by
  rcases h.2 with ⟨e, _⟩ | ⟨g, cap, cur, hv, _⟩
  · cases e
  · injection hv with e1
    have e1 := Option.some.inj e1
    injection e1
theorem OwnK.blockLt {w : World} {base k n : Nat} {T : TypeId} {v : Value} {cs : List Value} (h : OwnK w base T k v n cs) : ∀ j, v.ownBlock = some j → j < w.heap.size := by
  rcases h.2 with ⟨rfl, _⟩ | ⟨g, cap, cur, rfl, hb, hg, _⟩
  · intro j hj
    cases hj
  · intro j hj
    simp [Value.ownBlock] at hj
    subst hj
    exact lt_of_block hg
/-- An entry's cells. -/
def ceC (e : CE) : List Value := [.int .i64 (e.b : Int), .int .u32 (e.a : Int), .bool e.d]
def cesC (L : List CE) : List Value := L.flatMap ceC
theorem cesC_len (L : List CE) : (cesC L).length = L.length * 3 := fk_len ceC 3 (fun _ => rfl) L
theorem cesC_at {L : List CE} {i : Nat} (h : i < L.length) : (cesC L)[i * 3]? = some (.int .i64 (L[i].b : Int)) ∧ (cesC L)[i * 3 + 1]? = some (.int .u32 (L[i].a : Int)) ∧ (cesC L)[i * 3 + 2]? = some (.bool L[i].d) := ⟨fk_get ceC 3 (fun _ => rfl) L i 0 h (by omega), fk_get ceC 3 (fun _ => rfl) L i 1 h (by omega), fk_get ceC 3 (fun _ => rfl) L i 2 h (by omega)⟩
theorem cesC_one (L : List CE) : ∀ u ∈ cesC L, u.oneCell' = true := by
  intro u hu
  obtain ⟨e, _, he⟩ := List.mem_flatMap.1 hu
  simp only [ceC, List.mem_cons, List.not_mem_nil, or_false] at he
  rcases he with rfl | rfl | rfl <;> rfl
theorem cesC_app (A B : List CE) : cesC (A ++ B) = cesC A ++ cesC B := by simp [cesC]
theorem ceInfo : (Try.prog.info? 46).map (fun i => (i.zero, i.size, i.bytes)) = some (some (.agg #[.int .i64 0, .int .u32 0, .bool false]), 3, 16) := by kernel_rfl
theorem ces_cells {w : World} {b o : Nat} {L : List CE} (h : ∀ i (h : i < (cesC L).length), w.cell? ⟨b, o + i, none⟩ = some (cesC L)[i]) (k : Nat) (hk : k < L.length) : w.cell? ⟨b, o + k * 3, none⟩ = some (.int .i64 (L[k].b : Int)) ∧ w.cell? ⟨b, o + k * 3 + 1, none⟩ = some (.int .u32 (L[k].a : Int)) ∧ w.cell? ⟨b, o + k * 3 + 2, none⟩ = some (.bool L[k].d) := by
  obtain ⟨h0, h1, h2⟩ := cesC_at hk
  obtain ⟨l0, e0⟩ := List.getElem?_eq_some_iff.1 h0
  obtain ⟨l1, e1⟩ := List.getElem?_eq_some_iff.1 h1
  obtain ⟨l2, e2⟩ := List.getElem?_eq_some_iff.1 h2
  rw [h _ l0, e0, Nat.add_assoc, h _ l1, e1, Nat.add_assoc, h _ l2, e2]
  exact ⟨rfl, rfl, rfl⟩
theorem cesC_set1 : ∀ {L : List CE} {i : Nat} (h : i < L.length) (y : Nat), cesC (L.set i { L[i] with a := y }) = (cesC L).set (i * 3 + 1) (.int .u32 (y : Int))
  | e :: L, 0, _, y => rfl
  | e :: L, i + 1, h, y => by
    have ih := cesC_set1 (L := L) (i := i) (by simpa using h) y
    show ceC e ++ cesC (L.set i { L[i]'(by simpa using h) with a := y }) = (ceC e ++ cesC L).set ((i + 1) * 3 + 1) _
    rw [ih, show (i + 1) * 3 + 1 = i * 3 + 1 + 1 + 1 + 1 by omega]
    rfl
theorem cesC_set2 : ∀ {L : List CE} {i : Nat} (h : i < L.length) (d : Bool), cesC (L.set i { L[i] with d := d }) = (cesC L).set (i * 3 + 2) (.bool d)
  | e :: L, 0, _, d => rfl
  | e :: L, i + 1, h, d => by
    have ih := cesC_set2 (L := L) (i := i) (by simpa using h) d
    show ceC e ++ cesC (L.set i { L[i]'(by simpa using h) with d := d }) = (ceC e ++ cesC L).set ((i + 1) * 3 + 2) _
    rw [ih, show (i + 1) * 3 + 2 = i * 3 + 2 + 1 + 1 + 1 by omega]
    rfl
/-- A row of entries of one's own. -/
def DirtyIs (l : List CE) (w : World) (r : Ending) (w' : World) : Prop := ∃ v, r = .returned v ∧ OwnK w' w.heap.size 46 3 v l.length (cesC l) ∧ Below w.heap.size w w'
end Go.Proofs.Ytmoagooabmmmgaa
