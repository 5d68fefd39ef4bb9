/-
  Acts on a table that came in, opened.
-/
import Derived.Test.YteoohafadijkmaaDoorTaPt
import Derived.Test.YteoohafadijkmaaDoorLawPost
import Derived.Deep.Slices
import Derived.Lib.SmallJoins
namespace Go.Proofs.YteoohafadijkmaaDoor
open Go.ChangeShapes Go.WideShapes Go.RowKit Go.Joins Go.Deep

theorem list2 {α : Type} {xs : List α} (h : xs.length = 2) : ∃ a b, xs = [a, b] := by
  match xs, h with
  | [a, b], _ => exact ⟨a, b, rfl⟩
section
variable {H : Type} {enc : TypeId × Value → H} {W : World}
theorem ix_choose {α : Type} [Inhabited α] {n : Nat} {p : Nat → α → Prop} (h : ∀ i, i < n → ∃ y, p i y) : ∃ f : Nat → α, ∀ i, i < n → p i (f i) :=
  ⟨fun i => if hi : i < n then (h i hi).choose else default, fun i hi => by simpa [hi] using (h i hi).choose_spec⟩
set_option maxRecDepth 100000 in
/-- An act's cells. -/
theorem open_zact {n : Nat} {cs : List Value} {x : DataW H × List MemPlace} (hn : cs.length = 2) (h : DataW.trod enc Tryd.prog W 0 (fun _ => true) true n 35 cs = some x) :
    ∃ y : ZAct, cs = [.int .i64 y.d, .int .i64 y.z] := by
  have hs := Tryd.underlying35
  have hI : Tryd.prog.cellsOf 3 = 1 := by kernel_rfl
  obtain ⟨c0, c1, rfl⟩ := list2 hn
  obtain ⟨xs, m, _, _, _, hxl, hfld⟩ := DataW.trod_struct hs h
  obtain ⟨y0, y1, rfl⟩ := list2 hxl
  have f0 : DataW.trod enc Tryd.prog W 0 (fun _ => true) true m 3 ((([c0, c1] : List Value).drop 0).take (Tryd.prog.cellsOf 3)) = some y0 := hfld 0 _ rfl
  have f1 : DataW.trod enc Tryd.prog W 0 (fun _ => true) true m 3 ((([c0, c1] : List Value).drop 1).take (Tryd.prog.cellsOf 3)) = some y1 := hfld 1 _ rfl
  simp only [hI, List.drop_zero, List.drop_succ_cons, List.take_succ_cons, List.take_zero] at f0 f1
  obtain ⟨a, e0, rfl, w0⟩ := DataW.trod_int Tryd.underlying3 f0
  obtain ⟨b, e1, rfl, w1⟩ := DataW.trod_int Tryd.underlying3 f1
  simp only [List.cons.injEq, and_true] at e0 e1
  subst e0 e1
  exact ⟨⟨a, b⟩, rfl⟩
set_option maxRecDepth 100000 in
/-- Acts that came in. -/
theorem open_zacts {v : Value} {d : DataW H} {p : List MemPlace} {r : Reach} {b0 : Nat} (hv : Value.okWide Tryd.prog W r b0 22 v) (h : DataW.Trod enc Tryd.prog W 0 (fun _ => true) true 22 v d p) :
    ∃ (A : Option Addr) (c : Nat) (l : List ZAct), v = .slice A l.length c ∧ RdZA W A l := by
  obtain ⟨A0, len0, cap0, rfl⟩ := okWide_slice Tryd.underlying22 hv
  have hC : Tryd.prog.cellsOf 35 = 2 := by kernel_rfl
  obtain ⟨fuel, hf⟩ := h
  rcases open_slice Tryd.underlying22 hf with ⟨hc, _⟩ | ⟨a, len, cap, m, k, D, Pl, hc, _, hl, _, hm, _, hall⟩
  · simp only [Value.cells, List.cons.injEq, and_true] at hc
    rw [hc]
    exact ⟨none, 0, [], rfl, fun h => by simp at h⟩
  · simp only [Value.cells, List.cons.injEq, and_true] at hc
    simp only [if_true] at hm
    rw [hC] at hall
    have : Inhabited ZAct := ⟨⟨0, 0⟩⟩
    obtain ⟨f, hf⟩ := ix_choose (α := ZAct) (n := len) (p := fun i y => ∀ j, j < 2 → W.cell? (a.add (i * 2 + j)) = ([.int .i64 y.d, .int .i64 y.z] : List Value)[j]?) (fun i hi => by
      obtain ⟨cs', h1, h2⟩ := hall i (by omega)
      obtain ⟨_, hl3, hcl⟩ := World.cells?_some h1
      obtain ⟨y, e⟩ := open_zact hl3 h2
      refine ⟨y, fun j hj => ?_⟩
      have := hcl j hj
      rw [e] at this
      rw [← this]
      congr 1
      obtain ⟨b, o, s⟩ := a
      rcases j with _ | j
      · rcases i with _ | i <;> simp [Addr.add]
      · rcases i with _ | i <;> simp [Addr.add, Nat.add_assoc])
    refine ⟨some a, cap, (List.range len).map f, by simpa using hc, fun hn => ?_⟩
    simp at hn
    obtain ⟨b, o, spot⟩ := a
    have h00 := hf 0 hn 0 (by omega)
    have hspot : spot = none := by simpa [Addr.add] using World.cell?_spot h00
    subst hspot
    have hb : b < W.heap.size := by simpa [Addr.add] using World.block_lt_of_cell? W _ h00
    refine ⟨b, o, rfl, hb, fun i hi => ?_⟩
    simp at hi
    have h1 := hf i hi
    have key : ∀ j, j < 2 → W.cell? ⟨b, o + i * 2 + j, none⟩ = ([.int .i64 (f i).d, .int .i64 (f i).z] : List Value)[j]? := fun j hj => by
      rw [← h1 j hj]
      congr 1
      by_cases h0 : i * 2 + j = 0
      · have e1 : i * 2 = 0 := by omega
        have e2 : j = 0 := by omega
        simp [Addr.add, e1, e2]
      · obtain ⟨t, ht⟩ : ∃ t, i * 2 + j = t + 1 := ⟨i * 2 + j - 1, by omega⟩
        rw [ht]
        simp [Addr.add]
        omega
    simp only [List.getElem_map, List.getElem_range]
    exact ⟨key 0 (by omega), key 1 (by omega)⟩
end
end Go.Proofs.YteoohafadijkmaaDoor
