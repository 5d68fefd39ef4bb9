/-
  Acts on a cache that came in, opened.
-/
import Derived.Test.YtajccmkdfmpapaaGreatDoorLcA0
import Derived.Test.YtajccmkdfmpapaaGreatDoorZmA
import Derived.Deep.Slices
import Derived.Lib.SmallJoins
namespace Go.Proofs.YtajccmkdfmpapaaGreatDoor
open Go.ChangeShapes Go.WideShapes Go.RowKit Go.Joins Go.Deep

theorem u32_nat {n : Int} (h : (Lit.int .u32 n).wf = true) : ∃ k : Nat, n = (k : Int) := by
  simp only [Lit.wf, Bool.and_eq_true, decide_eq_true_eq] at h
  exact Int.eq_ofNat_of_zero_le h.1
theorem list4 {α : Type} {xs : List α} (h : xs.length = 4) : ∃ a b c d, xs = [a, b, c, d] := by
  match xs, h with
  | [a, b, c, d], _ => exact ⟨a, b, c, d, rfl⟩
section
variable {H : Type} {enc : TypeId × Value → H} {W : World}
theorem ix_choose {α : Type} [Inhabited α] {n : Nat} {p : Nat → α → Prop} (h : ∀ i, i < n → ∃ y, p i y) : ∃ f : Nat → α, ∀ i, i < n → p i (f i) :=
  ⟨fun i => if hi : i < n then (h i hi).choose else default, fun i hi => by simpa [hi] using (h i hi).choose_spec⟩
set_option maxRecDepth 100000 in
/-- An act's cells. -/
theorem open_cact {n : Nat} {cs : List Value} {x : DataW H × List MemPlace} (hn : cs.length = 4) (h : DataW.trod enc Tryz.prog W 0 (fun _ => true) true n 36 cs = some x) :
    ∃ y : CAct, cs = actCells y := by
  have hs := Tryz.underlying36
  have hI : Tryz.prog.cellsOf 3 = 1 := by kernel_rfl
  have hU : Tryz.prog.cellsOf 34 = 1 := by kernel_rfl
  have hB : Tryz.prog.cellsOf 4 = 1 := by kernel_rfl
  obtain ⟨c0, c1, c2, c3, rfl⟩ := list4 hn
  obtain ⟨xs, m, _, _, _, hxl, hfld⟩ := DataW.trod_struct hs h
  obtain ⟨y0, y1, y2, y3, rfl⟩ := list4 hxl
  have f0 : DataW.trod enc Tryz.prog W 0 (fun _ => true) true m 3 ((([c0, c1, c2, c3] : List Value).drop 0).take (Tryz.prog.cellsOf 3)) = some y0 := hfld 0 _ rfl
  have f1 : DataW.trod enc Tryz.prog W 0 (fun _ => true) true m 3 ((([c0, c1, c2, c3] : List Value).drop 1).take (Tryz.prog.cellsOf 3)) = some y1 := hfld 1 _ rfl
  have f2 : DataW.trod enc Tryz.prog W 0 (fun _ => true) true m 34 ((([c0, c1, c2, c3] : List Value).drop 2).take (Tryz.prog.cellsOf 34)) = some y2 := hfld 2 _ rfl
  have f3 : DataW.trod enc Tryz.prog W 0 (fun _ => true) true m 4 ((([c0, c1, c2, c3] : List Value).drop 3).take (Tryz.prog.cellsOf 4)) = some y3 := hfld 3 _ rfl
  simp only [hI, hU, hB, List.drop_zero, List.drop_succ_cons, List.take_succ_cons, List.take_zero] at f0 f1 f2 f3
  obtain ⟨a, e0, rfl, w0⟩ := DataW.trod_int Tryz.underlying3 f0
  obtain ⟨b, e1, rfl, w1⟩ := DataW.trod_int Tryz.underlying3 f1
  obtain ⟨c, e2, rfl, w2⟩ := DataW.trod_int Tryz.underlying34 f2
  obtain ⟨d, e3, rfl⟩ := DataW.trod_bool Tryz.underlying4 f3
  simp only [List.cons.injEq, and_true] at e0 e1 e2 e3
  subst e0 e1 e2 e3
  obtain ⟨k, rfl⟩ := u32_nat w2
  exact ⟨⟨a, b, k, d⟩, rfl⟩
set_option maxRecDepth 100000 in
/-- Acts that came in. -/
theorem open_cacts {v : Value} {d : DataW H} {p : List MemPlace} {r : Reach} {b0 : Nat} (hv : Value.okWide Tryz.prog W r b0 22 v) (h : DataW.Trod enc Tryz.prog W 0 (fun _ => true) true 22 v d p) :
    ∃ (A : Option Addr) (c : Nat) (l : List CAct), v = .slice A l.length c ∧ RdC W A l := by
  obtain ⟨A0, len0, cap0, rfl⟩ := okWide_slice Tryz.underlying22 hv
  have hC : Tryz.prog.cellsOf 36 = 4 := by kernel_rfl
  obtain ⟨fuel, hf⟩ := h
  rcases open_slice Tryz.underlying22 hf with ⟨hc, _⟩ | ⟨a, len, cap, m, k, D, Pl, hc, _, hl, _, hm, _, hall⟩
  · simp only [Value.cells, List.cons.injEq, and_true] at hc
    rw [hc]
    exact ⟨none, 0, [], rfl, fun h => by simp at h⟩
  · simp only [Value.cells, List.cons.injEq, and_true] at hc
    simp only [if_true] at hm
    rw [hC] at hall
    have : Inhabited CAct := ⟨⟨0, 0, 0, false⟩⟩
    obtain ⟨f, hf⟩ := ix_choose (α := CAct) (n := len) (p := fun i y => ∀ j, j < 4 → W.cell? (a.add (i * 4 + j)) = (actCells y)[j]?) (fun i hi => by
      obtain ⟨cs', h1, h2⟩ := hall i (by omega)
      obtain ⟨_, hl3, hcl⟩ := World.cells?_some h1
      obtain ⟨y, e⟩ := open_cact hl3 h2
      refine ⟨y, fun j hj => ?_⟩
      have := hcl j hj
      rw [e] at this
      rw [← this]
      congr 1
      obtain ⟨b, o, s⟩ := a
      rcases j with _ | j
      · rcases i with _ | i <;> simp [Addr.add]
      · rcases i with _ | i <;> simp [Addr.add, Nat.add_assoc])
    refine ⟨some a, cap, (List.range len).map f, by simpa using hc, fun hn => ?_⟩
    simp at hn
    obtain ⟨b, o, spot⟩ := a
    have h00 := hf 0 hn 0 (by omega)
    have hspot : spot = none := by simpa [Addr.add] using World.cell?_spot h00
    subst hspot
    have hb : b < W.heap.size := by simpa [Addr.add] using World.block_lt_of_cell? W _ h00
    refine ⟨b, o, rfl, hb, fun i hi => ?_⟩
    simp at hi
    have h1 := hf i hi
    have key : ∀ j, j < 4 → W.cell? ⟨b, o + i * 4 + j, none⟩ = (actCells (f i))[j]? := fun j hj => by
      rw [← h1 j hj]
      congr 1
      by_cases h0 : i * 4 + j = 0
      · have e1 : i * 4 = 0 := by omega
        have e2 : j = 0 := by omega
        simp [Addr.add, e1, e2]
      · obtain ⟨t, ht⟩ : ∃ t, i * 4 + j = t + 1 := ⟨i * 4 + j - 1, by omega⟩
        rw [ht]
        simp [Addr.add]
        omega
    simp only [List.getElem_map, List.getElem_range]
    exact ⟨key 0 (by omega), key 1 (by omega), key 2 (by omega), key 3 (by omega)⟩
end
end Go.Proofs.YtajccmkdfmpapaaGreatDoor
