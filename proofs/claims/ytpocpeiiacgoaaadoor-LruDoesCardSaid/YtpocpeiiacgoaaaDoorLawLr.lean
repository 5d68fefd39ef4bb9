/-
  Numbers and acts of two numbers that came in, opened.
-/
import Derived.Test.YtpocpeiiacgoaaaDoorLrH0
import Derived.Test.YtpocpeiiacgoaaaDoorLawPost
import Derived.Deep.SlicePairs
import Derived.Lib.SmallJoins
namespace Go.Proofs.YtpocpeiiacgoaaaDoor
open Go.ChangeShapes Go.WideShapes Go.RowKit Go.Joins Go.Deep

section
variable {H : Type} {enc : TypeId × Value → H} {W : World}

theorem row_at {a : Addr} {vs : List Value} (h : ∀ i (hi : i < vs.length), W.cell? (a.add i) = some vs[i]) : RdV W W.heap.size (some a) vs := by
  intro hn
  obtain ⟨b, o, spot⟩ := a
  have hspot : spot = none := by simpa [Addr.add] using World.cell?_spot (h 0 hn)
  subst hspot
  refine ⟨b, o, rfl, World.block_lt_of_cell? W ⟨b, o, none⟩ (by simpa [Addr.add] using h 0 hn), fun i hi => ?_⟩
  have := h i hi
  rcases i with _ | i
  · simpa [Addr.add] using this
  · simpa [Addr.add] using this
/-- Numbers that came in. -/
theorem openI {v : Value} {d : DataW H} {p : List MemPlace} {r : Reach} {b0 : Nat} (hv : Value.okWide Tryd.prog W r b0 39 v) (h : DataW.Trod enc Tryd.prog W 0 (fun _ => true) true 39 v d p) : ∃ (A : Option Addr) (c : Nat) (l : List Int), v = .slice A l.length c ∧ RdV W W.heap.size A (iCells l) := by
  obtain ⟨A0, len0, cap0, rfl⟩ := okWide_slice Tryd.underlying39 hv
  obtain ⟨fuel, hf⟩ := h
  rcases Go.ChangeShapes.open_ints Tryd.underlying39 Tryd.underlying3 (by kernel_rfl) hf with ⟨hc, _⟩ | ⟨a, len, cap, zs, hc, _, hl, _, hz, _, hall, hwf⟩
  · simp only [Value.cells, List.cons.injEq, and_true] at hc
    exact ⟨none, 0, [], hc, RdV.nil⟩
  · simp only [Value.cells, List.cons.injEq, and_true] at hc
    simp only [if_true] at hz
    have hlen : (zs.take len).length = len := by simp; omega
    have hr : RdV W W.heap.size (some a) (iCells (zs.take len)) := row_at fun i hi => by
      rw [iCells_len, hlen] at hi
      rw [hall i (by omega)]
      simp only [iCells, List.getElem_map, List.getElem_take]
      rw [List.getD_eq_getElem?_getD, List.getElem?_eq_getElem (by omega), Option.getD_some]
    exact ⟨some a, cap, zs.take len, by rw [hlen]; exact hc, hr⟩
set_option maxRecDepth 100000 in
/-- Acts that came in. -/
theorem openA {v : Value} {d : DataW H} {p : List MemPlace} {r : Reach} {b0 : Nat} (hv : Value.okWide Tryd.prog W r b0 22 v) (h : DataW.Trod enc Tryd.prog W 0 (fun _ => true) true 22 v d p) : ∃ (A : Option Addr) (c : Nat) (l : List (Int × Int)), v = .slice A l.length c ∧ RdA W A l := by
  obtain ⟨A0, len0, cap0, rfl⟩ := okWide_slice Tryd.underlying22 hv
  obtain ⟨fuel, hf⟩ := h
  rcases open_slice_pairs Tryd.underlying22 Tryd.underlying35 (by kernel_rfl) rfl rfl (by kernel_rfl) (by kernel_rfl) hf with ⟨hc, _⟩ | ⟨a, len, cap, m, n, V0, V1, D0, D1, P0, P1, hc, _, hl, _, hm, _, hall⟩
  · simp only [Value.cells, List.cons.injEq, and_true] at hc
    exact ⟨none, 0, [], hc, fun h => by simp at h⟩
  · simp only [Value.cells, List.cons.injEq, and_true] at hc
    simp only [if_true] at hm
    have hq : ∀ i : Nat, ∃ q : Int × Int, i < len → W.cell? (a.add (i * 2)) = some (.int .i64 q.1) ∧ W.cell? (a.add (i * 2 + 1)) = some (.int .i64 q.2) := fun i => by
      by_cases hi : i < len
      · obtain ⟨h1, h2, h3, h4⟩ := hall i (by omega)
        obtain ⟨x, e0, _, _⟩ := DataW.trod_int Tryd.underlying3 h3
        obtain ⟨y, e1, _, _⟩ := DataW.trod_int Tryd.underlying3 h4
        simp only [List.cons.injEq, and_true] at e0 e1
        rw [e0] at h1
        rw [e1] at h2
        exact ⟨(x, y), fun _ => ⟨h1, h2⟩⟩
      · exact ⟨(0, 0), fun h => absurd h hi⟩
    obtain ⟨q, hq⟩ := Classical.axiomOfChoice hq
    refine ⟨some a, cap, (List.range len).map q, by simpa using hc, fun hn => ?_⟩
    simp at hn
    obtain ⟨b, o, spot⟩ := a
    have hspot : spot = none := by simpa [Addr.add] using World.cell?_spot (hq 0 hn).1
    subst hspot
    refine ⟨b, o, rfl, World.block_lt_of_cell? W ⟨b, o, none⟩ (by simpa [Addr.add] using (hq 0 hn).1), fun i hi => ?_⟩
    simp at hi
    have := hq i hi
    simp only [List.getElem_map, List.getElem_range]
    rcases i with _ | i
    · simpa [Addr.add] using this
    · simpa [Addr.add, Nat.add_assoc] using this
end
end Go.Proofs.YtpocpeiiacgoaaaDoor
