/-
  Keys and truths that came in, opened.
-/
import Derived.Test.YtekaeeckhfghpaaIxH
import Derived.Test.YtekaeeckhfghpaaLawPost
import Derived.Deep.Grids
import Derived.Lib.SmallJoins
namespace Go.Proofs.Ytekaeeckhfghpaa
open Go.ChangeShapes Go.WideShapes Go.RowKit Go.Joins Go.Deep

theorem u32_nat2 {n : Int} (h : (Lit.int .u32 n).wf = true) : ((n.toNat : Nat) : Int) = n := by
  simp only [Lit.wf, Bool.and_eq_true, decide_eq_true_eq] at h
  exact Int.toNat_of_nonneg h.1
section
variable {H : Type} {enc : TypeId × Value → H} {W : World}
theorem ix_row_at {a : Addr} {vs : List Value} (h : ∀ i (hi : i < vs.length), W.cell? (a.add i) = some vs[i]) : RdV W W.heap.size (some a) vs := by
  intro hn
  obtain ⟨b, o, spot⟩ := a
  have hspot : spot = none := by simpa [Addr.add] using World.cell?_spot (h 0 hn)
  subst hspot
  refine ⟨b, o, rfl, World.block_lt_of_cell? W ⟨b, o, none⟩ (by simpa [Addr.add] using h 0 hn), fun i hi => ?_⟩
  have := h i hi
  rcases i with _ | i
  · simpa [Addr.add] using this
  · simpa [Addr.add] using this
/-- Keys that came in. -/
theorem open_keys {v : Value} {d : DataW H} {p : List MemPlace} {r : Reach} {b0 : Nat} (hv : Value.okWide Try.prog W r b0 38 v) (h : DataW.Trod enc Try.prog W 0 (fun _ => true) true 38 v d p) : ∃ (A : Option Addr) (c : Nat) (l : List Nat), v = .slice A l.length c ∧ RdV W W.heap.size A (uC l) := by
  obtain ⟨A0, len0, cap0, rfl⟩ := okWide_slice Try.underlying38 hv
  obtain ⟨fuel, hf⟩ := h
  rcases Go.ChangeShapes.open_ints Try.underlying38 Try.underlying23 (by kernel_rfl) hf with ⟨hc, _⟩ | ⟨a, len, cap, zs, hc, _, hl, _, hz, _, hall, hwf⟩
  · simp only [Value.cells, List.cons.injEq, and_true] at hc
    exact ⟨none, 0, [], hc, RdV.nil⟩
  · simp only [Value.cells, List.cons.injEq, and_true] at hc
    simp only [if_true] at hz
    have hlen : ((zs.take len).map Int.toNat).length = len := by simp; omega
    have hr : RdV W W.heap.size (some a) (uC ((zs.take len).map Int.toNat)) := ix_row_at fun i hi => by
      rw [uC_len, hlen] at hi
      rw [hall i (by omega)]
      have hil : i < zs.length := by omega
      simp only [uC, List.getElem_map, List.getElem_take]
      rw [List.getD_eq_getElem?_getD, List.getElem?_eq_getElem hil, Option.getD_some, u32_nat2 (hwf _ (List.getElem_mem hil))]
    exact ⟨some a, cap, (zs.take len).map Int.toNat, by rw [hlen]; exact hc, hr⟩
/-- Truths that came in. -/
theorem open_truths {v : Value} {d : DataW H} {p : List MemPlace} {r : Reach} {b0 : Nat} (hv : Value.okWide Try.prog W r b0 39 v) (h : DataW.Trod enc Try.prog W 0 (fun _ => true) true 39 v d p) : ∃ (A : Option Addr) (c : Nat) (l : List Bool), v = .slice A l.length c ∧ RdV W W.heap.size A (tB l) := by
  obtain ⟨A0, len0, cap0, rfl⟩ := okWide_slice Try.underlying39 hv
  obtain ⟨fuel, hf⟩ := h
  rcases open_bools Try.underlying39 Try.underlying4 (by kernel_rfl) hf with ⟨hc, _⟩ | ⟨a, len, cap, B, hc, _, hl, _, _, hall⟩
  · simp only [Value.cells, List.cons.injEq, and_true] at hc
    exact ⟨none, 0, [], hc, RdV.nil⟩
  · simp only [Value.cells, List.cons.injEq, and_true] at hc
    have hr : RdV W W.heap.size (some a) (tB ((List.range len).map B)) := ix_row_at fun i hi => by
      simp [tB] at hi
      rw [hall i (by omega)]
      simp [tB]
    exact ⟨some a, cap, (List.range len).map B, by simpa using hc, hr⟩
end
end Go.Proofs.Ytekaeeckhfghpaa
