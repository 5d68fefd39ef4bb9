/-
  A slice of bytes that came in, opened.
-/
import Derived.Test.YtljpkngbhdplbaaDoorLawPost
import Derived.Test.YtljpkngbhdplbaaDoorRdA
import Derived.ChangeSlices
import Derived.OpenShut
namespace Go.Proofs.YtljpkngbhdplbaaDoor
open Go.ChangeShapes Go.WideShapes Go.RowKit

theorem byte_wf {n : Int} (h : (Lit.int .u8 n).wf = true) : 0 ≤ n ∧ n ≤ 255 := by
  simp only [Lit.wf, Bool.and_eq_true, decide_eq_true_eq] at h
  exact h
theorem u32_wf {n : Int} (h : (Lit.int .u32 n).wf = true) : 0 ≤ n ∧ n ≤ 4294967295 := by
  simp only [Lit.wf, Bool.and_eq_true, decide_eq_true_eq] at h
  exact h
theorem open_bytes {H : Type} {enc : TypeId × Value → H} {P : Program} {r : Reach} {b0 : Nat} {t e : TypeId} {W : World} {v : Value} {d : DataW H} {p : List MemPlace} (ht : P.underlying t = some (.slice e)) (he : P.underlying e = some (.int .u8))
    (ce : P.cellsOf e = 1) (hv : Value.okWide P W r b0 t v) (h : DataW.Trod enc P W 0 (fun _ => true) true t v d p) :
    ∃ (A : Option Addr) (xs : List Int) (c : Nat), v = .slice A xs.length c ∧ xs.length ≤ c ∧ Byt xs ∧ Rd W W.heap.size A xs ∧ (A = none → c = 0) := by
  obtain ⟨A, len0, cap0, rfl⟩ := okWide_slice ht hv
  obtain ⟨fuel, hf⟩ := h
  rcases open_ints ht he ce hf with ⟨hc, _⟩ | ⟨a, len, cap, zs, hc, _, hl, _, hz, _, hall, hwf⟩
  · simp only [Value.cells, List.cons.injEq, and_true] at hc
    injection hc with h1 h2 h3
    subst h1 h2 h3
    exact ⟨none, [], 0, rfl, by simp, Byt.nil, (fun h => by simp at h), fun _ => rfl⟩
  · simp only [Value.cells, List.cons.injEq, and_true] at hc
    injection hc with h1 h2 h3
    subst h1 h2 h3
    simp only [if_true] at hz
    have hlen : (zs.take len0).length = len0 := by simp; omega
    refine ⟨some a, zs.take len0, cap0, by rw [hlen], by rw [hlen]; exact hl, fun x hx => byte_wf (hwf x (List.mem_of_mem_take hx)), fun hn => ?_, fun h => by cases h⟩
    rw [hlen] at hn
    obtain ⟨b, o, spot⟩ := a
    have hspot : spot = none := by simpa [Addr.add] using World.cell?_spot (hall 0 (by omega))
    subst hspot
    refine ⟨b, o, rfl, World.block_lt_of_cell? W ⟨b, o, none⟩ (by simpa [Addr.add] using hall 0 (by omega)), fun i hi => ?_⟩
    rw [hlen] at hi
    have h1 := hall i (by omega)
    rw [List.getElem_take]
    rw [List.getD_eq_getElem?_getD, List.getElem?_eq_getElem (by omega), Option.getD_some] at h1
    rcases i with _ | i
    · simpa [Addr.add] using h1
    · simpa [Addr.add] using h1
end Go.Proofs.YtljpkngbhdplbaaDoor
