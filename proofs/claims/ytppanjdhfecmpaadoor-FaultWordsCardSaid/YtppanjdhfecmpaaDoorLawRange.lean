/-
  The numbers of a slice of (string, int) pairs that came in are ints.
-/
import Derived.Test.YtppanjdhfecmpaaDoorLawKit
import Derived.Test.YtppanjdhfecmpaaDoorFaultR
import Derived.OpenShut
namespace Go.Proofs.YtppanjdhfecmpaaDoor
open Go.ChangeShapes Go.WideShapes Go.RowKit Go.Deep

theorem range_of_wf {n : Int} (h : (Lit.int .i64 n).wf = true) : InRange n := bounds_i64 h

section
variable {H : Type} {enc : TypeId × Value → H} {P : Program}
theorem steps_range {r : Reach} {b0 : Nat} {t e : TypeId} {f0 f1 : Field} {W : World} {v : Value} {d : DataW H} {p : List MemPlace} (ht : P.underlying t = some (.slice e)) (he : P.underlying e = some (.struct #[f0, f1]))
    (ce : P.cellsOf e = 2) (o0 : f0.offset = 0) (o1 : f1.offset = 1) (c0 : P.cellsOf f0.type = 1) (c1 : P.cellsOf f1.type = 1) (u1 : P.underlying f1.type = some (.int .i64))
    (hv : Value.okWide P W r b0 t v) (h : DataW.Trod enc P W 0 (fun _ => true) true t v d p) :
    ∀ (A : Option Addr) (l : List (ByteArray × Int)) (c : Nat), v = .slice A l.length c → (0 < l.length → ∃ b o : Nat, A = some ⟨b, o, none⟩ ∧ b < W.heap.size ∧ ∀ i (h : i < l.length), W.cell? ⟨b, o + i * 2, none⟩ = some (.string l[i].1) ∧ W.cell? ⟨b, o + i * 2 + 1, none⟩ = some (.int .i64 l[i].2)) →
      ∀ s ∈ l, InRange s.2 := by
  intro A l c hvl hst s hs
  obtain ⟨i, hi, rfl⟩ := List.getElem_of_mem hs
  subst hvl
  obtain ⟨fuel, hf⟩ := h
  obtain ⟨b, o, rfl, _, hcell⟩ := hst (by omega)
  rcases open_slice_pairs ht he ce o0 o1 c0 c1 hf with ⟨hc, _⟩ | ⟨a, len, cap, m, k, V0, V1, D0, D1, P0, P1, hc, _, hl, hm, hmm, _, hall⟩
  · simp only [Value.cells, List.cons.injEq, and_true] at hc
    injection hc with h1 h2 h3
    cases h1
  · simp only [Value.cells, List.cons.injEq, and_true] at hc
    injection hc with h1 h2 h3
    injection h1 with h1
    subst h1 h2 h3
    simp only [if_true] at hmm
    subst hmm
    obtain ⟨_, k1, _, g1⟩ := hall i (by omega)
    obtain ⟨n, e1, _, hw⟩ := DataW.trod_int u1 g1
    simp only [List.cons.injEq, and_true] at e1
    have k2 := (hcell i hi).2
    rw [e1] at k1
    have e2 : (⟨b, o, none⟩ : Addr).add (i * 2 + 1) = ⟨b, o + i * 2 + 1, none⟩ := by simp [Addr.add, Nat.add_assoc]
    rw [e2, k2] at k1
    injection k1 with k1
    injection k1 with _ k1
    rw [k1]
    exact range_of_wf hw
end
end Go.Proofs.YtppanjdhfecmpaaDoor
