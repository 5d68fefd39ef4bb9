/-
  Acts of two numbers that are read.
-/
import Derived.Test.YtpocpeiiacgoaaaLrF0
namespace Go.Proofs.Ytpocpeiiacgoaaa
open Go.RowKit

/-- Acts that are read. -/
def RdA (w : World) (A : Option Addr) (l : List (Int × Int)) : Prop :=
  0 < l.length → ∃ b o : Nat, A = some ⟨b, o, none⟩ ∧ b < w.heap.size ∧ ∀ i (h : i < l.length), w.cell? ⟨b, o + i * 2, none⟩ = some (.int .i64 l[i].1) ∧ w.cell? ⟨b, o + i * 2 + 1, none⟩ = some (.int .i64 l[i].2)
theorem RdA.below {w w' : World} {A : Option Addr} {l : List (Int × Int)} (h : RdA w A l) (hb : Below w.heap.size w w') : RdA w' A l := by
  intro hn
  obtain ⟨b, o, hA, hlt, hc⟩ := h hn
  exact ⟨b, o, hA, Nat.lt_of_lt_of_le hlt hb.size, fun i hi => ⟨(hb.cell (p := ⟨b, o + i * 2, none⟩) hlt).trans (hc i hi).1, (hb.cell (p := ⟨b, o + i * 2 + 1, none⟩) hlt).trans (hc i hi).2⟩⟩
end Go.Proofs.Ytpocpeiiacgoaaa
