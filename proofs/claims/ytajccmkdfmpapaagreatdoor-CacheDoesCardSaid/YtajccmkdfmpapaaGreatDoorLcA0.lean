/-
  The law's own: acts that came in.
-/
import Derived.Test.YtajccmkdfmpapaaGreatDoorZmC
import Derived.Test.YtajccmkdfmpapaaGreatDoorZmH
namespace Go.Proofs.YtajccmkdfmpapaaGreatDoor
open Go.RowKit

def actCells (x : CAct) : List Value := [.int .i64 x.d, .int .i64 x.b, .int .u32 (x.a : Int), .bool x.y]
/-- Acts that are read. -/
def RdC (w : World) (A : Option Addr) (l : List CAct) : Prop :=
  0 < l.length → ∃ b o : Nat, A = some ⟨b, o, none⟩ ∧ b < w.heap.size ∧ ∀ i (h : i < l.length), w.cell? ⟨b, o + i * 4, none⟩ = some (.int .i64 l[i].d) ∧ w.cell? ⟨b, o + i * 4 + 1, none⟩ = some (.int .i64 l[i].b) ∧ w.cell? ⟨b, o + i * 4 + 2, none⟩ = some (.int .u32 (l[i].a : Int)) ∧ w.cell? ⟨b, o + i * 4 + 3, none⟩ = some (.bool l[i].y)
theorem RdC.below {w w' : World} {A : Option Addr} {l : List CAct} (h : RdC w A l) (hb : Below w.heap.size w w') : RdC w' A l := by
  intro hn
  obtain ⟨b, o, hA, hlt, hc⟩ := h hn
  exact ⟨b, o, hA, Nat.lt_of_lt_of_le hlt hb.size, fun i hi => ⟨(hb.cell (p := ⟨b, o + i * 4, none⟩) hlt).trans (hc i hi).1, (hb.cell (p := ⟨b, o + i * 4 + 1, none⟩) hlt).trans (hc i hi).2.1, (hb.cell (p := ⟨b, o + i * 4 + 2, none⟩) hlt).trans (hc i hi).2.2.1, (hb.cell (p := ⟨b, o + i * 4 + 3, none⟩) hlt).trans (hc i hi).2.2.2⟩⟩
end Go.Proofs.YtajccmkdfmpapaaGreatDoor
