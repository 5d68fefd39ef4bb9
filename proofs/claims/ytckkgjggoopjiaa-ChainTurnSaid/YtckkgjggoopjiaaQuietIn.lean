/-
  A region that draws its order, whose operations read and whose callees read or make memory: one walk in the order of the text, in every world that has a property G (which new memory does not end). For whatever program.
-/
import Derived.Deep.QuietTactic
import Derived.BigQuiet
import Derived.Below
namespace Go.Proofs.Ytckkgjggoopjiaa
open Go.RowKit

/-- A world that has the property G. -/
structure In (G : World → Prop) where
  w : World
  ok : G w

section
variable {P : Program} {G : World → Prop}

theorem wp_region_in {id : Nat} {Q : Exit → Act → World → Prop} {a : Act} {w : World} {l : List Oper} (G : World → Prop) (hG : G w.drew) (hm : P.follows .mixedOrders = true) (hB : Region.lexB .any l.toArray = true)
    (h : Nonempty (In G) → wpQuiet P l.toArray (fun w' => ∃ n : In G, w' = n.w) (fun a' => ∀ n : In G, Q .normal a' n.w) l a) : (Code.region id l.toArray true).wp P Q a w :=
  wp_region_quiet (C := fun w' => ∃ n : In G, w' = n.w) hm hB ⟨⟨_, hG⟩, rfl⟩ (by
    have h' := h ⟨⟨_, hG⟩⟩
    have e : (fun a' => ∀ w', (∃ n : In G, w' = n.w) → Q .normal a' w') = (fun a' => ∀ n : In G, Q .normal a' n.w) := by
      funext a'
      exact propext ⟨fun k n => k _ ⟨n, rfl⟩, fun k w' ⟨n, hn⟩ => hn ▸ k n⟩
    rw [e]
    simpa using h')

/-- A callee that leaves the world alone. -/
theorem In.same {f : FuncId} {args : Array Value} {n : In G} {v : Value} (h : Calls P f args n.w fun e w' => e = .returned v ∧ n.w = w') : Calls P f args n.w fun e w'' => e = .returned v ∧ ∃ m : In G, w'' = m.w :=
  h.mono fun _ _ ⟨he, hw⟩ => ⟨he, n, hw.symm⟩
/-- A callee that makes memory. -/
theorem In.more {f : FuncId} {args : Array Value} {n : In G} {v : Value} (up : ∀ {a b : World}, G a → Below a.heap.size a b → G b) (h : Calls P f args n.w fun e w' => e = .returned v ∧ Below n.w.heap.size n.w w') :
    Calls P f args n.w fun e w'' => e = .returned v ∧ ∃ m : In G, w'' = m.w :=
  h.mono fun _ w' ⟨he, hw⟩ => ⟨he, ⟨w', up n.ok hw⟩, rfl⟩
end
end Go.Proofs.Ytckkgjggoopjiaa
