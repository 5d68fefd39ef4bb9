/-
  A region that draws its order: once its first operations have come up, and all others are quiet in every world that has a property G, one walk of these in the order of the text serves. For whatever program.
-/
import Derived.Test.YtljpkngbhdplbaaDoorQuietIn
import Derived.Deep.RegionWith
namespace Go.Proofs.YtljpkngbhdplbaaDoor
open Go.RowKit

theorem wpAny_rest {P : Program} {md : Region.Mode} {ops : Array Oper} {Q : Exit → Act → World → Prop} {fuel : Nat} {listed : Array Bool} {a : Act} {w : World} (G : World → Prop) (k : Nat) (hG : G w) (hs : Region.noSelect ops = true)
    (hf : (ops.toList.drop k).length = fuel) (hB : Region.lexFrom md ops fuel k listed = true)
    (h : Nonempty (In G) → wpQuiet P ops (fun w' => ∃ n : In G, w' = n.w) (fun a' => ∀ n : In G, Q .normal a' n.w) (ops.toList.drop k) a) : wpAny P md ops Q fuel listed a w := by
  subst hf
  exact wpAny_of_quiet (C := fun w' => ∃ n : In G, w' = n.w) (Q := fun a' => ∀ n : In G, Q .normal a' n.w) (fun _ _ ⟨n, hn⟩ hq => hn ▸ hq n) _ _ _ _ ⟨⟨w, hG⟩, rfl⟩
    (wpAnyQ_lex hs (ops.toList.drop k) k listed a (fun j => by simp) hB (h ⟨⟨w, hG⟩⟩))
end Go.Proofs.YtljpkngbhdplbaaDoor
