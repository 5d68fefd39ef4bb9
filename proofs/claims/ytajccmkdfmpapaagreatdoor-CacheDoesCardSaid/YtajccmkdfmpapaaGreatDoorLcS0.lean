/-
  Both caches, apart.
-/
import Derived.Test.YtajccmkdfmpapaaGreatDoorCaN
import Derived.Test.YtajccmkdfmpapaaGreatDoorZmG
import Derived.Test.YtajccmkdfmpapaaGreatDoorLcA0
namespace Go.Proofs.YtajccmkdfmpapaaGreatDoor
open Go.RowKit

theorem RowF.void {F G : Nat → Prop} {w : World} {v : Value} {vs : List Value} (h : RowF F w v vs) (he : vs = []) : RowF G w v vs := by
  obtain ⟨A, c, e, hc, hr, hin, hz⟩ := h
  exact ⟨A, c, e, hc, hr, fun hp => absurd hp (by rw [he]; simp), hz⟩
/-- Nothing lies in a new cache. -/
theorem RcC.fresh {Y Y' : Nat → Prop} {w : World} {rc kb n : Nat} (h : RcC Y w rc kb (.slice none 0 0) (.slice none 0 0) id ⟨[], [], [], n⟩) (hy : ∀ k, w.heap.size ≤ k → Y' k) : RcC Y' w rc kb (.slice none 0 0) (.slice none 0 0) id ⟨[], [], [], n⟩ := by
  obtain ⟨⟨vT, vK, hr⟩, hw⟩ := h.k
  refine ⟨h.b, h.l, RowF.nil _ _, ⟨⟨vT, vK, hr.1, hr.2.1.void rfl, hr.2.2.1.void rfl, fun k hk => ?_⟩, hw⟩, h.ne, fun j hj => (by cases hj), h.inj, h.wf⟩
  have := hr.2.2.2 k hk
  exact ⟨this.1, this.2.1, hy k hk⟩
def farY (cb kb ib eb : Nat) : Nat → Prop := fun k => k ≠ cb ∧ k ≠ kb ∧ k ≠ ib ∧ k ≠ eb
/-- Both caches are S. -/
structure TwC (w0 w : World) (cb kb ib eb rc rk : Nat) (S : CaS) : Prop where
  c : ∃ σ, LcC w cb kb ib eb σ S
  r : ∃ vL vS σ, RcC (farY cb kb ib eb) w rc rk vL vS σ S ∧ ∀ j, vL.ownBlock = some j → w0.heap.size ≤ j
  ge : w0.heap.size ≤ kb ∧ w0.heap.size ≤ rc ∧ w0.heap.size ≤ rk
  far : (rc ≠ cb ∧ rc ≠ kb ∧ rc ≠ ib ∧ rc ≠ eb) ∧ rk ≠ cb ∧ rk ≠ kb ∧ rk ≠ ib ∧ rk ≠ eb
  old : Below w0.heap.size w0 w
section
variable {w0 w w' : World} {cb kb ib eb rc rk : Nat} {S S' : CaS}
theorem TwC.up (h : TwC w0 w cb kb ib eb rc rk S) (hb : Below w.heap.size w w') : TwC w0 w' cb kb ib eb rc rk S := by
  obtain ⟨⟨σ, hc⟩, ⟨vL, vS, σ2, hr, ho⟩, h3, h4, h5⟩ := h
  exact ⟨⟨σ, hc.up hb⟩, ⟨vL, vS, σ2, hr.up hb, ho⟩, h3, h4, below_all h5 hb⟩
/-- The landed one has done an act. -/
theorem TwC.did {v : Value} {r : Ending} (h : TwC w0 w cb kb ib eb rc rk S) (ht : LcTo cb kb ib eb v S' w r w') : (∃ σ, LcC w' cb kb ib eb σ S') ∧ (∃ vL vS σ, RcC (farY cb kb ib eb) w' rc rk vL vS σ S ∧ ∀ j, vL.ownBlock = some j → w0.heap.size ≤ j) ∧ Below w0.heap.size w0 w' := by
  obtain ⟨⟨σ, hc⟩, ⟨vL, vS, σ2, hr, ho⟩, h3, h4, h5⟩ := h
  obtain ⟨_, hc', hk⟩ := ht
  have hne := hc.ne
  exact ⟨hc', ⟨vL, vS, σ2, hr.keepY hk (fun k e y => by unfold lcF at e; unfold farY at y; omega) (by unfold lcF; omega) (by unfold lcF; omega), ho⟩, h5.trans (hk.below h5.size (fun k e => by unfold lcF at e; omega))⟩
/-- The landed one's act leaves the document's one as it is. -/
theorem RcC.past {v : Value} {r : Ending} {vL vS : Value} {σ σ2 : Nat → Nat} (hc : LcC w cb kb ib eb σ S) (hr : RcC (farY cb kb ib eb) w rc rk vL vS σ2 S) (h4 : (rc ≠ cb ∧ rc ≠ kb ∧ rc ≠ ib ∧ rc ≠ eb) ∧ rk ≠ cb ∧ rk ≠ kb ∧ rk ≠ ib ∧ rk ≠ eb) (ht : LcTo cb kb ib eb v S' w r w') : RcC (farY cb kb ib eb) w' rc rk vL vS σ2 S := by
  obtain ⟨_, _, hk⟩ := ht
  exact hr.keepY hk (fun k e y => by unfold lcF at e; unfold farY at y; omega) (by unfold lcF; omega) (by unfold lcF; omega)
/-- Then the document's one. -/
theorem TwC.owned {v : Value} {r : Ending} {w1 : World} {vL vS : Value} {σ : Nat → Nat} (h : TwC w0 w cb kb ib eb rc rk S) (hc : ∃ σ, LcC w1 cb kb ib eb σ S') (hr : RcC (farY cb kb ib eb) w1 rc rk vL vS σ S) (ho : ∀ j, vL.ownBlock = some j → w0.heap.size ≤ j) (h5 : Below w0.heap.size w0 w1) (ht : RcTo (farY cb kb ib eb) rc rk vL v S' w1 r w') : TwC w0 w' cb kb ib eb rc rk S' ∧ Kept (rcF rc rk vL) w1 w' := by
  obtain ⟨_, _, h3, h4, _⟩ := h
  obtain ⟨σ1, hc⟩ := hc
  obtain ⟨_, ⟨vL', vS', σ', hr', ho'⟩, hk⟩ := ht
  have hn : ∀ j, farY cb kb ib eb j ∨ j = rc ∨ j = rk → j ≠ cb ∧ j ≠ kb ∧ j ≠ ib ∧ j ≠ eb := fun j e => by unfold farY at e; omega
  have hF : ∀ k, rcF rc rk vL k → k ≠ cb ∧ k ≠ kb ∧ k ≠ ib ∧ k ≠ eb := fun k e => by
    rcases e with e | e | e
    · exact hn k (.inr (.inl e))
    · exact hn k (.inr (.inr e))
    · exact hn k (.inl (hr.own k e).2.2)
  have hg : ∀ k, rcF rc rk vL k → w0.heap.size ≤ k := fun k e => by
    rcases e with e | e | e
    · omega
    · omega
    · exact ho k e
  refine ⟨⟨⟨σ1, hc.keep hk (fun e => (hF _ e).1 rfl) (fun e => (hF _ e).2.1 rfl) (fun e => (hF _ e).2.2.1 rfl) (fun e => (hF _ e).2.2.2 rfl)⟩, ⟨vL', vS', σ', hr', fun j hj => ?_⟩, h3, h4, h5.trans (hk.below h5.size hg)⟩, hk⟩
  rcases ho' j hj with e | e
  · exact ho j e
  · exact Nat.le_trans h5.size e
end
end Go.Proofs.YtajccmkdfmpapaaGreatDoor
