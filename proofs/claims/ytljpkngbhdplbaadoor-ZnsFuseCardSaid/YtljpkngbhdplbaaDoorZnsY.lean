/-
  platelayerlaw07.ZnsFuse answers true.
-/
import Derived.Test.YtljpkngbhdplbaaDoorZnsX
namespace Go.Proofs.YtljpkngbhdplbaaDoor
open Go.RowKit

/-- While the fuse burns: so many calls were done of those that it lets. -/
structure FuseI (S : DevS) (f dn : Nat) : Prop where
  done : S.done = dn
  le : dn ≤ f
  left : S.gone = false → S.left = (f : Int) - dn
  out : S.gone = true → dn = f
theorem FuseI.put {S : DevS} {f dn : Nat} (h : FuseI S f dn) (n : Int) (z : ZoneS) : FuseI (S.put n z) f dn := ⟨h.done, h.le, h.left, h.out⟩
theorem FuseI.may {S : DevS} {f dn : Nat} (h : FuseI S f dn) (e : Int) : (S.mayE e = 0 → FuseI (S.mayS e) f (dn + 1)) ∧ (S.mayE e ≠ 0 → FuseI (S.mayS e) f dn) ∧ (S.mayE e = 7 → e ≠ 7 → (S.mayS e).gone = true) ∧ (S.gone = true → S.mayE e = 7) := by
  unfold DevS.mayE DevS.mayS
  cases hg : S.gone
  · have hl := h.left hg
    have hle := h.le
    have hd := h.done
    simp only [Bool.false_eq_true, if_false]
    by_cases he : e = 0
    · subst he
      simp only [ne_eq, not_true, if_false]
      by_cases h0 : S.left = 0
      · simp only [h0, if_true]
        refine ⟨fun h => by omega, fun _ => ⟨hd, hle, fun h => by simp at h, fun _ => by omega⟩, fun _ _ => by simp, fun h => by simp at h⟩
      · simp only [h0, if_false]
        refine ⟨fun _ => ⟨by simp [hd], by omega, fun _ => ?_, fun h => ?_⟩, fun h => by simp at h, fun h => by simp at h, fun h => by simp at h⟩
        · simp only
          rw [if_pos (by omega)]
          omega
        · simp at h
    · simp only [he, ne_eq, not_false_eq_true, if_true]
      exact ⟨fun h => by simp at h, fun _ => h, fun h1 h2 => absurd h1 h2, fun h => by simp at h⟩
  · simp only [if_true]
    exact ⟨fun h => by omega, fun _ => h, fun _ _ => hg, fun _ => trivial⟩
theorem may_point (S : DevS) (e n : Int) : (S.mayS e).point n = S.point n := by unfold DevS.point; rw [is_may, may_zone]
/-- One act while the fuse burns. -/
structure FuseA (S S' : DevS) (t : ToldS) (f dn dn' : Nat) : Prop where
  inv : FuseI S' f dn'
  was : S.gone = true → t.e = 7
  now : t.e = 7 → S'.gone = true
  pts : t.e ≠ 0 → ∀ n, S'.point n = S.point n
theorem fuse_call {S T : DevS} {t : ToldS} {f dn : Nat} {e : Int} (h : FuseI S f dn) (ht : t.e = S.mayE e) (he : e ≠ 7) (h0 : S.mayE e = 0 → FuseI T f (dn + 1) ) (h1 : S.mayE e ≠ 0 → T = S.mayS e) : FuseA S T t f dn (if t.e = 0 then dn + 1 else dn) := by
  have hm := h.may e
  rw [← ht] at hm h0 h1
  by_cases hz : t.e = 0
  · rw [if_pos hz]
    exact ⟨h0 hz, fun h => hm.2.2.2 h, fun h => absurd (hz.symm.trans h) (by decide), fun h => absurd hz h⟩
  · rw [if_neg hz, h1 hz]
    exact ⟨hm.2.1 hz, hm.2.2.2, fun h => hm.2.2.1 h he, fun _ n => may_point S e n⟩
theorem fuse_act {S : DevS} {f dn : Nat} {x : ActS} (h : FuseI S f dn) (hx0 : 0 ≤ x.Do) (hx4 : x.Do ≤ 4) : FuseA S (actS S x) (actT S x) f dn (if x.Do ≠ 1 ∧ (actT S x).e = 0 then dn + 1 else dn) := by
  have key : ∀ e, x.Do ≠ 1 → (actT S x).e = S.mayE e → e ≠ 7 → (S.mayE e = 0 → FuseI (actS S x) f (dn + 1)) → (S.mayE e ≠ 0 → actS S x = S.mayS e) → FuseA S (actS S x) (actT S x) f dn (if x.Do ≠ 1 ∧ (actT S x).e = 0 then dn + 1 else dn) := fun e h1 h2 h3 h4 h5 => by
    have := fuse_call h h2 h3 h4 h5
    rwa [show (if x.Do ≠ 1 ∧ (actT S x).e = 0 then dn + 1 else dn) = (if (actT S x).e = 0 then dn + 1 else dn) by simp [h1]]
  rcases (show x.Do = 0 ∨ x.Do = 1 ∨ x.Do = 2 ∨ x.Do = 3 ∨ x.Do = 4 by omega) with hd | hd | hd | hd | hd
  · refine key (S.appE x.zone x.B) (by omega) (by rw [(act_zero hd).2]) ?_ (fun h0 => ?_) (fun h0 => ?_)
    · unfold DevS.appE
      split
      · decide
      · split
        · decide
        · decide
    · rw [(act_zero hd).1]
      unfold DevS.app
      rw [if_pos h0]
      exact ((h.may _).1 h0).put _ _
    · rw [(act_zero hd).1]
      unfold DevS.app
      rw [if_neg h0]
  · rw [(act_one hd).1, (act_one hd).2, if_neg (by simp [hd])]
    refine ⟨h, fun hg => by simp [DevS.readE, hg], fun he => ?_, fun _ _ => rfl⟩
    simp only at he
    unfold DevS.readE at he
    cases hg : S.gone
    · rw [hg] at he
      simp only [Bool.false_eq_true, if_false] at he
      split at he
      · omega
      · split at he
        · omega
        · split at he
          · omega
          · omega
    · rfl
  · refine key (S.resetE x.zone) (by omega) (by rw [(act_two hd).2]) ?_ (fun h0 => ?_) (fun h0 => ?_)
    · unfold DevS.resetE
      split
      · decide
      · decide
    · rw [(act_two hd).1]
      unfold DevS.reset
      rw [if_pos h0]
      exact ((h.may _).1 h0).put _ _
    · rw [(act_two hd).1]
      unfold DevS.reset
      rw [if_neg h0]
  · refine key (S.finE x.zone) (by omega) (by rw [(act_three hd).2]) ?_ (fun h0 => ?_) (fun h0 => ?_)
    · unfold DevS.finE
      split
      · split
        · decide
        · decide
      · decide
    · rw [(act_three hd).1]
      unfold DevS.finish
      rw [if_pos h0]
      exact ((h.may _).1 h0).put _ _
    · rw [(act_three hd).1]
      unfold DevS.finish
      rw [if_neg h0]
  · refine key 0 (by omega) (by rw [(act_four hd).2]) (by decide) (fun h0 => ?_) (fun h0 => ?_)
    · rw [(act_four hd).1]
      unfold DevS.flush
      rw [if_pos h0]
      have := (h.may 0).1 h0
      exact ⟨this.done, this.le, this.left, this.out⟩
    · rw [(act_four hd).1]
      unfold DevS.flush
      rw [if_neg h0]
def sumP (S : DevS) : Nat → Nat
  | 0 => 0
  | k + 1 => sumP S k + S.point (k : Int)
theorem sumP_le {S : DevS} (h : S.WF) (k : Nat) : sumP S k ≤ 16 * k := by
  induction k with
  | zero => simp [sumP]
  | succ k ih => have := point_le h (k : Int); simp only [sumP]; omega
theorem sumP_eq {S T : DevS} (h : ∀ n, T.point n = S.point n) (k : Nat) : sumP T k = sumP S k := by
  induction k with
  | zero => rfl
  | succ k ih => simp only [sumP, ih, h]
theorem fuse_start {n p f : Nat} (_h : 1 ≤ n) : FuseI ((DevS.new n p).fuse (f : Int)) f 0 := by
  refine ⟨rfl, Nat.zero_le _, fun _ => ?_, fun h => by simp [DevS.fuse, DevS.new] at h⟩
  simp [DevS.fuse]
end Go.Proofs.YtljpkngbhdplbaaDoor
