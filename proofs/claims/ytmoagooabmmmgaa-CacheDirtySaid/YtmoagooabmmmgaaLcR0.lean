/-
  What is known of a block behind an act.
-/
import Derived.Test.YtmoagooabmmmgaaLcD
namespace Go.Proofs.Ytmoagooabmmmgaa
open Go.RowKit

def dyF (p dy : Bool) : Bool := if p then false else dy
def I2 (c : Bool) (d : Int) (a : Nat) (y : Bool) (ad : Nat) (th dy : Bool) : Nat × Bool × Bool := if c = true then (if d = 1 then (a, true, dy || y) else if d = 2 then (a, th, dy) else if d = 3 then (0, false, false) else (ad, th, dy)) else (ad, th, dy)
def I3 (c : Bool) (p : Nat × Bool × Bool) : Nat × Bool × Bool := if c = true then (0, false, false) else p
def p1F (d b : Int) (kn : Nat) : Bool := decide (d = 4) && decide (b = ((kn / 4 : Nat) : Int))
def c2F (S : CaS) (d b : Int) (kn : Nat) : Bool := decide (b = (kn : Int)) && S.toldB d b
def c3F (S : CaS) (d : Int) (kn : Nat) : Bool := decide (d = 5) && S.vicE.isSome && decide (((vicF S).b : Int) = (kn : Int))
def infoN (S : CaS) (d b : Int) (a : Nat) (y : Bool) (kn : Nat) : Nat × Bool × Bool := I3 (c3F S d kn) (I2 (c2F S d b kn) d a y (S.addr kn) (S.has kn) (dyF (p1F d b kn) (S.dty kn)))
theorem info_do (S : CaS) (d b : Int) (a : Nat) (y : Bool) (kn : Nat) : (S.doS d b a y).Info (kn : Int) (infoN S d b a y kn).1 (infoN S d b a y kn).2.1 (infoN S d b a y kn).2.2 := by
  unfold infoN c3F p1F
  by_cases h0 : d = 0
  · subst h0
    have e : S.doS 0 b a y = S.useS b := rfl
    rw [e]
    have := CaS.info_use (S := S) b (kn : Int)
    unfold I3 I2 dyF
    simpa using this
  by_cases h1 : d = 1
  · subst h1
    have e : S.doS 1 b a y = S.putS b a y := rfl
    have e2 : c2F S 1 b kn = (decide (b = (kn : Int)) && S.putB b) := rfl
    rw [e, e2]
    have := CaS.info_put (S := S) b (kn : Int) a y
    unfold I3 I2 dyF
    by_cases hb : b = (kn : Int) ∧ S.putB b = true
    · simp only [if_pos hb] at this
      simpa [hb.1, show S.putB (kn : Int) = true by rw [← hb.1]; exact hb.2] using this
    · simp only [if_neg hb] at this
      have hf : (decide (b = (kn : Int)) && S.putB b) = false := by
        by_cases hx : b = (kn : Int)
        · simp [hx] at hb ⊢
          exact hb
        · simp [hx]
      rw [hf]
      simpa using this
  by_cases h2 : d = 2
  · subst h2
    have e : S.doS 2 b a y = S.moveS b a := rfl
    have e2 : c2F S 2 b kn = (decide (b = (kn : Int)) && S.has b) := rfl
    rw [e, e2]
    have := CaS.info_move (S := S) b (kn : Int) a
    unfold I3 I2 dyF
    by_cases hb : b = (kn : Int) ∧ S.has b = true
    · simp only [if_pos hb] at this
      simpa [hb.1, show S.has (kn : Int) = true by rw [← hb.1]; exact hb.2] using this
    · simp only [if_neg hb] at this
      have hf : (decide (b = (kn : Int)) && S.has b) = false := by
        by_cases hx : b = (kn : Int)
        · simp [hx] at hb ⊢
          exact hb
        · simp [hx]
      rw [hf]
      simpa using this
  by_cases h3 : d = 3
  · subst h3
    have e : S.doS 3 b a y = S.dropS b := rfl
    have e2 : c2F S 3 b kn = (decide (b = (kn : Int)) && S.has b) := rfl
    rw [e, e2]
    have := CaS.info_drop (S := S) b (kn : Int)
    unfold I3 I2 dyF
    by_cases hb : b = (kn : Int)
    · simp only [if_pos hb] at this
      by_cases hh : S.has b = true
      · simpa [hb, show S.has (kn : Int) = true by rw [← hb]; exact hh] using this
      · have hh2 : S.has (kn : Int) = false := by rw [← hb]; simpa using hh
        obtain ⟨_, z1, z2⟩ := CaS.addr_none hh2
        rw [z1, z2, hh2]
        simpa [hb, hh2] using this
    · simp only [if_neg hb] at this
      simpa [hb] using this
  by_cases h4 : d = 4
  · subst h4
    have e : S.doS 4 b a y = S.cleanS b := rfl
    have e2 : c2F S 4 b kn = (decide (b = (kn : Int)) && false) := rfl
    rw [e, e2]
    have := CaS.info_clean (S := S) b (kn : Int)
    rw [Int.toNat_natCast] at this
    unfold I3 I2 dyF
    by_cases hb : ((kn / 4 : Nat) : Int) = b
    · rw [decide_eq_true hb, Bool.not_true, Bool.and_false] at this
      rw [show decide (b = ((kn / 4 : Nat) : Int)) = true from decide_eq_true hb.symm]
      simpa using this
    · rw [decide_eq_false hb, Bool.not_false, Bool.and_true] at this
      rw [show decide (b = ((kn / 4 : Nat) : Int)) = false from decide_eq_false (fun e => hb e.symm)]
      simpa using this
  by_cases h5 : d = 5
  · subst h5
    have e : S.doS 5 b a y = S.vicD := rfl
    rw [e]
    unfold CaS.vicD vicF
    have hI : ∀ c, I2 c 5 a y (S.addr kn) (S.has kn) (dyF (decide ((5 : Int) = 4) && decide (b = ((kn / 4 : Nat) : Int))) (S.dty kn)) = (S.addr kn, S.has kn, S.dty kn) := by
      intro c
      unfold I2 dyF
      simp
    rw [hI]
    cases hv : S.vicE with
    | none =>
      have := CaS.Info.self S (kn : Int)
      unfold I3
      simpa using this
    | some e =>
      have := CaS.info_drop (S := S) (e.b : Int) (kn : Int)
      unfold I3
      by_cases hb : (e.b : Int) = (kn : Int)
      · simp only [if_pos hb] at this
        simpa [hb] using this
      · simp only [if_neg hb] at this
        simpa [hb] using this
  have e : S.doS d b a y = S := by
    unfold CaS.doS
    rw [if_neg h0, if_neg h1, if_neg h2, if_neg h3, if_neg h4, if_neg h5]
  rw [e]
  have := CaS.Info.self S (kn : Int)
  unfold I3 I2 dyF
  simpa [h1, h2, h3, h4, h5] using this
end Go.Proofs.Ytmoagooabmmmgaa
