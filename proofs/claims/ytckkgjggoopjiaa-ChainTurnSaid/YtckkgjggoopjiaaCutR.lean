/-
  Rows that are read, cut in two: s[:j] and s[j:].
-/
import Derived.Test.YtckkgjggoopjiaaCelB
namespace Go.Proofs.Ytckkgjggoopjiaa
open Go.RowKit

/-- What cutting a slice tells, in whatever world. -/
def CutIs (Ts : TypeId) (x : Value) (lo hi : Option Value) (v : Value) : Prop :=
  (∀ W : World, (Instr.sliceAt Ts x lo hi none).run Try.prog W = .ok v W) ∧ ∀ W : World, (Instr.slice Ts x lo hi none).run Try.prog W = .ok v W
theorem rdv_pre {w u : World} {A : Option Addr} {vs : List Value} (h : RdV w w.heap.size A vs) (hb : Below w.heap.size w u) (k : Nat) : RdV u u.heap.size A (vs.take k) := by
  intro hn
  have hp : 0 < vs.length := by simp at hn; omega
  obtain ⟨b, o, hA, hlt, hc⟩ := (h.up hb) hp
  refine ⟨b, o, hA, hlt, fun i hi => ?_⟩
  rw [hc i (by simp at hi; omega)]
  simp
theorem rdv_suf {w u : World} {b o : Nat} {vs : List Value} (h : RdV w w.heap.size (some ⟨b, o, none⟩) vs) (hb : Below w.heap.size w u) (k : Nat) : RdV u u.heap.size (some ⟨b, o + k, none⟩) (vs.drop k) := by
  intro hn
  have hp : k < vs.length := by simp at hn; omega
  obtain ⟨b', o', hA, hlt, hc⟩ := (h.up hb) (by omega)
  have hA := Option.some.inj hA
  injection hA with h1 h2
  subst h1 h2
  refine ⟨b, o + k, rfl, hlt, fun i hi => ?_⟩
  rw [Nat.add_assoc, hc (k + i) (by simp at hi; omega)]
  simp
section
variable {w : World} {Ts : TypeId} {k n c j : Nat} {A : Option Addr} {vs : List Value}
theorem cut_head (he : Try.prog.underlying Ts = some (.slice (Try.prog.elem Ts))) (hz : ∀ W : World, (sizeOf (Try.prog.elem Ts)).run Try.prog W = .ok k W) (hr : RdV w w.heap.size A vs) (hA : A = none → c = 0) (hnc : n ≤ c) (hj : j ≤ n) :
    ∃ A1 c1, CutIs Ts (.slice A n c) none (some (.int .i64 (j : Int))) (.slice A1 j c1) ∧ (A1 = none → c1 = 0) ∧ ∀ u, Below w.heap.size w u → RdV u u.heap.size A1 (vs.take (j * k)) := by
  have h2 : ∀ W : World, (Instr.slice Ts (.slice A n c) none (some (.int .i64 (j : Int))) none).run Try.prog W = .ok (.slice A j c) W := fun W => by
    rw [run_slice_h (P := Try.prog) (w := W) (t := Ts) (a := A) (len := n) (cap := c) (ht := he) (kh := .i64) (h := j) (by omega) (by omega), hz]
    cases A with
    | none => simp [Result.andThen, sliced]
    | some a =>
      have e : sliced (some a) 0 j c k = .slice (some a) j c := by
        unfold sliced
        by_cases hc : c = 0
        · rw [if_pos hc, hc, Nat.sub_zero]
        · rw [if_neg hc, Nat.zero_mul, Nat.sub_zero, Nat.sub_zero]
          rfl
      show Result.ok (sliced (some a) 0 ((j : Int).toNat) c k) W = _
      rw [Int.toNat_natCast, e]
  exact ⟨A, c, ⟨fun W => by rw [run_sliceAt_slice (h := he)]; exact h2 W, h2⟩, hA, fun u hu => rdv_pre hr hu _⟩
theorem cut_tail (he : Try.prog.underlying Ts = some (.slice (Try.prog.elem Ts))) (hz : ∀ W : World, (sizeOf (Try.prog.elem Ts)).run Try.prog W = .ok k W) (hr : RdV w w.heap.size A vs) (hA : A = none → c = 0) (hl : vs.length = n * k) (hk : 0 < k) (hnc : n ≤ c) (hj : j ≤ n) :
    ∃ A1 c1, CutIs Ts (.slice A n c) (some (.int .i64 (j : Int))) none (.slice A1 (n - j) c1) ∧ (A1 = none → c1 = 0) ∧ ∀ u, Below w.heap.size w u → RdV u u.heap.size A1 (vs.drop (j * k)) := by
  have h2 : ∀ W : World, (Instr.slice Ts (.slice A n c) (some (.int .i64 (j : Int))) none none).run Try.prog W = .ok (sliced A j n c k) W := fun W => by
    rw [run_slice_l (P := Try.prog) (w := W) (t := Ts) (a := A) (len := n) (cap := c) (ht := he) (kl := .i64) (l := j) (by omega) (by omega), hz]
    simp [Result.andThen]
  have hcut : ∀ v, sliced A j n c k = v → CutIs Ts (.slice A n c) (some (.int .i64 (j : Int))) none v := fun v e => by
    subst e
    exact ⟨fun W => by rw [run_sliceAt_slice (h := he)]; exact h2 W, h2⟩
  cases A with
  | none =>
    have hc := hA rfl
    subst hc
    obtain rfl : n = 0 := by omega
    obtain rfl : j = 0 := by omega
    have hv : vs = [] := List.eq_nil_of_length_eq_zero (by omega)
    subst hv
    exact ⟨none, 0, hcut _ (by simp [sliced]), fun _ => rfl, fun u _ => by simpa using RdV.nil⟩
  | some a =>
    by_cases hjn : j < n
    · have hp : 0 < vs.length := by
        rw [hl]
        exact Nat.mul_pos (by omega) hk
      obtain ⟨b, o, e, _, _⟩ := hr hp
      have e := Option.some.inj e
      subst e
      refine ⟨some ⟨b, o + j * k, none⟩, c - j, hcut _ ?_, fun e => (by cases e), fun u hu => rdv_suf hr hu _⟩
      have h1 : ¬ (c = j) := by omega
      by_cases h0 : j * k = 0
      · simp [sliced, Addr.add, h0, h1]
      · simp [sliced, Addr.add, h0, h1]
    · obtain rfl : j = n := by omega
      have hdrop : vs.drop (j * k) = [] := by rw [← hl, List.drop_length]
      rw [hdrop]
      have : ∃ A1, sliced (some a) j j c k = .slice A1 (j - j) (c - j) ∧ A1 ≠ none := by
        unfold sliced
        by_cases h1 : c = j
        · exact ⟨some a, by simp [h1], by simp⟩
        · exact ⟨some (a.add (j * k)), by simp [h1], by simp⟩
      obtain ⟨A1, h3, h4⟩ := this
      exact ⟨A1, c - j, hcut _ h3, fun e => absurd e h4, fun u _ => RdV.nil⟩
end
end Go.Proofs.Ytckkgjggoopjiaa
