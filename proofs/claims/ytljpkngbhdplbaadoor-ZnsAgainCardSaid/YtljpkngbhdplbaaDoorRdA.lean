/-
  Bytes in memory: the word Rd (a slice that reads as bytes); the document's Same. For whatever program that has bytes, and platelayerref03.Same.
-/
import Derived.Test.YtljpkngbhdplbaaDoorChecked
import Derived.Test.YtljpkngbhdplbaaDoorHeadMath
import Derived.WalkKit
import Derived.WalkLawsBesides
import Derived.Below
import Derived.Outline
import Derived.Lib.Hide
import Derived.Deep.LoopGhost
import Derived.Laws.BitsAllLaws
import Derived.Laws.Shifts
namespace Go.Proofs.YtljpkngbhdplbaaDoor
open Go.RowKit

theorem ret_u32 {a b : Int} (h : a = b) : Ending.returned (.int .u32 a) = .returned (.int .u32 b) := by rw [h]
theorem ret_bool {a b : Bool} (h : a = b) : Ending.returned (.bool a) = .returned (.bool b) := by rw [h]
def NumIs (n : Int) (w : World) (r : Ending) (w' : World) : Prop := r = .returned (.int .u32 n) ∧ w = w'
def NumB (n : Int) (w : World) (r : Ending) (w' : World) : Prop := r = .returned (.int .u32 n) ∧ Below w.heap.size w w'
def BoolB (x : Bool) (w : World) (r : Ending) (w' : World) : Prop := r = .returned (.bool x) ∧ Below w.heap.size w w'

/-- The slice of A, xs.length, c reads as these bytes, below block B. -/
def Rd (w : World) (B : Nat) (A : Option Addr) (xs : List Int) : Prop :=
  0 < xs.length → ∃ b o : Nat, A = some ⟨b, o, none⟩ ∧ b < B ∧ ∀ i (h : i < xs.length), w.cell? ⟨b, o + i, none⟩ = some (.int .u8 xs[i])
theorem Rd.below {w w' : World} {B : Nat} {A : Option Addr} {xs : List Int} (h : Rd w B A xs) (hb : Below B w w') : Rd w' B A xs := by
  intro hn
  obtain ⟨b, o, hA, hlt, hc⟩ := h hn
  exact ⟨b, o, hA, hlt, fun i hi => (hb.cell (p := ⟨b, o + i, none⟩) hlt).trans (hc i hi)⟩
theorem Rd.mono {w : World} {B B' : Nat} {A : Option Addr} {xs : List Int} (h : Rd w B A xs) (hB : B ≤ B') : Rd w B' A xs := by
  intro hn
  obtain ⟨b, o, hA, hlt, hc⟩ := h hn
  exact ⟨b, o, hA, Nat.lt_of_lt_of_le hlt hB, hc⟩
theorem Rd.take {w : World} {B : Nat} {A : Option Addr} {xs : List Int} (h : Rd w B A xs) (k : Nat) : Rd w B A (xs.take k) := by
  intro hn
  simp at hn
  obtain ⟨b, o, hA, hlt, hc⟩ := h (by omega)
  refine ⟨b, o, hA, hlt, fun i hi => ?_⟩
  simp at hi
  rw [List.getElem_take]
  exact hc i (by omega)
theorem Rd.drop {w : World} {B b o : Nat} {xs : List Int} (h : Rd w B (some ⟨b, o, none⟩) xs) (k : Nat) : Rd w B (some ⟨b, o + k, none⟩) (xs.drop k) := by
  intro hn
  simp at hn
  obtain ⟨b', o', hA, hlt, hc⟩ := h (by omega)
  injection hA with hA
  injection hA with e1 e2
  subst e1 e2
  refine ⟨b, o + k, rfl, hlt, fun i hi => ?_⟩
  simp at hi
  rw [List.getElem_drop, Nat.add_assoc]
  exact hc (k + i) (by omega)
theorem Rd.nil {w : World} {B : Nat} {A : Option Addr} : Rd w B A [] := fun h => by simp at h


/-- Are bytes the same? -/
theorem same_len {A A2 : Option Addr} {n m c c2 : Nat} {w : World} (h : n ≠ m) : Calls Tryd.prog 16 #[.slice A n c, .slice A2 m c2] w (BoolB false w) := by
  have q : ((n : Int) == (m : Int)) = false := by simp; omega
  go_enter Tryd.func16, Tryd.ntmps16
  go_wp2_with fail
  go_ret
  exact ⟨rfl, Below.refl _ _⟩
theorem same_step {xs ys : List Int} {k : Nat} (h1 : k < xs.length) (h2 : k < ys.length) (h : xs.take k = ys.take k) (he : xs[k] = ys[k]) : xs.take (k + 1) = ys.take (k + 1) := by
  rw [List.take_succ_eq_append_getElem h1, List.take_succ_eq_append_getElem h2, h, he]
theorem same_no {xs ys : List Int} {k : Nat} (h1 : k < xs.length) (h2 : k < ys.length) (he : xs[k] ≠ ys[k]) : decide (xs = ys) = false := by
  simp only [decide_eq_false_iff_not]
  rintro rfl
  exact he rfl
set_option maxHeartbeats 1000000 in
theorem same_eq {A A2 : Option Addr} {xs ys : List Int} {c c2 : Nat} {w : World} (hr : Rd w w.heap.size A xs) (hr2 : Rd w w.heap.size A2 ys) (hl : ys.length = xs.length) (hn : xs.length ≤ 20000) : Calls Tryd.prog 16 #[.slice A xs.length c, .slice A2 xs.length c2] w (BoolB (decide (xs = ys)) w) := by
  have HR := Lib.hid hr
  have HR2 := Lib.hid hr2
  have HL := Lib.hid hl
  clear hr hr2 hl
  go_enter Tryd.func16, Tryd.ntmps16
  go_wp2_with fail
  go_loopg [5] xs.length (fun n i wr => ∃ k : Nat, k ≤ xs.length ∧ n = xs.length - k ∧ i = .int .i64 k ∧ xs.take k = ys.take k ∧ Below w.heap.size w wr)
  case atStart => exact ⟨0, by omega, by omega, rfl, rfl, Below.refl _ _⟩
  case round =>
    obtain ⟨k, hk, hm, rfl, ht, hb⟩ := hrel
    have HB := Lib.hid hb
    have HM := Lib.hid hm
    have HT := Lib.hid ht
    clear hb hm ht
    by_cases hlt : k < xs.length
    · have hlt2 : k < ys.length := by rw [HL.out]; exact hlt
      obtain ⟨b, o, rfl, hbl, hcell⟩ := (HR.out.below HB.out) (by omega)
      obtain ⟨b2, o2, rfl, hbl2, hcell2⟩ := (HR2.out.below HB.out) (by omega)
      have c0 := hcell k hlt
      have c1 := hcell2 k hlt2
      clear hcell hcell2
      by_cases he : xs[k] = ys[k]
      · have HS := Lib.hid (same_step hlt hlt2 HT.out he)
        rw [← he] at c1
        have q : (xs[k] == xs[k]) = true := by simp
        go_wp2_with fail
        go_region
        go_wp2_with fail
        go_roundg (xs.length - (k + 1))
        case rel => exact ⟨k + 1, by omega, rfl, by go_num, HS.out, HB.out.drew⟩
        case measure => have := HM.out; omega
      · have HS := Lib.hid (same_no hlt hlt2 he)
        have q : (xs[k] == ys[k]) = false := by simp [he]
        go_wp2_with fail
        go_region
        go_wp2_with fail
        go_ret
        exact ⟨by rw [HS.out]; rfl, HB.out.drew⟩
    · obtain rfl : k = xs.length := by omega
      have HS : Hid (decide (xs = ys) = true) := Lib.hid (by
        have := HT.out
        rw [List.take_length, ← HL.out, List.take_length] at this
        simpa using this)
      go_wp2_with fail
      go_ret
      exact ⟨by rw [HS.out]; rfl, HB.out⟩
theorem same_is {A A2 : Option Addr} {xs ys : List Int} {n m c c2 : Nat} {w : World} (hr : Rd w w.heap.size A xs) (hr2 : Rd w w.heap.size A2 ys) (hl : xs.length = n) (hl2 : ys.length = m) (hn : n ≤ 20000) : Calls Tryd.prog 16 #[.slice A n c, .slice A2 m c2] w (BoolB (decide (xs = ys)) w) := by
  subst hl hl2
  by_cases h : xs.length = ys.length
  · have := same_eq (c := c) (c2 := c2) hr hr2 h.symm hn
    rwa [h] at this ⊢
  · have e : decide (xs = ys) = false := by
      simp only [decide_eq_false_iff_not]
      rintro rfl
      exact h rfl
    rw [e]
    exact same_len h
end Go.Proofs.YtljpkngbhdplbaaDoor
