/-
  Numbers compared.
-/
import Derived.Test.YtekaeeckhfghpaaDoorIxK
namespace Go.Proofs.YtekaeeckhfghpaaDoor
open Go.RowKit

theorem rd_u {w : World} {b o : Nat} {l : List Nat} (h : ∀ i (h : i < (uC l).length), w.cell? ⟨b, o + i, none⟩ = some (uC l)[i]) (k : Nat) (hk : k < l.length) : w.cell? ⟨b, o + k, none⟩ = some (.int .u32 ((l.getD k 0 : Nat) : Int)) := by
  rw [h k (by rw [uC_len]; exact hk)]
  simp [uC, hk]
set_option maxHeartbeats 1000000 in
/-- Numbers that are the same are told so. -/
theorem xnum_at {w : World} {A A2 : Option Addr} {n c c2 : Nat} (l : List Nat) (hl : l.length = n) (hr : RdV w w.heap.size A (uC l)) (hr2 : RdV w w.heap.size A2 (uC l)) (hn : n ≤ 100000) : Calls Tryd.prog 15 #[.slice A n c, .slice A2 n c2] w (BoolB true w) := by
  have HR := Lib.hid hr
  have HR2 := Lib.hid hr2
  have HL := Lib.hid hl
  clear hr hr2 hl
  have q0 : ((n : Int) != (n : Int)) = false := by simp
  go_enter Tryd.func15, Tryd.ntmps15
  go_wp2_with fail
  go_loopg [5] n (fun q x wr => ∃ k : Nat, k ≤ n ∧ q = n - k ∧ x = .int .i64 (k : Int) ∧ Below w.heap.size w wr)
  case atStart => exact ⟨0, by omega, rfl, rfl, Below.refl _ _⟩
  case round =>
    obtain ⟨k, hk, hq, rfl, hb⟩ := hrel
    have HQ := Lib.hid hq
    have HB := Lib.hid hb
    clear hq hb
    by_cases hlt : k < n
    · obtain ⟨b, o, rfl, _, hcell⟩ := (HR.out.below HB.out) (by rw [uC_len, HL.out]; omega)
      obtain ⟨b2, o2, rfl, _, hcell2⟩ := (HR2.out.below HB.out) (by rw [uC_len, HL.out]; omega)
      have c0 := rd_u hcell k (by rw [HL.out]; exact hlt)
      have c1 := rd_u hcell2 k (by rw [HL.out]; exact hlt)
      clear hcell hcell2
      generalize l.getD k 0 = x at *
      have q : ((x : Int) != (x : Int)) = false := by simp
      go_wp2_with fail
      go_region
      go_wp2_with fail
      go_roundg (n - (k + 1))
      case rel => exact ⟨k + 1, by omega, rfl, by go_num, HB.out.drew⟩
      case measure => have := HQ.out; omega
    · go_wp2_with fail
      go_ret
      exact ⟨rfl, HB.out⟩
theorem RowF.rdU {F : Nat → Prop} {w : World} {A : Option Addr} {n c : Nat} {xs : List Nat} (h : RowF F w (.slice A n c) (uC xs)) : RdV w w.heap.size A (uC xs) := by
  obtain ⟨A', c', e, hc, hr, _⟩ := h
  injection e with e1 e2 e3
  subst e1
  exact hr
end Go.Proofs.YtekaeeckhfghpaaDoor
