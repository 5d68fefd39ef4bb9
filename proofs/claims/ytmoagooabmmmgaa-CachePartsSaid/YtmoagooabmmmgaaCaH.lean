/-
  Entries compared.
-/
import Derived.Test.YtmoagooabmmmgaaCaCe
namespace Go.Proofs.Ytmoagooabmmmgaa
open Go.RowKit

set_option maxHeartbeats 1000000 in
/-- Entries that are the same are told so. -/
theorem csame_at {w : World} {A A2 : Option Addr} {n c c2 : Nat} (l : List CE) (hl : l.length = n) (hr : RdV w w.heap.size A (cesC l)) (hr2 : RdV w w.heap.size A2 (cesC l)) (hn : n ≤ 100000) : Calls Try.prog 14 #[.slice A n c, .slice A2 n c2] w (BoolB true w) := by
  have HR := Lib.hid hr
  have HR2 := Lib.hid hr2
  have HL := Lib.hid hl
  clear hr hr2 hl
  have q0 : ((n : Int) != (n : Int)) = false := by simp
  go_enter Try.func14, Try.ntmps14
  go_wp2_with fail
  go_loopg [5] n (fun q x wr => ∃ k : Nat, k ≤ n ∧ q = n - k ∧ x = .int .i64 (k : Int) ∧ Below w.heap.size w wr)
  case atStart => exact ⟨0, by omega, rfl, rfl, Below.refl _ _⟩
  case round =>
    obtain ⟨k, hk, hq, rfl, hb⟩ := hrel
    have HQ := Lib.hid hq
    have HB := Lib.hid hb
    clear hq hb
    by_cases hlt : k < n
    · have hkl : k < l.length := by rw [HL.out]; exact hlt
      obtain ⟨b, o, rfl, _, hcell⟩ := (HR.out.below HB.out) (by rw [cesC_len, HL.out]; omega)
      obtain ⟨b2, o2, rfl, _, hcell2⟩ := (HR2.out.below HB.out) (by rw [cesC_len, HL.out]; omega)
      obtain ⟨c0, c1, c2⟩ := ces_cells hcell k hkl
      obtain ⟨d0, d1, d2⟩ := ces_cells hcell2 k hkl
      clear hcell hcell2
      generalize l[k].b = x at *
      generalize l[k].a = y at *
      generalize l[k].d = d at *
      have q1 : ((x : Int) != (x : Int)) = false := by simp
      have q2 : ((y : Int) != (y : Int)) = false := by simp
      have q3 : (d != d) = false := by simp
      have q4 : ((x : Int) == (x : Int)) = true := by simp
      have q5 : ((y : Int) == (y : Int)) = true := by simp
      have q6 : (d == d) = true := by simp
      go_wp2_with fail
      go_region
      go_wp2_with fail
      go_roundg (n - (k + 1))
      case rel => exact ⟨k + 1, by omega, rfl, by go_num, HB.out.drew⟩
      case measure => have := HQ.out; omega
    · go_wp2_with fail
      go_ret
      exact ⟨rfl, HB.out⟩
end Go.Proofs.Ytmoagooabmmmgaa
