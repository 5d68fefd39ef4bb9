/-
  platelayerref01.Same of two slices that read as the same texts: true.
-/
import Derived.Test.YtppanjdhfecmpaaDoorFaultC
import Derived.Deep.QuietTactic
import Derived.BigQuiet
namespace Go.Proofs.YtppanjdhfecmpaaDoor
open Go.RowKit Go.Extern.Stop Go.Stop Go.Extern

def TrueQ (w : World) (r : Ending) (w' : World) : Prop := r = .returned (.bool true) ∧ ∃ n, w.drewN n = w'

set_option maxHeartbeats 1000000 in
theorem same_strs {w : World} {B B' : Nat} {v u : Value} {xs : List ByteArray} (hx : xs.length ≤ 1000) (hv : Strs w B v xs) (hu : Strs w B' u xs) : Calls Tryd.prog 12 #[v, u] w (TrueQ w) := by
  obtain ⟨A, c, rfl, hc, hA⟩ := hv
  obtain ⟨A', c', rfl, hc', hA'⟩ := hu
  have HA := Lib.hid hA
  have HA' := Lib.hid hA'
  clear hA hA'
  go_enter Tryd.func12, Tryd.ntmps12
  go_wp2_with fail
  go_loopg [5] xs.length (fun k i wr => ∃ n, w.drewN n = wr ∧ ∃ j : Nat, k = xs.length - j ∧ j ≤ xs.length ∧ i = .int .i64 j)
  case atStart => exact ⟨0, rfl, 0, by omega, by omega, rfl⟩
  case round =>
    obtain ⟨n, rfl, j, hk, hj, rfl⟩ := hrel
    have HK := Lib.hid hk
    clear hk
    by_cases hlt : j < xs.length
    · obtain ⟨b, o, rfl, _, hcell⟩ := HA.out (by omega)
      obtain ⟨b', o', rfl, _, hcell'⟩ := HA'.out (by omega)
      have g1 := hcell j hlt
      have g2 := hcell' j hlt
      clear hcell hcell'
      go_wp2_with fail
      go_quiet (fail)
      go_wp2_with fail
      go_roundg (xs.length - (j + 1))
      case rel => exact ⟨_, rfl, j + 1, rfl, by omega, by go_num⟩
      case measure => rw [HK.out]; omega
    · go_wp2
      go_ret
      exact ⟨rfl, n, rfl⟩
end Go.Proofs.YtppanjdhfecmpaaDoor
