/-
  What the four listed variables give a walk (errors.errorType's one cell, the table of powers), and a world that meets them.
-/
import Derived.Test.YtppanjdhfecmpaaDoorLawLaid
import Derived.Test.YtppanjdhfecmpaaDoorFaultQ
import Derived.Lib.LaidTab
import Derived.ProofKit
import Derived.LaidMore
namespace Go.Proofs.YtppanjdhfecmpaaDoor
open Go.ChangeShapes Go.WideShapes Go.RowKit

abbrev laid4 {H : Type} : List (String × DataW H) := [("math/bits.deBruijn32tab", Rows.laid_math_bits_deBruijn32tab), ("math/bits.deBruijn64tab", Rows.laid_math_bits_deBruijn64tab), ("internal/strconv.uint64pow10", Rows.laid_internal_strconv_uint64pow10), ("errors.errorType", Rows.laid_errors_errorType)]
abbrev laid3 {H : Type} : List (String × DataW H) := [("math/bits.deBruijn32tab", Rows.laid_math_bits_deBruijn32tab), ("math/bits.deBruijn64tab", Rows.laid_math_bits_deBruijn64tab), ("internal/strconv.uint64pow10", Rows.laid_internal_strconv_uint64pow10)]

theorem gPow : Tryd.prog.globalNamed "internal/strconv.uint64pow10" = some 1 := by kernel_rfl
theorem tPow : (Tryd.prog.globals[1]?).map (·.type) = some 106 := by kernel_rfl
theorem pow_data : (Rows.laid_internal_strconv_uint64pow10 : DataW Unit) = Lib.tabData .u64 Lib.pow10Tab := by kernel_rfl

theorem gl_of_laid4 {W : World} (h : laidMetH Tryd.prog laid4 W) : Gl W ∧ Tab W := by
  have h' : laidMet Tryd.prog laid3 W ∧ handlesMet Tryd.prog laid1 W := h
  refine ⟨gl_of_laid (show laidMetH Tryd.prog laid1 W from ⟨laidMet_nil _ _, h'.2⟩), ?_⟩
  obtain ⟨ps, ⟨g0, t0, cs0, f0, p0, q0, hg0, ht0, hv0, hd0, ⟨g1, t1, cs1, f1, p1, q1, hg1, ht1, hv1, hd1, ⟨g2, t2, cs2, f2, p2, q2, hg2, ht2, hv2, hd2, _, _⟩, _⟩, _⟩, _, _⟩ := h'.1
  obtain rfl := Option.some.inj (gPow.symm.trans hg2)
  obtain rfl := Option.some.inj (tPow.symm.trans ht2)
  unfold Tab Lib.TabIs
  rw [pow_data] at hd2
  rw [hv2, ← Lib.cells_of_tab Tryd.underlying106 Tryd.underlying99 (by kernel_rfl) (by kernel_rfl) hd2]

theorem tab_lt {W : World} (h : Tab W) : 1 < W.heap.size := by
  have := h.cell gPow 0 (by rw [Lib.pow10Tab_length]; omega)
  exact lt_of_cell this

theorem door_met4 (os : Os) (args : Array Value) : laidMetH Tryd.prog laid4 ((World.doorLaid Tryd.prog 400 os).forCall (fun _ _ => 0) ⟨#[], args, []⟩).memory :=
  laidMetH_of_parts3 (fuel := 8) (laidMet_of_run' 8 (by kernel_rfl) (by kernel_rfl)) (by kernel_rfl) (by kernel_rfl)
end Go.Proofs.YtppanjdhfecmpaaDoor
