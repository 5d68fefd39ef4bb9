/-
  geo.Of. (GeoD upon CelB.)
-/
import Derived.Test.YtajccmkdfmpapaaDoorGvC
namespace Go.Proofs.YtajccmkdfmpapaaDoor
open Go.RowKit

def U32B (n : Int) (w : World) (r : Ending) (w' : World) : Prop := r = .returned (.int .u32 n) ∧ Below w.heap.size w w'
theorem below_box (w : World) (o : Obj) : Below w.heap.size w (w.alloc o) := (Below.refl _ _).alloc (Nat.le_refl _) _
theorem cell_box {w w' : World} {z p b : Int} {T : TypeId} (hb : Below (w.alloc (.cells #[.int .i64 z, .int .i64 p, .int .i64 b] T)).heap.size (w.alloc (.cells #[.int .i64 z, .int .i64 p, .int .i64 b] T)) w') :
    w'.cell? ⟨w.heap.size, 0, none⟩ = some (.int .i64 z) ∧ w'.cell? ⟨w.heap.size, 1, none⟩ = some (.int .i64 p) ∧ w'.cell? ⟨w.heap.size, 2, none⟩ = some (.int .i64 b) :=
  ⟨(hb.cell (p := ⟨w.heap.size, 0, none⟩) (by simp)).trans (by simp), (hb.cell (p := ⟨w.heap.size, 1, none⟩) (by simp)).trans (by simp), (hb.cell (p := ⟨w.heap.size, 2, none⟩) (by simp)).trans (by simp)⟩
theorem of_a (z p b zone page : Int) (w : World) (g1 : 11 ≤ z) (g2 : z ≤ 24) (g3 : 4 ≤ p) (g4 : p ≤ 16) (h1 : zone < 0) : Calls Tryd.prog 33 #[.agg #[.int .i64 z, .int .i64 p, .int .i64 b], .int .i64 zone, .int .i64 page] w (U32B (ofI z p zone page) w) := by
  have HE : Hid (ofI z p zone page = 0) := Lib.hid (by unfold ofI; rw [if_pos (by omega)])
  go_enter Tryd.func33, Tryd.ntmps33
  go_wp2_with fail
  have HB1 := Lib.hid (below_box w (.cells #[.int .i64 z, .int .i64 p, .int .i64 b] 23))
  go_ret
  exact ⟨ret_int HE.out.symm, HB1.out⟩
theorem of_b (z p b zone page : Int) (w : World) (g1 : 11 ≤ z) (g2 : z ≤ 24) (g3 : 4 ≤ p) (g4 : p ≤ 16) (h1 : ¬ zone < 0) (h2 : z - 2 ≤ zone) : Calls Tryd.prog 33 #[.agg #[.int .i64 z, .int .i64 p, .int .i64 b], .int .i64 zone, .int .i64 page] w (U32B (ofI z p zone page) w) := by
  have HE : Hid (ofI z p zone page = 0) := Lib.hid (by unfold ofI; rw [if_pos (by omega)])
  go_enter Tryd.func33, Tryd.ntmps33
  go_wp2_with fail
  refine (log_is _ _ _ _ (by omega) (by omega)).mono ?_
  rintro r w1 ⟨rfl, hb1⟩
  have HB1 := Lib.hid (below_all (below_box w _) hb1)
  obtain ⟨c0, c1, c2⟩ := cell_box hb1
  clear hb1
  go_wp2_with fail
  go_ret
  exact ⟨ret_int HE.out.symm, HB1.out⟩
theorem of_c (z p b zone page : Int) (w : World) (g1 : 11 ≤ z) (g2 : z ≤ 24) (g3 : 4 ≤ p) (g4 : p ≤ 16) (h1 : ¬ zone < 0) (h2 : ¬ z - 2 ≤ zone) (h3 : page < 0) : Calls Tryd.prog 33 #[.agg #[.int .i64 z, .int .i64 p, .int .i64 b], .int .i64 zone, .int .i64 page] w (U32B (ofI z p zone page) w) := by
  have HE : Hid (ofI z p zone page = 0) := Lib.hid (by unfold ofI; rw [if_pos (by omega)])
  go_enter Tryd.func33, Tryd.ntmps33
  go_wp2_with fail
  refine (log_is _ _ _ _ (by omega) (by omega)).mono ?_
  rintro r w1 ⟨rfl, hb1⟩
  have HB1 := Lib.hid (below_all (below_box w _) hb1)
  obtain ⟨c0, c1, c2⟩ := cell_box hb1
  clear hb1
  go_wp2_with fail
  go_ret
  exact ⟨ret_int HE.out.symm, HB1.out⟩
theorem of_d (z p b zone page : Int) (w : World) (g1 : 11 ≤ z) (g2 : z ≤ 24) (g3 : 4 ≤ p) (g4 : p ≤ 16) (h1 : ¬ zone < 0) (h2 : ¬ z - 2 ≤ zone) (h3 : ¬ page < 0) (h4 : p ≤ page) : Calls Tryd.prog 33 #[.agg #[.int .i64 z, .int .i64 p, .int .i64 b], .int .i64 zone, .int .i64 page] w (U32B (ofI z p zone page) w) := by
  have HE : Hid (ofI z p zone page = 0) := Lib.hid (by unfold ofI; rw [if_pos (by omega)])
  go_enter Tryd.func33, Tryd.ntmps33
  go_wp2_with fail
  refine (log_is _ _ _ _ (by omega) (by omega)).mono ?_
  rintro r w1 ⟨rfl, hb1⟩
  have HB1 := Lib.hid (below_all (below_box w _) hb1)
  obtain ⟨c0, c1, c2⟩ := cell_box hb1
  clear hb1
  go_wp2_with fail
  go_ret
  exact ⟨ret_int HE.out.symm, HB1.out⟩
theorem of_e (z p b zone page : Int) (w : World) (g1 : 11 ≤ z) (g2 : z ≤ 24) (g3 : 4 ≤ p) (g4 : p ≤ 16) (h1 : ¬ zone < 0) (h2 : ¬ z - 2 ≤ zone) (h3 : ¬ page < 0) (h4 : ¬ p ≤ page) : Calls Tryd.prog 33 #[.agg #[.int .i64 z, .int .i64 p, .int .i64 b], .int .i64 zone, .int .i64 page] w (U32B (ofI z p zone page) w) := by
  obtain ⟨m1, m2, m3⟩ := mul_bd (z := z) (p := p) (zone := zone) (insB_iff.2 (by omega)) (by omega) (by omega)
  have HE : Hid (ofI z p zone page = 1 + zone * p + page) := Lib.hid (ofI_in (by omega) (by omega) (by omega) (by omega))
  go_enter Tryd.func33, Tryd.ntmps33
  go_wp2_with fail
  refine (log_is _ _ _ _ (by omega) (by omega)).mono ?_
  rintro r w1 ⟨rfl, hb1⟩
  have HB1 := Lib.hid (below_all (below_box w _) hb1)
  obtain ⟨c0, c1, c2⟩ := cell_box hb1
  clear hb1
  go_wp2_with fail
  go_ret
  exact ⟨ret_int HE.out.symm, HB1.out⟩
theorem of_is (z p b zone page : Int) (w : World) (hi : insB z p = true) : Calls Tryd.prog 33 #[.agg #[.int .i64 z, .int .i64 p, .int .i64 b], .int .i64 zone, .int .i64 page] w (U32B (ofI z p zone page) w) := by
  obtain ⟨g1, g2, g3, g4⟩ := insB_iff.1 hi
  by_cases h1 : zone < 0
  · exact of_a z p b zone page w g1 g2 g3 g4 h1
  · by_cases h2 : z - 2 ≤ zone
    · exact of_b z p b zone page w g1 g2 g3 g4 h1 h2
    · by_cases h3 : page < 0
      · exact of_c z p b zone page w g1 g2 g3 g4 h1 h2 h3
      · by_cases h4 : p ≤ page
        · exact of_d z p b zone page w g1 g2 g3 g4 h1 h2 h3 h4
        · exact of_e z p b zone page w g1 g2 g3 g4 h1 h2 h3 h4
end Go.Proofs.YtajccmkdfmpapaaDoor
