/-
  geo.At. (GeoE upon CelB.)
-/
import Derived.Test.YtajccmkdfmpapaaDoorGvD
namespace Go.Proofs.YtajccmkdfmpapaaDoor
open Go.RowKit

def AtIs (x : Int × Int × Bool) (w : World) (r : Ending) (w' : World) : Prop := r = .returned (.tuple #[.int .i64 x.1, .int .i64 x.2.1, .bool x.2.2]) ∧ Below w.heap.size w w'
theorem ret_at {x : Int × Int × Bool} {a b : Int} {c : Bool} (h : x = (a, b, c)) : Ending.returned (.tuple #[.int .i64 a, .int .i64 b, .bool c]) = .returned (.tuple #[.int .i64 x.1, .int .i64 x.2.1, .bool x.2.2]) := by rw [h]
theorem keepd {w w' : World} {z p b : Int} {T : TypeId} (hb : Below (w.alloc (.cells #[.int .i64 z, .int .i64 p, .int .i64 b] T)).drew.heap.size (w.alloc (.cells #[.int .i64 z, .int .i64 p, .int .i64 b] T)).drew w') :
    w'.cell? ⟨w.heap.size, 0, none⟩ = some (.int .i64 z) ∧ w'.cell? ⟨w.heap.size, 1, none⟩ = some (.int .i64 p) ∧ w'.cell? ⟨w.heap.size, 2, none⟩ = some (.int .i64 b) :=
  cell_box (below_all ((Below.refl _ _).drew) hb)
set_option maxHeartbeats 1000000 in
set_option maxRecDepth 100000 in
theorem at_zero (z p b a : Int) (w : World) (hi : insB z p = true) (h0 : a = 0) : Calls Tryd.prog 28 #[.agg #[.int .i64 z, .int .i64 p, .int .i64 b], .int .u32 a] w (AtIs (atI z p a) w) := by
  have HE : Hid (atI z p a = (0, 0, false)) := Lib.hid (by unfold atI; rw [if_pos (by omega)])
  have HI := Lib.hid hi
  obtain ⟨g1, g2, g3, g4⟩ := insB_iff.1 hi
  obtain ⟨l1, l2⟩ := last_bd hi
  have HL := Lib.hid (ofI_last hi)
  clear hi
  go_enter Tryd.func28, Tryd.ntmps28
  go_wp2_with fail
  have s1 : IntKind.i64.wrap (z - 2 - 1) = z - 2 - 1 := IntWalk.i64_in _ (by omega)
  have s2 : IntKind.i64.wrap (p - 1) = p - 1 := IntWalk.i64_in _ (by omega)
  go_region_held3 (fun w' => w'.cell? ⟨w.heap.size, 0, none⟩ = some (.int .i64 z) ∧ w'.cell? ⟨w.heap.size, 1, none⟩ = some (.int .i64 p) ∧ w'.cell? ⟨w.heap.size, 2, none⟩ = some (.int .i64 b))
      (first | exact K2.out | exact K1.out | go_keep)
      (first
        | (go_at_call 23; (with_reducible refine (log_is _ _ _ _ ?_ ?_).mono ?_); omega; omega; rintro r w1 ⟨rfl, hb1⟩; have HB1 := Lib.hid hb1; clear hb1; have K1 := Lib.hid (keepd HB1.out))
        | (go_at_call 33; (with_reducible refine (of_is _ _ _ _ _ _ HI.out).mono ?_); rintro r w2 ⟨rfl, hb2⟩; have HB2 := Lib.hid (below_all HB1.out hb2); clear hb2; have K2 := Lib.hid (keepd HB2.out)))
  rw [HL.out]
  clear s1 s2
  obtain ⟨k0, k1, k2⟩ := K2.out
  have HB3 := Lib.hid (below_all (below_box w (.cells #[.int .i64 z, .int .i64 p, .int .i64 b] 23)) (below_all ((Below.refl _ _).drew) HB2.out))
  have h00 : (a == 0) = true := by simp [h0]
  go_wp2_with fail
  go_ret3
  exact ⟨ret_at HE.out, HB3.out⟩
set_option maxHeartbeats 1000000 in
set_option maxRecDepth 100000 in
theorem at_over (z p b a : Int) (w : World) (hi : insB z p = true) (h0 : (a == 0) = false) (h1 : lastI z p < a) : Calls Tryd.prog 28 #[.agg #[.int .i64 z, .int .i64 p, .int .i64 b], .int .u32 a] w (AtIs (atI z p a) w) := by
  have HE : Hid (atI z p a = (0, 0, false)) := Lib.hid (by unfold atI; rw [if_pos (by omega)])
  have HI := Lib.hid hi
  obtain ⟨g1, g2, g3, g4⟩ := insB_iff.1 hi
  obtain ⟨l1, l2⟩ := last_bd hi
  have HL := Lib.hid (ofI_last hi)
  clear hi
  go_enter Tryd.func28, Tryd.ntmps28
  go_wp2_with fail
  have s1 : IntKind.i64.wrap (z - 2 - 1) = z - 2 - 1 := IntWalk.i64_in _ (by omega)
  have s2 : IntKind.i64.wrap (p - 1) = p - 1 := IntWalk.i64_in _ (by omega)
  go_region_held3 (fun w' => w'.cell? ⟨w.heap.size, 0, none⟩ = some (.int .i64 z) ∧ w'.cell? ⟨w.heap.size, 1, none⟩ = some (.int .i64 p) ∧ w'.cell? ⟨w.heap.size, 2, none⟩ = some (.int .i64 b))
      (first | exact K2.out | exact K1.out | go_keep)
      (first
        | (go_at_call 23; (with_reducible refine (log_is _ _ _ _ ?_ ?_).mono ?_); omega; omega; rintro r w1 ⟨rfl, hb1⟩; have HB1 := Lib.hid hb1; clear hb1; have K1 := Lib.hid (keepd HB1.out))
        | (go_at_call 33; (with_reducible refine (of_is _ _ _ _ _ _ HI.out).mono ?_); rintro r w2 ⟨rfl, hb2⟩; have HB2 := Lib.hid (below_all HB1.out hb2); clear hb2; have K2 := Lib.hid (keepd HB2.out)))
  rw [HL.out]
  clear s1 s2
  obtain ⟨k0, k1, k2⟩ := K2.out
  have HB3 := Lib.hid (below_all (below_box w (.cells #[.int .i64 z, .int .i64 p, .int .i64 b] 23)) (below_all ((Below.refl _ _).drew) HB2.out))
  go_wp2_with fail
  go_ret3
  exact ⟨ret_at HE.out, HB3.out⟩
set_option maxHeartbeats 1000000 in
set_option maxRecDepth 100000 in
theorem at_in (z p b a : Int) (w : World) (hi : insB z p = true) (h0 : (a == 0) = false) (ha : 0 < a) (h1 : a ≤ lastI z p) : Calls Tryd.prog 28 #[.agg #[.int .i64 z, .int .i64 p, .int .i64 b], .int .u32 a] w (AtIs (atI z p a) w) := by
  have HE : Hid (atI z p a = ((a - 1) / p, (a - 1) % p, true)) := Lib.hid (by unfold atI; rw [if_neg (by omega)])
  have HI := Lib.hid hi
  obtain ⟨g1, g2, g3, g4⟩ := insB_iff.1 hi
  obtain ⟨l1, l2⟩ := last_bd hi
  have HL := Lib.hid (ofI_last hi)
  clear hi
  go_enter Tryd.func28, Tryd.ntmps28
  go_wp2_with fail
  have s1 : IntKind.i64.wrap (z - 2 - 1) = z - 2 - 1 := IntWalk.i64_in _ (by omega)
  have s2 : IntKind.i64.wrap (p - 1) = p - 1 := IntWalk.i64_in _ (by omega)
  go_region_held3 (fun w' => w'.cell? ⟨w.heap.size, 0, none⟩ = some (.int .i64 z) ∧ w'.cell? ⟨w.heap.size, 1, none⟩ = some (.int .i64 p) ∧ w'.cell? ⟨w.heap.size, 2, none⟩ = some (.int .i64 b))
      (first | exact K2.out | exact K1.out | go_keep)
      (first
        | (go_at_call 23; (with_reducible refine (log_is _ _ _ _ ?_ ?_).mono ?_); omega; omega; rintro r w1 ⟨rfl, hb1⟩; have HB1 := Lib.hid hb1; clear hb1; have K1 := Lib.hid (keepd HB1.out))
        | (go_at_call 33; (with_reducible refine (of_is _ _ _ _ _ _ HI.out).mono ?_); rintro r w2 ⟨rfl, hb2⟩; have HB2 := Lib.hid (below_all HB1.out hb2); clear hb2; have K2 := Lib.hid (keepd HB2.out)))
  rw [HL.out]
  clear s1 s2
  obtain ⟨k0, k1, k2⟩ := K2.out
  have HB3 := Lib.hid (below_all (below_box w (.cells #[.int .i64 z, .int .i64 p, .int .i64 b] 23)) (below_all ((Below.refl _ _).drew) HB2.out))
  go_wp2_with fail
  obtain ⟨q1, q2, q3, q4, q5⟩ := atI_page HI.out ha h1
  have d1 : (a - 1).tdiv p = (a - 1) / p := Int.tdiv_eq_ediv_of_nonneg (by omega)
  have d2 : (a - 1).tmod p = (a - 1) % p := Int.tmod_eq_emod_of_nonneg (by omega)
  have d3 : IntKind.i64.wrap ((a - 1) / p) = (a - 1) / p := IntWalk.i64_in _ (by omega)
  have d4 : IntKind.i64.wrap ((a - 1) % p) = (a - 1) % p := IntWalk.i64_in _ (by omega)
  have d5 : (p == 0) = false := by simp; omega
  clear q5
  go_quiet (fail)
  go_wp2_with fail
  go_ret3
  exact ⟨ret_at HE.out, below_drewN HB3.out _⟩
end Go.Proofs.YtajccmkdfmpapaaDoor
