/-
  geo.near and Right. (GeoC upon CelB.)
-/
import Derived.Test.YtajccmkdfmpapaaDoorGvA
import Derived.Laws.StructEq
namespace Go.Proofs.YtajccmkdfmpapaaDoor
open Go.RowKit

def GeoV (z p b : Int) : Value := .agg #[.int .i64 z, .int .i64 p, .int .i64 b]
def NearIs (z p b : Int) (w : World) (r : Ending) (w' : World) : Prop := r = .returned (.agg #[.int .i64 (nearZ z), .int .i64 (nearP p), .int .i64 (nearB z p b)]) ∧ Below w.heap.size w w'
theorem nearB_lo {z p b : Int} (h : b < 1) : nearB z p b = 1 := by
  have := bnd_pos (near_ins z p)
  unfold nearB
  omega
theorem nearB_mid {z p b : Int} (h : 1 ≤ b) (h2 : b ≤ bnd (nearZ z) (nearP p)) : nearB z p b = b := by
  unfold nearB
  omega
theorem nearB_hi {z p b : Int} (h : bnd (nearZ z) (nearP p) < b) : nearB z p b = bnd (nearZ z) (nearP p) := by
  have := bnd_pos (near_ins z p)
  unfold nearB
  omega
set_option maxHeartbeats 1000000 in
theorem near_lo (z p b : Int) (w : World) (h : b < 1) : Calls Tryd.prog 34 #[.agg #[.int .i64 z, .int .i64 p, .int .i64 b]] w (NearIs z p b w) := by
  have hB := bnd_pos (near_ins z p)
  have HN := Lib.hid (nearB_lo (z := z) (p := p) h)
  go_enter Tryd.func34, Tryd.ntmps34
  go_wp2_with fail
  go_quiet (first | (go_at_call 41; exact Calls.quiet_of_same ((nearZ_is _ _).mono fun _ _ h => ⟨h.1, h.2.symm⟩)) | (go_at_call 42; exact Calls.quiet_of_same ((nearP_is _ _).mono fun _ _ h => ⟨h.1, h.2.symm⟩)))
  go_wp2_with fail
  go_quiet (first | (go_at_call 43; exact (bound_is _ _ _).mono fun _ _ h => ⟨h.1, _, h.2.symm⟩))
  go_wp2_with fail
  refine bodyPost_ret (v := .agg #[.int .i64 (nearZ z), .int .i64 (nearP p), .int .i64 1]) (by simp [results, Tryd.results34, go_sem]) rfl ⟨by rw [HN.out], ?_⟩
  exact (((below_drewN (((Below.refl _ _).alloc (Nat.le_refl _) _).alloc (by simp) _) _).setCell (by simp) _).setCell (by simp) _).setCell (by simp) _
set_option maxHeartbeats 1000000 in
theorem near_mid (z p b : Int) (w : World) (h : 1 ≤ b) (h2 : b ≤ bnd (nearZ z) (nearP p)) : Calls Tryd.prog 34 #[.agg #[.int .i64 z, .int .i64 p, .int .i64 b]] w (NearIs z p b w) := by
  have hB := bnd_pos (near_ins z p)
  have HN := Lib.hid (nearB_mid (z := z) (p := p) h h2)
  go_enter Tryd.func34, Tryd.ntmps34
  go_wp2_with fail
  go_quiet (first | (go_at_call 41; exact Calls.quiet_of_same ((nearZ_is _ _).mono fun _ _ h => ⟨h.1, h.2.symm⟩)) | (go_at_call 42; exact Calls.quiet_of_same ((nearP_is _ _).mono fun _ _ h => ⟨h.1, h.2.symm⟩)))
  go_wp2_with fail
  go_quiet (first | (go_at_call 43; exact (bound_is _ _ _).mono fun _ _ h => ⟨h.1, _, h.2.symm⟩))
  go_wp2_with fail
  refine bodyPost_ret (v := .agg #[.int .i64 (nearZ z), .int .i64 (nearP p), .int .i64 b]) (by simp [results, Tryd.results34, go_sem]) rfl ⟨by rw [HN.out], ?_⟩
  exact (((below_drewN (((Below.refl _ _).alloc (Nat.le_refl _) _).alloc (by simp) _) _).setCell (by simp) _).setCell (by simp) _).setCell (by simp) _
set_option maxHeartbeats 1000000 in
theorem near_hi (z p b : Int) (w : World) (h : bnd (nearZ z) (nearP p) < b) : Calls Tryd.prog 34 #[.agg #[.int .i64 z, .int .i64 p, .int .i64 b]] w (NearIs z p b w) := by
  have hB := bnd_pos (near_ins z p)
  have HN := Lib.hid (nearB_hi (z := z) (p := p) h)
  go_enter Tryd.func34, Tryd.ntmps34
  go_wp2_with fail
  go_quiet (first | (go_at_call 41; exact Calls.quiet_of_same ((nearZ_is _ _).mono fun _ _ h => ⟨h.1, h.2.symm⟩)) | (go_at_call 42; exact Calls.quiet_of_same ((nearP_is _ _).mono fun _ _ h => ⟨h.1, h.2.symm⟩)))
  go_wp2_with fail
  go_quiet (first | (go_at_call 43; exact (bound_is _ _ _).mono fun _ _ h => ⟨h.1, _, h.2.symm⟩))
  go_wp2_with fail
  refine bodyPost_ret (v := .agg #[.int .i64 (nearZ z), .int .i64 (nearP p), .int .i64 (bnd (nearZ z) (nearP p))]) (by simp [results, Tryd.results34, go_sem]) rfl ⟨by rw [HN.out], ?_⟩
  exact (((below_drewN (((Below.refl _ _).alloc (Nat.le_refl _) _).alloc (by simp) _) _).setCell (by simp) _).setCell (by simp) _).setCell (by simp) _
theorem near_is (z p b : Int) (w : World) : Calls Tryd.prog 34 #[.agg #[.int .i64 z, .int .i64 p, .int .i64 b]] w (NearIs z p b w) := by
  by_cases h : b < 1
  · exact near_lo z p b w h
  · by_cases h2 : b ≤ bnd (nearZ z) (nearP p)
    · exact near_mid z p b w (by omega) h2
    · exact near_hi z p b w (by omega)
theorem keep3 {w w' : World} {z p b : Int} (hb : Below (w.alloc (.cells #[.int .i64 z, .int .i64 p, .int .i64 b] 23)).drew.heap.size (w.alloc (.cells #[.int .i64 z, .int .i64 p, .int .i64 b] 23)).drew w') :
    w'.cell? ⟨w.heap.size, 0, none⟩ = some (.int .i64 z) ∧ w'.cell? ⟨w.heap.size, 1, none⟩ = some (.int .i64 p) ∧ w'.cell? ⟨w.heap.size, 2, none⟩ = some (.int .i64 b) :=
  ⟨(hb.cell (p := ⟨w.heap.size, 0, none⟩) (by simp [World.drew])).trans (by simp), (hb.cell (p := ⟨w.heap.size, 1, none⟩) (by simp [World.drew])).trans (by simp), (hb.cell (p := ⟨w.heap.size, 2, none⟩) (by simp [World.drew])).trans (by simp)⟩
theorem eq_geo (a b c x y z : Int) (w : World) : (Op.equalIn 10000 23 (.agg #[.int .i64 a, .int .i64 b, .int .i64 c]) (.agg #[.int .i64 x, .int .i64 y, .int .i64 z])).run Tryd.prog w = .ok (decide (a = x) && decide (b = y) && decide (c = z)) w := by
  have hS : Tryd.prog.underlying 23 = some (.struct (Tryd.prog.fieldsOf 23)) := by kernel_rfl
  have hp : Tryd.prog.stoodInHeld 23 = false := by kernel_rfl
  rw [show (10000 : Nat) = 9999 + 1 from rfl, run_equalIn_agg w 9999 23 _ _ hS hp]
  simp only [Program.fieldsOf, Tryd.underlying23]
  by_cases h1 : a = x <;> by_cases h2 : b = y <;> by_cases h3 : c = z <;> simp [Op.eqFields, go_sem, h1, h2, h3]
theorem guard_geo (x y : Operand) (xs ys : Array Value) (w : World) : (eqGuard .eql 23 x y (.agg xs) (.agg ys)).run Tryd.prog w = .ok () w := run_eqGuard_agg w .eql 23 x y xs ys (by kernel_rfl)
theorem eql_geo (a b c x y z : Int) (w : World) : (binOp .eql 23 (.agg #[.int .i64 a, .int .i64 b, .int .i64 c]) (.agg #[.int .i64 x, .int .i64 y, .int .i64 z])).run Tryd.prog w = .ok (.bool (decide (a = x) && decide (b = y) && decide (c = z))) w := by
  rw [run_eql_struct, eq_geo]
  rfl
set_option maxHeartbeats 1000000 in
set_option maxRecDepth 100000 in
theorem right_is (z p b : Int) (w : World) : Calls Tryd.prog 22 #[.agg #[.int .i64 z, .int .i64 p, .int .i64 b]] w (BoolB (rightB z p b) w) := by
  have HE := Lib.hid (near_eq z p b)
  have hg := fun (xs ys : Array Value) => guard_geo (.tmp 3) (.tmp 5) xs ys
  have he := eql_geo z p b (nearZ z) (nearP p) (nearB z p b)
  rw [near_eq] at he
  go_enter Tryd.func22, Tryd.ntmps22
  go_wp2_with fail
  go_region_held3 (fun w' => w'.cell? ⟨w.heap.size, 0, none⟩ = some (.int .i64 z) ∧ w'.cell? ⟨w.heap.size, 1, none⟩ = some (.int .i64 p) ∧ w'.cell? ⟨w.heap.size, 2, none⟩ = some (.int .i64 b))
      (first | exact K1.out | go_keep)
      (first | (go_at_call 34; (with_reducible refine (near_is _ _ _ _).mono ?_); rintro r w1 ⟨rfl, hb1⟩; have HB1 := Lib.hid hb1; clear hb1; have K1 := Lib.hid (keep3 HB1.out)))
  go_wp2_with fail
  go_ret
  exact ⟨rfl, below_all ((Below.refl _ _).alloc (Nat.le_refl _) _) (below_all ((Below.refl _ _).drew) HB1.out)⟩
end Go.Proofs.YtajccmkdfmpapaaDoor
