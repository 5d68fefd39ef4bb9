/-
  platelayerlaw03.awake answers true.
-/
import Derived.Test.YtanlageejlbaaaaSumC
import Derived.Test.YtanlageejlbaaaaQuietIn
namespace Go.Proofs.Ytanlageejlbaaaa
open Go.RowKit

theorem below_all {a b c : World} (h : Below a.heap.size a b) (k : Below b.heap.size b c) : Below a.heap.size a c := h.trans (k.mono h.size)
def wiki : List Int := [87, 105, 107, 105, 112, 101, 100, 105, 97]
def wiki4 : List Int := [87, 105, 107, 105]
def pedia : List Int := [112, 101, 100, 105, 97]
theorem byt_of {xs : List Int} (h : xs.all (fun x => decide (0 ≤ x) && decide (x ≤ 255)) = true) : Byt xs := fun x hx => by simpa using List.all_eq_true.1 h x hx
/-- Nothing old has changed since w, and block B has the nine bytes. -/
def KeptW (w : World) (u : World) : Prop := Below w.heap.size w u ∧ w.heap.size < u.heap.size ∧ Rd u (w.heap.size + 1) (some ⟨w.heap.size, 0, none⟩) wiki
theorem KeptW.up {w a u : World} (h : KeptW w a) (hb : Below a.heap.size a u) : KeptW w u := ⟨below_all h.1 hb, Nat.lt_of_lt_of_le h.2.1 hb.size, h.2.2.below (hb.mono h.2.1)⟩
theorem KeptW.new (w : World) : KeptW w (w.alloc (.cells #[.int .u8 87, .int .u8 105, .int .u8 107, .int .u8 105, .int .u8 112, .int .u8 101, .int .u8 100, .int .u8 105, .int .u8 97] 5)) := by
  refine ⟨(Below.refl _ _).alloc (Nat.le_refl _) _, by simp, fun _ => ⟨w.heap.size, 0, rfl, by omega, fun i hi => ?_⟩⟩
  have hi' : i < 9 := hi
  rcases i with _ | _ | _ | _ | _ | _ | _ | _ | _ | i
  all_goals first | omega | simp [wiki]
theorem KeptW.rd {w u : World} (h : KeptW w u) : Rd u u.heap.size (some ⟨w.heap.size, 0, none⟩) wiki := h.2.2.mono h.2.1
theorem KeptW.rd5 {w u : World} (h : KeptW w u) : Rd u u.heap.size (some ⟨w.heap.size, 4, none⟩) pedia := by
  have := h.rd.drop 4
  rw [Nat.zero_add] at this
  exact this
theorem KeptW.of9 {w u : World} (h : KeptW w u) : Calls Try.prog 8 #[.slice (some ⟨w.heap.size, 0, none⟩) 9 9] u (fun e w' => e = .returned (.int .u32 300286872) ∧ Below u.heap.size u w') := of_is _ wiki 9 u (byt_of rfl) h.rd (by decide) (by decide)
theorem KeptW.of0 {u : World} : Calls Try.prog 8 #[.slice none 0 0] u (fun e w' => e = .returned (.int .u32 1) ∧ Below u.heap.size u w') := of_is none [] 0 u Byt.nil Rd.nil (by decide) (by decide)
theorem KeptW.of4 {w u : World} (h : KeptW w u) : Calls Try.prog 8 #[.slice (some ⟨w.heap.size, 0, none⟩) 4 9] u (fun e w' => e = .returned (.int .u32 64618901) ∧ Below u.heap.size u w') := of_is _ wiki4 9 u (byt_of rfl) (h.rd.take 4) (by decide) (by decide)
theorem KeptW.of5 {w u : World} (h : KeptW w u) : Calls Try.prog 8 #[.slice (some ⟨w.heap.size, 4, none⟩) 5 5] u (fun e w' => e = .returned (.int .u32 103285252) ∧ Below u.heap.size u w') := of_is _ pedia 5 u (byt_of rfl) h.rd5 (by decide) (by decide)
theorem KeptW.add {w u : World} (h : KeptW w u) : Calls Try.prog 10 #[.int .u32 64618901, .slice (some ⟨w.heap.size, 4, none⟩) 5 5] u (fun e w' => e = .returned (.int .u32 300286872) ∧ Below u.heap.size u w') :=
  add_is _ pedia 5 405 986 u (byt_of rfl) h.rd5 (by decide) (by decide) (by omega) (by omega) (by omega) (by omega)
theorem join_w (u : World) : Calls Try.prog 11 #[.int .u32 64618901, .int .u32 103285252, .int .i64 5] u (fun e w' => e = .returned (.int .u32 300286872) ∧ u = w') :=
  join_is 405 986 516 1576 5 u (by omega) (by omega) (by omega) (by omega) (by omega) (by omega) (by omega) (by omega) (by omega) (by omega)

def TrueB (w : World) (r : Ending) (w' : World) : Prop := r = .returned (.bool true) ∧ Below w.heap.size w w'
set_option maxHeartbeats 1000000 in
set_option maxRecDepth 100000 in
theorem awake_true (w : World) : Calls Try.prog 7 #[] w (TrueB w) := by
  have HK := Lib.hid ((KeptW.new w).up (Below.refl _ _).drew)
  go_enter Try.func7, Try.ntmps7
  go_wp2_with fail
  refine wp_region_in (KeptW w) HK.out (by kernel_rfl) (by kernel_rfl) (fun ne => ?_)
  repeat (go_big_quiet_step (first
    | (go_at_call 8; with_reducible exact In.more KeptW.up KeptW.of0)
    | (go_at_call 8; with_reducible exact In.more KeptW.up (KeptW.of9 (In.ok _)))
    | (go_at_call 8; with_reducible exact In.more KeptW.up (KeptW.of4 (In.ok _)))
    | (go_at_call 8; with_reducible exact In.more KeptW.up (KeptW.of5 (In.ok _)))
    | (go_at_call 10; with_reducible exact In.more KeptW.up (KeptW.add (In.ok _)))
    | (go_at_call 11; with_reducible exact In.same (join_w _))))
  refine wpQuiet_nil ?_
  intro nq
  have HK2 := Lib.hid nq.ok.1
  clear HK
  go_wp2_with fail
  go_ret
  exact ⟨rfl, HK2.out⟩
end Go.Proofs.Ytanlageejlbaaaa
