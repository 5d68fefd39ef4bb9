/-
  The document's small functions of checkpoints: four, back, Right, Many, Numbers, Same.
-/
import Derived.Test.YtknllfhokjedkaaDoorRowG
import Derived.Test.YtknllfhokjedkaaDoorCkptMath
import Derived.Test.YtknllfhokjedkaaDoorGeoR
import Derived.BigRegion
namespace Go.Proofs.YtknllfhokjedkaaDoor
open Go.RowKit

def Word (n : Int) : Prop := 0 ≤ n ∧ n ≤ 4294967295
def Words (ns : List Int) : Prop := ∀ n ∈ ns, Word n
theorem word0 : Word 0 := ⟨by omega, by omega⟩
/-- A number that an int may hold. -/
def Wide (n : Int) : Prop := -9223372036854775808 ≤ n ∧ n ≤ 9223372036854775807
def u32s (ns : List Int) : List Value := ns.map (Value.int .u32)
theorem u32s_len (ns : List Int) : (u32s ns).length = ns.length := by simp [u32s]
theorem u32s_get (ns : List Int) (i : Nat) (h : i < (u32s ns).length) : (u32s ns)[i] = .int .u32 (ns[i]'(by rw [u32s_len] at h; exact h)) := by simp [u32s]
/-- A checkpoint as a value; its cells. -/
abbrev kCells (nu se sq z p b : Int) (S : Value) : Array Value := #[.int .u32 nu, .int .u32 se, .int .u32 sq, .int .i64 z, .int .i64 p, .int .i64 b, S]
abbrev kV (nu se sq z p b : Int) (S : Value) : Value := .agg (kCells nu se sq z p b S)

/-- Four bytes of a number, in a new block. -/
def fourObj (n : Int) : Obj := .cells #[.int .u8 (n % 256), .int .u8 (n / 256 % 256), .int .u8 (n / 65536 % 256), .int .u8 (n / 16777216 % 256)] 5
def FourIs (n : Int) (w : World) (r : Ending) (w' : World) : Prop := r = .returned (.slice (some ⟨w.heap.size, 0, none⟩) 4 4) ∧ w' = w.alloc (fourObj n)
theorem four_is (n : Int) (w : World) (h : Word n) : Calls Tryd.prog 25 #[.int .u32 n] w (FourIs n w) := by
  obtain ⟨h0, h1⟩ := h
  have H1 : Hid (n / 16777216 % 256 = n / 16777216) := Lib.hid (by omega)
  go_enter Tryd.func25, Tryd.ntmps25
  go_wp2_with fail
  go_ret
  exact ⟨rfl, by unfold fourObj; rw [H1.out]⟩
theorem rd_four (n : Int) (w : World) : Rd (w.alloc (fourObj n)) (w.heap.size + 1) (some ⟨w.heap.size, 0, none⟩) (four n) := by
  intro _
  refine ⟨w.heap.size, 0, rfl, by omega, fun i hi => ?_⟩
  have hi' : i < 4 := hi
  rcases i with _ | _ | _ | _ | i
  all_goals first | omega | simp [four, fourObj]

set_option maxHeartbeats 1000000 in
set_option maxRecDepth 100000 in
theorem back_is {A : Option Addr} {xs : List Int} (i n c : Nat) {w : World} (hr : Rd w w.heap.size A xs) (hx : Byt xs) (hl : xs.length = n) (hi : 4 * i + 4 ≤ n) (hm : n ≤ 1000000) : Calls Tryd.prog 35 #[.slice A n c, .int .i64 (i : Int)] w (NumB (numAt xs i) w) := by
  obtain ⟨b, o, rfl, hlt, _⟩ := hr (by omega)
  obtain ⟨x0, x1, x2, x3, hn, b0, b1, b2, b3, c0, c1, c2, c3⟩ := rd_four_at (4 * i) hr hx (by omega)
  obtain ⟨t, ht⟩ : ∃ t : Nat, (4 : Int) * (i : Int) = (t : Int) := ⟨4 * i, by omega⟩
  have ht2 : 4 * i = t := by omega
  rw [ht2] at c0 c1 c2 c3
  have HN : Hid (numAt xs i = back4 x0 x1 x2 x3) := Lib.hid hn
  have hi' : t + 4 ≤ n := by omega
  clear hr hx hl hn ht2 hi
  have e1 : o + t + 1 = o + (t + 1) := by omega
  have e2 : o + t + 2 = o + (t + 2) := by omega
  have e3 : o + t + 3 = o + (t + 3) := by omega
  rw [e1] at c1
  rw [e2] at c2
  rw [e3] at c3
  clear e1 e2 e3
  go_enter Tryd.func35, Tryd.ntmps35
  go_wp2_with fail
  go_region
  go_wp2_with fail
  go_ret
  exact ⟨ret_u32 (by rw [HN.out]; unfold back4; omega), (Below.refl _ _).drew⟩

theorem rmany_is (n : Int) (w : World) (h : 0 ≤ n) (h2 : n ≤ 1000000) : Calls Tryd.prog 15 #[.int .i64 n] w (IntIs (manyC n) w) := by
  have ht : 0 ≤ tab n ∧ tab n ≤ 1000000 := by
    unfold tab
    split <;> omega
  go_enter Tryd.func15, Tryd.ntmps15
  go_wp2_with fail
  refine (rtables_is _ _ h (by omega)).mono ?_
  rintro r w' ⟨rfl, rfl⟩
  have HM : Hid (manyC n = (4 * (7 + tab n) + 15) / 16) := Lib.hid rfl
  generalize tab n = t at *
  go_wp2_with fail
  go_ret
  exact ⟨ret_int (by rw [HM.out]), rfl⟩
end Go.Proofs.YtknllfhokjedkaaDoor
