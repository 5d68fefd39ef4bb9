/-
  body.ToPlaces of whatever bytes; addresses compared; body.ToTrim.
-/
import Derived.Test.YtcoaogfebfbemaaDoorBodyD
import Derived.Test.YtcoaogfebfbemaaDoorBodyE
import Derived.Laws.StructEq
import Derived.ChangeKeysEq
namespace Go.Proofs.YtcoaogfebfbemaaDoor
open Go.RowKit

theorem to_all {A : Option Addr} {xs : List Int} {n c : Nat} {w : World} (hr : Rd w w.heap.size A xs) (hx : Byt xs) (hl : xs.length = n) (hc : n ≤ c) : Calls Tryd.prog 6 #[.slice A n c] w (ToIs (errV (toE xs)) xs w) := by
  unfold ToIs toV
  by_cases hn : n = 16
  · subst hn
    obtain ⟨b, o, rfl, _, _⟩ := hr (by omega)
    simp only [toN_yes hl, toE_yes hl]
    exact to_ok b o c xs w hr hx hl hc
  · simp only [toN_no (show xs.length ≠ 16 by omega), toE_no (show xs.length ≠ 16 by omega)]
    exact to_short A n c w hn

/-! ### addresses compared -/
def same4 (a b c d x y z u : Int) : Bool := decide (a = x) && decide (b = y) && decide (c = z) && decide (d = u)
theorem eq_places (a b c d x y z u : Int) (w : World) : (Op.equalIn 10000 24 (pV a b c d) (pV x y z u)).run Tryd.prog w = .ok (same4 a b c d x y z u) w := by
  obtain ⟨i, hi⟩ : ∃ i, Tryd.prog.info? 22 = some i := ⟨_, rfl⟩
  have hc : Tryd.prog.cellsOf 22 = 1 := by kernel_rfl
  rw [show (10000 : Nat) = 9999 + 1 from rfl, run_equalIn_array (w := w) 9999 _ _ Tryd.underlying24 hi, hc]
  unfold same4
  by_cases h1 : a = x <;> by_cases h2 : b = y <;> by_cases h3 : c = z <;> by_cases h4 : d = u <;> simp [List.range, List.range.loop, Op.eqItems, go_sem, h1, h2, h3, h4]
theorem guard_places (o : BinOp) (x y : Operand) (xs ys : Array Value) (w : World) : (eqGuard o 24 x y (.agg xs) (.agg ys)).run Tryd.prog w = .ok () w := run_eqGuard_agg w o 24 x y xs ys (by kernel_rfl)
theorem eql_places (a b c d x y z u : Int) (w : World) : (binOp .eql 24 (pV a b c d) (pV x y z u)).run Tryd.prog w = .ok (.bool (same4 a b c d x y z u)) w := by
  rw [run_eql_struct, eq_places]
  rfl
theorem neq_places (a b c d x y z u : Int) (w : World) : (binOp .neq 24 (pV a b c d) (pV x y z u)).run Tryd.prog w = .ok (.bool (!same4 a b c d x y z u)) w := by
  rw [run_neq_struct, eq_places]
  rfl
theorem trE_form {a b c d : Int} (h : a ≠ 0) : trE 0 a b c d = if same4 a b c d a 0 0 0 = true then 0 else 2 := by
  unfold trE same4
  by_cases h1 : b = 0 <;> by_cases h2 : c = 0 <;> by_cases h3 : d = 0 <;> simp [h, h1, h2, h3]

set_option maxHeartbeats 1000000 in
theorem trim_step {A : Option Addr} {n c : Nat} {w : World} {e a0 a1 a2 a3 : Int} (h : Calls Tryd.prog 6 #[.slice A n c] w fun r w' => r = .returned (.tuple #[pV a0 a1 a2 a3, errV e]) ∧ Below w.heap.size w w') :
    Calls Tryd.prog 8 #[.slice A n c] w (TrimIs (trN e a0 a1 a2 a3) (errV (trE e a0 a1 a2 a3)) w) := by
  by_cases he : e = 0
  · subst he
    rw [show errV 0 = Value.nilIface from if_pos rfl] at h
    have HC := Lib.hid h
    clear h
    by_cases h0 : a0 = 0
    · have q0 : (a0 == 0) = true := by simpa using h0
      have hE : trE 0 a0 a1 a2 a3 = 2 := by simp [trE, h0]
      have hN : trN 0 a0 a1 a2 a3 = 0 := by unfold trN; rw [hE]; rfl
      rw [hE, hN]
      clear h0 hE hN
      go_enter Tryd.func8, Tryd.ntmps8
      go_wp2_with fail
      refine HC.out.mono ?_
      rintro r w1 ⟨rfl, hb⟩
      have HB := Lib.hid (hb.alloc hb.size (.cells #[.int .u32 a0, .int .u32 a1, .int .u32 a2, .int .u32 a3] 24))
      clear hb
      go_wp2_with fail
      go_ret2
      exact ⟨rfl, HB.out⟩
    · have q0 : (a0 == 0) = false := by simpa using h0
      have hT := trE_form (b := a1) (c := a2) (d := a3) h0
      have hneq := neq_places a0 a1 a2 a3 a0 0 0 0
      have hgd := guard_places .neq
      cases hs : same4 a0 a1 a2 a3 a0 0 0 0
      · have hE : trE 0 a0 a1 a2 a3 = 2 := by rw [hT, hs]; rfl
        have hN : trN 0 a0 a1 a2 a3 = 0 := by unfold trN; rw [hE]; rfl
        rw [hE, hN]
        rw [hs] at hneq
        clear h0 hE hN hT hs
        go_enter Tryd.func8, Tryd.ntmps8
        go_wp2_with fail
        refine HC.out.mono ?_
        rintro r w1 ⟨rfl, hb⟩
        have HB := Lib.hid (hb.alloc hb.size (.cells #[.int .u32 a0, .int .u32 a1, .int .u32 a2, .int .u32 a3] 24))
        clear hb
        go_wp2_with fail
        go_ret2
        exact ⟨rfl, HB.out⟩
      · have hE : trE 0 a0 a1 a2 a3 = 0 := by rw [hT, hs]; rfl
        have hN : trN 0 a0 a1 a2 a3 = a0 := by unfold trN; rw [hE]; rfl
        rw [hE, hN]
        rw [hs] at hneq
        clear h0 hE hN hT hs
        go_enter Tryd.func8, Tryd.ntmps8
        go_wp2_with fail
        refine HC.out.mono ?_
        rintro r w1 ⟨rfl, hb⟩
        have HB := Lib.hid (hb.alloc hb.size (.cells #[.int .u32 a0, .int .u32 a1, .int .u32 a2, .int .u32 a3] 24))
        clear hb
        go_wp2_with fail
        go_ret2
        exact ⟨rfl, HB.out⟩
  · have hV : errV e = .iface 31 (.int .i64 e) := if_neg he
    rw [hV] at h
    have HC := Lib.hid h
    have hE : trE e a0 a1 a2 a3 = e := by simp [trE, he]
    have hN : trN e a0 a1 a2 a3 = 0 := by unfold trN; rw [hE, if_neg he]
    rw [hE, hN, hV]
    clear he hE hN hV h
    go_enter Tryd.func8, Tryd.ntmps8
    go_wp2_with fail
    refine HC.out.mono ?_
    rintro r w1 ⟨rfl, hb⟩
    have HB := Lib.hid (hb.alloc hb.size (.cells #[.int .u32 a0, .int .u32 a1, .int .u32 a2, .int .u32 a3] 24))
    clear hb
    go_wp2_with fail
    go_ret2
    exact ⟨rfl, HB.out⟩
theorem trim_all {A : Option Addr} {xs : List Int} {n c : Nat} {w : World} (hr : Rd w w.heap.size A xs) (hx : Byt xs) (hl : xs.length = n) (hc : n ≤ c) : Calls Tryd.prog 8 #[.slice A n c] w (TrimIs (trimN xs) (errV (trimE xs)) w) := by
  rw [trimN_is, trimE_is]
  exact trim_step (to_all hr hx hl hc)
end Go.Proofs.YtcoaogfebfbemaaDoor
