/-
  slices.Clone of zones; the order.
-/
import Derived.Test.YtndapbfaaglcgaaVyB2
namespace Go.Proofs.Ytndapbfaaglcgaa
open Go.RowKit

theorem eq_nilZ (a : Option Addr) (n c : Nat) (w : World) : (binOp .eql 22 (.slice a n c) (.slice none 0 0)).run Try.prog w = .ok (.bool a.isNone) w := by
  simp only [binOp]
  simp [run_equal_slice_nil w 22 38 a n c Try.underlying22]
set_option maxHeartbeats 1000000 in
set_option maxRecDepth 100000 in
theorem vclone_at {w : World} {A : Option Addr} {n c : Nat} (l : List VZ) (hl : l.length = n) (hr : RdV w w.heap.size A (zsC l)) (hnc : n ≤ c) (hz : A = none → c = 0) (hn : n ≤ 1000) : Calls Try.prog 25 #[.slice A n c] w (ZsIs 38 l w) := by
  cases A with
  | none =>
    obtain rfl := hz rfl
    obtain rfl : n = 0 := by omega
    obtain rfl : l = [] := List.eq_nil_of_length_eq_zero hl
    have HE : Hid (ZsIs 38 [] w (.returned (.slice none 0 0)) w) := Lib.hid ⟨_, rfl, OwnK.nil _ _ _ _, Below.refl _ _⟩
    clear hl hr hnc hz hn
    have hq := eq_nilZ
    go_enter Try.func25, Try.ntmps25
    go_wp2_with fail
    go_ret
    exact HE.out
  | some ad =>
    have HN := Lib.hid hl
    have HO : Hid (OwnK (w.alloc (.cells #[] 38)) w.heap.size 38 3 (.slice (some ⟨w.heap.size, 0, none⟩) 0 0) 0 []) := Lib.hid (OwnK.new w _ _ 3 0 [] (Nat.le_refl _) rfl (by omega))
    have HB : Hid (Below w.heap.size w (w.alloc (.cells #[] 38))) := Lib.hid ((Below.refl _ _).alloc (Nat.le_refl _) _)
    have HR := Lib.hid (hr.up HB.out)
    clear hl hr hz
    have hq := eq_nilZ
    go_enter Try.func25, Try.ntmps25
    go_wp2_with (first
      | (at_builtin; go_loud (refine appP _ rfl (.tmp 5) (.tmp 6) 22 38 (.agg #[.int .i64 0, .int .i64 0, .int .u32 0]) 3 24 rfl Try.underlying22 vzInfo rfl (by decide) (by decide) w.heap.size 0 n c (.slice (some ⟨w.heap.size, 0, none⟩) 0 0) [] (zsC l) (some ad) rfl HO.out rfl (by rw [zsC_len, HN.out]) HR.out (fun e => by cases e) (zsC_one _) (by omega) HB.out.size ?_; intro v8 w8 ho hg; rw [Nat.zero_add, List.nil_append] at ho; have HE : Hid (ZsIs 38 l w (.returned v8) w8) := Lib.hid ⟨v8, rfl, by rw [HN.out]; exact ho, below_grown HB.out hg (fun e he => HO.out.own e he)⟩; clear ho hg))
      | fail)
    go_ret
    exact HE.out
end Go.Proofs.Ytndapbfaaglcgaa
