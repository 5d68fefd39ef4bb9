/-
  cmp.Compare of two numbers; a closure that orders zones by the document's ahead.
-/
import Derived.Test.YtndapbfaaglcgaaVcA
import Derived.Sort.Grow
namespace Go.Proofs.Ytndapbfaaglcgaa
open Go.RowKit

/-- Below, the same, above. -/
def cmpZ (x y : Int) : Int := if x < y then -1 else if y < x then 1 else 0
theorem cmpZ_cases (x y : Int) : (x < y ∧ cmpZ x y = -1) ∨ (y < x ∧ cmpZ x y = 1) ∨ (x = y ∧ cmpZ x y = 0) := by
  unfold cmpZ
  split
  · exact .inl ⟨by omega, rfl⟩
  · split
    · exact .inr (.inl ⟨by omega, rfl⟩)
    · exact .inr (.inr ⟨by omega, rfl⟩)
theorem nanI_at (x : Int) (w : World) : Calls Try.prog 34 #[.int .i64 x] w (BoolIs false w) := by
  have q : (x != x) = false := by simp
  go_enter Try.func34, Try.ntmps34
  go_wp2_with fail
  go_ret
  exact ⟨rfl, rfl⟩
theorem nanU_at (x : Int) (w : World) : Calls Try.prog 48 #[.int .u64 x] w (BoolIs false w) := by
  have q : (x != x) = false := by simp
  go_enter Try.func48, Try.ntmps48
  go_wp2_with fail
  go_ret
  exact ⟨rfl, rfl⟩
set_option maxHeartbeats 1000000 in
theorem cmpI_at (x y : Int) (w : World) : Calls Try.prog 28 #[.int .i64 x, .int .i64 y] w (IntIs (cmpZ x y) w) := by
  have HC := Lib.hid (cmpZ_cases x y)
  generalize cmpZ x y = r at *
  rcases HC.out with ⟨h, rfl⟩ | ⟨h, rfl⟩ | ⟨h, rfl⟩
  · have d1 : decide (x < y) = true := by simpa using h
    clear h HC
    go_enter Try.func28, Try.ntmps28
    go_wp2_with (go_at_call 34; refine (nanI_at _ _).mono ?_; rintro r w' ⟨rfl, rfl⟩)
    go_ret
    exact ⟨rfl, rfl⟩
  · have d1 : decide (x < y) = false := by simp; omega
    have d2 : decide (y < x) = true := by simpa using h
    clear h HC
    go_enter Try.func28, Try.ntmps28
    go_wp2_with (go_at_call 34; refine (nanI_at _ _).mono ?_; rintro r w' ⟨rfl, rfl⟩)
    go_ret
    exact ⟨rfl, rfl⟩
  · have d1 : decide (x < y) = false := by simp; omega
    have d2 : decide (y < x) = false := by simp; omega
    clear h HC
    go_enter Try.func28, Try.ntmps28
    go_wp2_with (go_at_call 34; refine (nanI_at _ _).mono ?_; rintro r w' ⟨rfl, rfl⟩)
    go_ret
    exact ⟨rfl, rfl⟩
set_option maxHeartbeats 1000000 in
theorem cmpU_at (x y : Int) (w : World) : Calls Try.prog 35 #[.int .u64 x, .int .u64 y] w (IntIs (cmpZ x y) w) := by
  have HC := Lib.hid (cmpZ_cases x y)
  generalize cmpZ x y = r at *
  rcases HC.out with ⟨h, rfl⟩ | ⟨h, rfl⟩ | ⟨h, rfl⟩
  · have d1 : decide (x < y) = true := by simpa using h
    clear h HC
    go_enter Try.func35, Try.ntmps35
    go_wp2_with (go_at_call 48; refine (nanU_at _ _).mono ?_; rintro r w' ⟨rfl, rfl⟩)
    go_ret
    exact ⟨rfl, rfl⟩
  · have d1 : decide (x < y) = false := by simp; omega
    have d2 : decide (y < x) = true := by simpa using h
    clear h HC
    go_enter Try.func35, Try.ntmps35
    go_wp2_with (go_at_call 48; refine (nanU_at _ _).mono ?_; rintro r w' ⟨rfl, rfl⟩)
    go_ret
    exact ⟨rfl, rfl⟩
  · have d1 : decide (x < y) = false := by simp; omega
    have d2 : decide (y < x) = false := by simp; omega
    clear h HC
    go_enter Try.func35, Try.ntmps35
    go_wp2_with (go_at_call 48; refine (nanU_at _ _).mono ?_; rintro r w' ⟨rfl, rfl⟩)
    go_ret
    exact ⟨rfl, rfl⟩

/-- The first one that isn't 0. -/
def orZ (x y : Int) : Int := if x = 0 then y else x
set_option maxHeartbeats 1000000 in
theorem or_at (x y : Int) (b : Nat) (w : World) (c0 : w.cell? ⟨b, 0, none⟩ = some (.int .i64 x)) (c1 : w.cell? ⟨b, 1, none⟩ = some (.int .i64 y)) : Calls Try.prog 30 #[.slice (some ⟨b, 0, none⟩) 2 2] w (IntIs (orZ x y) w) := by
  have HE := Lib.hid (show orZ x y = if x = 0 then y else x from rfl)
  generalize orZ x y = r at *
  have HC0 := Lib.hid c0
  have HC1 := Lib.hid c1
  clear c0 c1
  go_enter Try.func30, Try.ntmps30
  go_wp2_with fail
  go_loopg [8] 2 (fun q v wr => ∃ i : Nat, i ≤ 2 ∧ q = 2 - i ∧ v = .int .i64 (i : Int) ∧ (1 ≤ i → x = 0) ∧ (2 ≤ i → y = 0) ∧ wr = w)
  case atStart => exact ⟨0, by omega, rfl, rfl, fun h => by omega, fun h => by omega, rfl⟩
  case round =>
    obtain ⟨i, hi, hq, rfl, hx, hy, rfl⟩ := hrel
    have HX := Lib.hid hx
    have HY := Lib.hid hy
    have HQ := Lib.hid hq
    clear hx hy hq
    have h3 : i = 0 ∨ i = 1 ∨ i = 2 := by omega
    rcases h3 with rfl | rfl | rfl
    · have c0 := HC0.out
      by_cases h0 : x = 0
      · have q0 : (x != 0) = false := by simp [h0]
        have HZ := Lib.hid h0
        clear h0
        go_wp2_with fail
        go_roundg 1
        case rel => exact ⟨1, by omega, rfl, by go_num, fun _ => HZ.out, fun h => by omega, rfl⟩
        case measure => have := HQ.out; omega
      · have q0 : (x != 0) = true := by simp [h0]
        have HEE : Hid (r = x) := Lib.hid (by rw [HE.out, if_neg h0])
        clear h0
        go_wp2_with fail
        go_ret
        exact ⟨ret_int HEE.out.symm, rfl⟩
    · have c1 := HC1.out
      by_cases h0 : y = 0
      · have q0 : (y != 0) = false := by simp [h0]
        have HZ := Lib.hid h0
        clear h0
        go_wp2_with fail
        go_roundg 0
        case rel => exact ⟨2, by omega, rfl, by go_num, fun _ => HX.out (by omega), fun _ => HZ.out, rfl⟩
        case measure => have := HQ.out; omega
      · have q0 : (y != 0) = true := by simp [h0]
        have HEE : Hid (r = y) := Lib.hid (by rw [HE.out, if_pos (HX.out (by omega))])
        clear h0
        go_wp2_with fail
        go_ret
        exact ⟨ret_int HEE.out.symm, rfl⟩
    · have HEE : Hid (r = 0) := Lib.hid (by rw [HE.out, if_pos (HX.out (by omega)), HY.out (by omega)])
      go_wp2_with fail
      go_ret
      exact ⟨ret_int HEE.out.symm, rfl⟩

/-- By live pages or benefit, then by number. -/
def cfZ (pol p : Int) (a b : VZ) : Int :=
  if pol = 0 then (if cmpZ a.v b.v = 0 then cmpZ a.id b.id else cmpZ a.v b.v)
  else (if cmpZ (VZ.prod p b a) (VZ.prod p a b) = 0 then cmpZ a.id b.id else cmpZ (VZ.prod p b a) (VZ.prod p a b))
theorem cfZ_ahead (pol p : Int) (a b : VZ) : decide (cfZ pol p a b < 0) = VZ.ahead pol p a b := by
  unfold cfZ VZ.ahead
  have h3 := cmpZ_cases a.id b.id
  by_cases h0 : pol = 0
  · rw [if_pos h0, if_pos h0]
    have h1 := cmpZ_cases a.v b.v
    rw [Bool.eq_iff_iff]
    by_cases e : a.v = b.v
    · rw [if_pos e, if_pos (by omega)]
      simp only [decide_eq_true_eq]
      omega
    · rw [if_neg e, if_neg (by omega)]
      simp only [decide_eq_true_eq]
      omega
  · rw [if_neg h0, if_neg h0]
    have h1 := cmpZ_cases (VZ.prod p b a) (VZ.prod p a b)
    rw [Bool.eq_iff_iff]
    by_cases e : VZ.prod p a b = VZ.prod p b a
    · rw [if_pos e, if_pos (by omega)]
      simp only [decide_eq_true_eq]
      omega
    · rw [if_neg e, if_neg (by omega)]
      simp only [decide_eq_true_eq]
      omega
end Go.Proofs.Ytndapbfaaglcgaa
