/-
  An index in memory: drawn, next, far, find.
-/
import Derived.Test.YtmoagooabmmmgaaCelB
import Derived.Test.YtmoagooabmmmgaaIxMath
namespace Go.Proofs.Ytmoagooabmmmgaa
open Go.RowKit

/-- The cells cs are the places T. -/
def PlC (cs : List Value) (T : TabS) : Prop := ∀ i, i < 128 → cs[2 + i * 3]? = some (.int .u32 (T.k i : Int)) ∧ cs[2 + i * 3 + 1]? = some (.int .i64 (T.s i)) ∧ cs[2 + i * 3 + 2]? = some (.bool (T.t i))
theorem PlC.put {cs : List Value} {T : TabS} (h : PlC cs T) (p : Nat) (hp : p < 128) (k : Nat) (s : Int) (t : Bool) : PlC (((cs.set (2 + p * 3) (.int .u32 (k : Int))).set (2 + p * 3 + 1) (.int .i64 s)).set (2 + p * 3 + 2) (.bool t)) (T.put p k s t) := by
  intro i hi
  obtain ⟨a, b, c⟩ := h i hi
  by_cases e : i = p
  · subst e
    simp only [TabS.put, upd_same]
    refine ⟨?_, ?_, ?_⟩
    · rw [set_off (by omega), set_off (by omega), set_at a]
    · rw [set_off (by omega), set_at (x := .int .i64 (T.s i))]
      rw [set_off (by omega)]
      exact b
    · rw [set_at (x := .bool (T.t i))]
      rw [set_off (by omega), set_off (by omega)]
      exact c
  · simp only [TabS.put, upd_ne e]
    refine ⟨?_, ?_, ?_⟩
    · rw [set_off (by omega), set_off (by omega), set_off (by omega)]
      exact a
    · rw [set_off (by omega), set_off (by omega), set_off (by omega)]
      exact b
    · rw [set_off (by omega), set_off (by omega), set_off (by omega)]
      exact c
theorem PlC.head {cs : List Value} {T : TabS} (h : PlC cs T) {k : Nat} (hk : k < 2) (v : Value) : PlC (cs.set k v) T := by
  intro i hi
  obtain ⟨a, b, c⟩ := h i hi
  rw [set_off (by omega), set_off (by omega), set_off (by omega)]
  exact ⟨a, b, c⟩
/-- Block kb is an index: places T, how many keys, how many may be. -/
structure IxC (w : World) (kb : Nat) (cs : List Value) (T : TabS) (many room : Nat) : Prop where
  b : Blk w kb 90 cs
  len : cs.length = 386
  r : cs[0]? = some (.int .i64 (room : Int))
  m : cs[1]? = some (.int .i64 (many : Int))
  p : PlC cs T
theorem IxC.keep {F : Nat → Prop} {w w' : World} {kb : Nat} {cs : List Value} {T : TabS} {m r : Nat} (h : IxC w kb cs T m r) (hk : Kept F w w') (hn : ¬ F kb) : IxC w' kb cs T m r := ⟨hk.blk h.b hn, h.len, h.r, h.m, h.p⟩
theorem IxC.up {w w' : World} {kb : Nat} {cs : List Value} {T : TabS} {m r : Nat} (h : IxC w kb cs T m r) (hb : Below w.heap.size w w') : IxC w' kb cs T m r := h.keep (F := fun _ => False) (Kept.of_below hb) id
theorem IxC.drew {w : World} {kb : Nat} {cs : List Value} {T : TabS} {m r : Nat} (h : IxC w kb cs T m r) : IxC w.drew kb cs T m r := h.up (Below.refl _ _).drew
theorem IxC.at {w : World} {kb : Nat} {cs : List Value} {T : TabS} {m r : Nat} (h : IxC w kb cs T m r) {i : Nat} (hi : i < 128) : w.cell? ⟨kb, 2 + i * 3, none⟩ = some (.int .u32 (T.k i : Int)) ∧ w.cell? ⟨kb, 2 + i * 3 + 1, none⟩ = some (.int .i64 (T.s i)) ∧ w.cell? ⟨kb, 2 + i * 3 + 2, none⟩ = some (.bool (T.t i)) := by
  obtain ⟨a, b, c⟩ := h.p i hi
  exact ⟨h.b.at a, h.b.at b, h.b.at c⟩

section
variable {w : World}
theorem xdrawn_at (k : Nat) : Calls Try.prog 50 #[.int .u32 (k : Int)] w (IntIs ((k % 128 : Nat) : Int) w) := by
  go_enter Try.func50, Try.ntmps50
  go_wp2_with fail
  go_ret
  exact ⟨ret_int (by omega), rfl⟩
theorem xnext_at (i : Nat) (hi : i < 128) : Calls Try.prog 51 #[.int .i64 (i : Int)] w (IntIs (((i + 1) % 128 : Nat) : Int) w) := by
  go_enter Try.func51, Try.ntmps51
  go_wp2_with fail
  go_ret
  exact ⟨ret_int (by omega), rfl⟩
theorem xfar_at (a b : Nat) (ha : a < 128) (hb : b < 128) : Calls Try.prog 55 #[.int .i64 (a : Int), .int .i64 (b : Int)] w (IntIs ((fr a b : Nat) : Int) w) := by
  go_enter Try.func55, Try.ntmps55
  go_wp2_with fail
  go_ret
  exact ⟨ret_int (by unfold fr; omega), rfl⟩
end
/-- What find answers. -/
def FindTo (T : TabS) (k : Nat) (w : World) (r : Ending) (w' : World) : Prop :=
  ∃ j p, j < 128 ∧ p = (k % 128 + j) % 128 ∧ Way T k j ∧ (T.t p = true → T.k p = k) ∧ r = .returned (.tuple #[.int .i64 (p : Int), .bool (T.t p)]) ∧ Below w.heap.size w w'
section
variable {w : World} {kb m r : Nat} {cs : List Value} {T : TabS}
set_option maxHeartbeats 1000000 in
theorem xfind_at (k f : Nat) (h : IxC w kb cs T m r) (hf : f < 128) (hff : T.t f = false) : Calls Try.prog 45 #[.pointer (some ⟨kb, 0, none⟩), .int .u32 (k : Int)] w (FindTo T k w) := by
  have HX := Lib.hid h
  clear h
  go_enter Try.func45, Try.ntmps45
  go_wp2_with fail
  refine (xdrawn_at k).mono ?_
  rintro r w' ⟨rfl, rfl⟩
  go_wp2_with fail
  go_loopg [6] 128 (fun n i wr => ∃ j p : Nat, j < 128 ∧ n = 128 - j ∧ p = (k % 128 + j) % 128 ∧ i = .int .i64 (p : Int) ∧ Way T k j ∧ Below w.heap.size w wr)
  case atStart => exact ⟨0, k % 128, by omega, by omega, by omega, rfl, Way.zero T k, Below.refl _ _⟩
  case round =>
    obtain ⟨j, p, hj, hm, hp, rfl, hw, hb⟩ := hrel
    have HB := Lib.hid hb
    have HM := Lib.hid hm
    have HW := Lib.hid hw
    have HP := Lib.hid hp
    have hpl : p < 128 := by omega
    obtain ⟨c0, c1, c2⟩ := (HX.out.up HB.out).at hpl
    clear hb hm hw hp c1
    cases ht : T.t p with
    | false =>
      rw [ht] at c2
      have HE : Hid (∀ w', Below w.heap.size w w' → FindTo T k w (.returned (.tuple #[.int .i64 (p : Int), .bool false])) w') := Lib.hid (fun w' hb => ⟨j, p, hj, HP.out, HW.out, fun e => (by rw [ht] at e; cases e), (by rw [ht]), hb⟩)
      clear ht
      go_wp2_with fail
      go_region
      go_wp2_with fail
      go_ret2
      exact HE.out _ HB.out.drew
    | true =>
      rw [ht] at c2
      by_cases hk : T.k p = k
      · have HE : Hid (∀ w', Below w.heap.size w w' → FindTo T k w (.returned (.tuple #[.int .i64 (p : Int), .bool true])) w') := Lib.hid (fun w' hb => ⟨j, p, hj, HP.out, HW.out, fun _ => hk, (by rw [ht]), hb⟩)
        rw [hk] at c0
        clear ht hk
        have q : ((k : Int) != (k : Int)) = false := by simp
        go_wp2_with fail
        go_region
        go_wp2_with fail
        go_ret2
        exact HE.out _ HB.out.drew
      · have HN : Hid (Way T k (j + 1)) := Lib.hid (HW.out.next (by rw [← HP.out]; exact ht) (by rw [← HP.out]; exact hk))
        have hj1 := HN.out.le hf hff
        have q : ((T.k p : Int) != (k : Int)) = true := by simp; omega
        have HP2 : Hid ((p + 1) % 128 = (k % 128 + (j + 1)) % 128) := Lib.hid (by have := HP.out; omega)
        clear ht hk
        go_wp2_with fail
        refine (xnext_at p hpl).mono ?_
        rintro r w' ⟨rfl, rfl⟩
        go_wp2_with fail
        go_roundg (128 - (j + 1))
        case rel => exact ⟨j + 1, (p + 1) % 128, hj1, rfl, HP2.out, rfl, HN.out, HB.out⟩
        case measure => have := HM.out; omega
end
end Go.Proofs.Ytmoagooabmmmgaa
