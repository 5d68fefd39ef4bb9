/-
  The document's ToPlaces of whatever bytes, and its ToTrim.
-/
import Derived.Test.YtcoaogfebfbemaaDoorBodyC
namespace Go.Proofs.YtcoaogfebfbemaaDoor
open Go.RowKit

theorem bk_word {ps : List Int} (k : Nat) (hx : Byt ps) : Word (bk ps k) := by
  have g : ∀ j, 0 ≤ ps.getD j 0 ∧ ps.getD j 0 ≤ 255 := fun j => by
    rw [List.getD_eq_getElem?_getD]
    by_cases h : j < ps.length
    · rw [List.getElem?_eq_getElem h]; exact hx.get j h
    · rw [List.getElem?_eq_none (by omega)]; simp
  exact back4_bd (g k).1 (g k).2 (g (k + 1)).1 (g (k + 1)).2 (g (k + 2)).1 (g (k + 2)).2 (g (k + 3)).1 (g (k + 3)).2
theorem toN_word {xs : List Int} (hx : Byt xs) (i : Nat) : Word (toN xs i) := by
  unfold toN
  split
  · exact bk_word _ hx
  · exact word0
theorem rto_all {A : Option Addr} {xs : List Int} {n c : Nat} {w : World} (hr : Rd w w.heap.size A xs) (hx : Byt xs) (hl : xs.length = n) (hc : n ≤ c) : Calls Tryd.prog 7 #[.slice A n c] w (ToIs (.int .i64 (toE xs)) xs w) := by
  unfold ToIs toV
  by_cases hn : n = 16
  · subst hn
    obtain ⟨b, o, rfl, _, _⟩ := hr (by omega)
    simp only [toN_yes hl, toE_yes hl]
    exact rto_ok b o c xs w hr hx hl hc
  · simp only [toN_no (show xs.length ≠ 16 by omega), toE_no (show xs.length ≠ 16 by omega)]
    exact rto_short A n c w hn

/-- Of four numbers that bytes say: the trim's number and an error's code. -/
def trE (e a b c d : Int) : Int := if e ≠ 0 then e else if a = 0 ∨ b ≠ 0 ∨ c ≠ 0 ∨ d ≠ 0 then 2 else 0
def trN (e a b c d : Int) : Int := if trE e a b c d = 0 then a else 0
theorem trimE_is (xs : List Int) : trimE xs = trE (toE xs) (toN xs 0) (toN xs 1) (toN xs 2) (toN xs 3) := by
  unfold trimE trE toE
  by_cases h : xs.length = 16 <;> simp [h]
theorem trimN_is (xs : List Int) : trimN xs = trN (toE xs) (toN xs 0) (toN xs 1) (toN xs 2) (toN xs 3) := by
  unfold trimN trN
  rw [trimE_is]
def TrimIs (n : Int) (e : Value) (w : World) (r : Ending) (w' : World) : Prop := r = .returned (.tuple #[.int .u32 n, e]) ∧ Below w.heap.size w w'
set_option maxHeartbeats 1000000 in
theorem rtrim_step {A : Option Addr} {n c : Nat} {w : World} {e a0 a1 a2 a3 : Int} (h : Calls Tryd.prog 7 #[.slice A n c] w fun r w' => r = .returned (.tuple #[pV a0 a1 a2 a3, .int .i64 e]) ∧ Below w.heap.size w w') :
    Calls Tryd.prog 9 #[.slice A n c] w (TrimIs (trN e a0 a1 a2 a3) (.int .i64 (trE e a0 a1 a2 a3)) w) := by
  have HC := Lib.hid h
  clear h
  by_cases he : e = 0
  · subst he
    by_cases h0 : a0 = 0
    · have q0 : (a0 == 0) = true := by simpa using h0
      have hE : trE 0 a0 a1 a2 a3 = 2 := by simp [trE, h0]
      have hN : trN 0 a0 a1 a2 a3 = 0 := by unfold trN; rw [hE]; rfl
      rw [hE, hN]
      clear h0 hE hN
      go_enter Tryd.func9, Tryd.ntmps9
      go_wp2_with fail
      refine HC.out.mono ?_
      rintro r w1 ⟨rfl, hb⟩
      have HB := Lib.hid (hb.alloc hb.size (.cells #[.int .u32 a0, .int .u32 a1, .int .u32 a2, .int .u32 a3] 23))
      clear hb
      go_wp2_with fail
      go_ret2
      exact ⟨rfl, HB.out⟩
    · have q0 : (a0 == 0) = false := by simpa using h0
      by_cases h1 : a1 = 0
      · by_cases h2 : a2 = 0
        · by_cases h3 : a3 = 0
          · subst h1 h2 h3
            have hE : trE 0 a0 0 0 0 = 0 := by simp [trE, h0]
            have hN : trN 0 a0 0 0 0 = a0 := by unfold trN; rw [hE]; rfl
            rw [hE, hN]
            clear h0 hE hN
            go_enter Tryd.func9, Tryd.ntmps9
            go_wp2_with fail
            refine HC.out.mono ?_
            rintro r w1 ⟨rfl, hb⟩
            have HB := Lib.hid (hb.alloc hb.size (.cells #[.int .u32 a0, .int .u32 0, .int .u32 0, .int .u32 0] 23))
            clear hb
            go_wp2_with fail
            go_ret2
            exact ⟨rfl, HB.out⟩
          · subst h1 h2
            have q3 : (a3 != 0) = true := by simpa using h3
            have hE : trE 0 a0 0 0 a3 = 2 := by simp [trE, h3]
            have hN : trN 0 a0 0 0 a3 = 0 := by unfold trN; rw [hE]; rfl
            rw [hE, hN]
            clear h0 h3 hE hN
            go_enter Tryd.func9, Tryd.ntmps9
            go_wp2_with fail
            refine HC.out.mono ?_
            rintro r w1 ⟨rfl, hb⟩
            have HB := Lib.hid (hb.alloc hb.size (.cells #[.int .u32 a0, .int .u32 0, .int .u32 0, .int .u32 a3] 23))
            clear hb
            go_wp2_with fail
            go_ret2
            exact ⟨rfl, HB.out⟩
        · subst h1
          have q2 : (a2 != 0) = true := by simpa using h2
          have hE : trE 0 a0 0 a2 a3 = 2 := by simp [trE, h2]
          have hN : trN 0 a0 0 a2 a3 = 0 := by unfold trN; rw [hE]; rfl
          rw [hE, hN]
          clear h0 h2 hE hN
          go_enter Tryd.func9, Tryd.ntmps9
          go_wp2_with fail
          refine HC.out.mono ?_
          rintro r w1 ⟨rfl, hb⟩
          have HB := Lib.hid (hb.alloc hb.size (.cells #[.int .u32 a0, .int .u32 0, .int .u32 a2, .int .u32 a3] 23))
          clear hb
          go_wp2_with fail
          go_ret2
          exact ⟨rfl, HB.out⟩
      · have q1 : (a1 != 0) = true := by simpa using h1
        have hE : trE 0 a0 a1 a2 a3 = 2 := by simp [trE, h1]
        have hN : trN 0 a0 a1 a2 a3 = 0 := by unfold trN; rw [hE]; rfl
        rw [hE, hN]
        clear h0 h1 hE hN
        go_enter Tryd.func9, Tryd.ntmps9
        go_wp2_with fail
        refine HC.out.mono ?_
        rintro r w1 ⟨rfl, hb⟩
        have HB := Lib.hid (hb.alloc hb.size (.cells #[.int .u32 a0, .int .u32 a1, .int .u32 a2, .int .u32 a3] 23))
        clear hb
        go_wp2_with fail
        go_ret2
        exact ⟨rfl, HB.out⟩
  · have q : (e != 0) = true := by simpa using he
    have hE : trE e a0 a1 a2 a3 = e := by simp [trE, he]
    have hN : trN e a0 a1 a2 a3 = 0 := by unfold trN; rw [hE, if_neg he]
    rw [hE, hN]
    clear he hE hN
    go_enter Tryd.func9, Tryd.ntmps9
    go_wp2_with fail
    refine HC.out.mono ?_
    rintro r w1 ⟨rfl, hb⟩
    have HB := Lib.hid (hb.alloc hb.size (.cells #[.int .u32 a0, .int .u32 a1, .int .u32 a2, .int .u32 a3] 23))
    clear hb
    go_wp2_with fail
    go_ret2
    exact ⟨rfl, HB.out⟩
theorem rtrim_all {A : Option Addr} {xs : List Int} {n c : Nat} {w : World} (hr : Rd w w.heap.size A xs) (hx : Byt xs) (hl : xs.length = n) (hc : n ≤ c) : Calls Tryd.prog 9 #[.slice A n c] w (TrimIs (trimN xs) (.int .i64 (trimE xs)) w) := by
  rw [trimN_is, trimE_is]
  exact rtrim_step (rto_all hr hx hl hc)
end Go.Proofs.YtcoaogfebfbemaaDoor
