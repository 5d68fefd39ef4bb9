/-
  A row of 32-bit numbers in memory that is sorted: cmp.Less, insertionSortOrdered, reverseRangeOrdered.
-/
import Derived.Test.YtmoagooabmmmgaaCelB
import Derived.Test.YtmoagooabmmmgaaSoMath
import Derived.BigQuiet
import Derived.Deep.QuietTactic
namespace Go.Proofs.Ytmoagooabmmmgaa
open Go.RowKit

/-- The first n cells of block g, of C cells, are the numbers D. -/
structure Ar (w : World) (g n C : Nat) (D : Nat → Nat) : Prop where
  ex : ∃ cs, Blk w g 29 cs ∧ cs.length = C ∧ ∀ i, i < n → cs[i]? = some (.int .u32 (D i : Int))
  le : n ≤ C
namespace Ar
variable {w w' : World} {g n C : Nat} {D : Nat → Nat}
theorem get (h : Ar w g n C D) (i : Nat) (hi : i < n) : w.cell? ⟨g, i, none⟩ = some (.int .u32 (D i : Int)) := by
  obtain ⟨cs, hB, _, hc⟩ := h.ex
  exact hB.at (hc i hi)
theorem free (h : Ar w g n C D) (i : Nat) : w.frozen? ⟨g, i, none⟩ = false := by
  obtain ⟨cs, hB, _, _⟩ := h.ex
  exact hB.free i
theorem keep {F : Nat → Prop} (h : Ar w g n C D) (hk : Kept F w w') (hn : ¬ F g) : Ar w' g n C D := by
  obtain ⟨cs, hB, h1⟩ := h.ex
  exact ⟨⟨cs, hk.blk hB hn, h1⟩, h.le⟩
theorem up (h : Ar w g n C D) (hb : Below w.heap.size w w') : Ar w' g n C D := h.keep (F := fun _ => False) (Kept.of_below hb) id
theorem drewN (h : Ar w g n C D) (k : Nat) : Ar (w.drewN k) g n C D := ⟨h.ex, h.le⟩
theorem drew (h : Ar w g n C D) : Ar w.drew g n C D := ⟨h.ex, h.le⟩
theorem lt (h : Ar w g n C D) : g < w.heap.size := by
  obtain ⟨cs, hB, _⟩ := h.ex
  exact lt_of_block hB
theorem swap (h : Ar w g n C D) {i j : Nat} (hi : i < n) (hj : j < n) : Ar ((w.setCell ⟨g, i, none⟩ (.int .u32 (D j : Int))).setCell ⟨g, j, none⟩ (.int .u32 (D i : Int))) g n C (swp D i j) := by
  obtain ⟨cs, hB, hl, hc⟩ := h.ex
  refine ⟨⟨_, (hB.put i _).put j _, by simp [hl], fun k hk => ?_⟩, h.le⟩
  by_cases e : k = j
  · subst e
    rw [swp_r]
    by_cases e2 : i = k
    · subst e2
      exact set_at (set_at (hc i hi))
    · exact set_at (x := .int .u32 (D k : Int)) (by rw [set_off e2]; exact hc k hk)
  · rw [set_off (fun h => e h.symm)]
    by_cases e2 : k = i
    · subst e2
      rw [swp_l]
      exact set_at (hc k hk)
    · rw [set_off (fun h => e2 h.symm), swp_o e2 e]
      exact hc k hk
end Ar
theorem kept_put2 {a w : World} {g : Nat} (h : Kept (fun k => k = g) a w) (x y : Nat) (u v : Value) : Kept (fun k => k = g) a ((w.setCell ⟨g, x, none⟩ u).setCell ⟨g, y, none⟩ v) := (h.put (.inl rfl) x u).put (.inl rfl) y v
theorem kept_drewN {F : Nat → Prop} {a b : World} (h : Kept F a b) (n : Nat) : Kept F a (b.drewN n) := ⟨h.os, h.tape, h.output, h.size, h.block⟩
/-- Behind a call: the numbers from a to b in another order, of which Q tells. -/
def SoTo (g n C a b : Nat) (D : Nat → Nat) (Q : (Nat → Nat) → Prop) (w w' : World) : Prop := ∃ E, Ar w' g n C E ∧ Pm a b D E ∧ Q E ∧ Kept (fun k => k = g) w w'
theorem soNaN_at (x : Nat) (w : World) : Calls Try.prog 72 #[.int .u32 (x : Int)] w (BoolIs false w) := by
  have q : ((x : Int) != (x : Int)) = false := by simp
  go_enter Try.func72, Try.ntmps72
  go_wp2_with fail
  go_ret
  exact ⟨rfl, rfl⟩
theorem soLess_at (x y : Nat) (w : World) : Calls Try.prog 62 #[.int .u32 (x : Int), .int .u32 (y : Int)] w (BoolIs (decide (x < y)) w) := by
  go_enter Try.func62, Try.ntmps62
  go_wp2_with fail
  refine (soNaN_at x w).mono ?_
  rintro r w' ⟨rfl, rfl⟩
  go_wp2_with fail
  go_ret
  exact ⟨rfl, rfl⟩
theorem soLess_is {x y : Nat} {b : Bool} (h : decide (x < y) = b) (w : World) : Calls Try.prog 62 #[.int .u32 (x : Int), .int .u32 (y : Int)] w (fun r w' => r = .returned (.bool b) ∧ w' = w) := by
  subst h
  exact (soLess_at x y w).mono fun _ _ h => ⟨h.1, h.2.symm⟩
theorem Srt.one (a : Nat) (D : Nat → Nat) : Srt a (a + 1) D := fun i j h1 h2 h3 => by omega
theorem Srt.left {a b b' : Nat} {D : Nat → Nat} (h : Srt a b D) (hb : b' ≤ b) : Srt a b' D := fun i j h1 h2 h3 => h i j h1 h2 (by omega)
set_option maxHeartbeats 2000000 in
theorem soIns_at (g n C cap a b : Nat) (D : Nat → Nat) (w : World) (h : Ar w g n C D) (hb : b ≤ n) (hn : n ≤ 100000) (hc : n ≤ cap) (hab : a ≤ b) : Calls Try.prog 56 #[.slice (some ⟨g, 0, none⟩) n cap, .int .i64 (a : Int), .int .i64 (b : Int)] w (fun r w' => r = .returned (.tuple #[]) ∧ SoTo g n C a b D (Srt a b) w w') := by
  have HA := Lib.hid h
  clear h
  go_enter Try.func56, Try.ntmps56
  go_wp2_with fail
  go_loopg [6] (b - (a + 1)) (fun q x wr => ∃ (i : Nat) (E : Nat → Nat), x = .int .i64 (i : Int) ∧ a + 1 ≤ i ∧ i ≤ b + 1 ∧ q = b - i ∧ Ar wr g n C E ∧ Pm a b D E ∧ Srt a i E ∧ Kept (fun k => k = g) w wr)
  case atStart => exact ⟨a + 1, D, by go_num, Nat.le_refl _, by omega, rfl, HA.out, Pm.refl _ _ _, Srt.one _ _, Kept.refl _ _⟩
  case round =>
    clear HA
    obtain ⟨i, E, rfl, hi, hib, hq, hA, hP, hS, hK⟩ := hrel
    have HQ := Lib.hid hq
    have HA := Lib.hid hA
    have HP := Lib.hid hP
    have HS := Lib.hid hS
    have HK := Lib.hid hK
    clear hq hA hP hS hK
    by_cases hlt : i < b
    · go_wp2_with fail
      go_loopg [7] i (fun q y w2 => ∃ (j : Nat) (F : Nat → Nat), y = .int .i64 (j : Int) ∧ a ≤ j ∧ j ≤ i ∧ q = j ∧ Ar w2 g n C F ∧ Pm a b D F ∧ InsI F a i j ∧ Kept (fun k => k = g) w w2)
      case atStart => exact ⟨i, E, rfl, by omega, Nat.le_refl _, rfl, HA.out, HP.out, InsI.start HS.out, HK.out⟩
      case round =>
        clear HA HP HS HK
        obtain ⟨j, F, rfl, haj, hji, rfl, hA, hP, hI, hK⟩ := hrel
        have HA := Lib.hid hA
        have HP := Lib.hid hP
        have HI := Lib.hid hI
        have HK := Lib.hid hK
        clear hA hP hI hK
        by_cases hj : a < gk
        · obtain ⟨t, rfl⟩ : ∃ t, gk = t + 1 := ⟨gk - 1, by omega⟩
          have c0 := HA.out.get (t + 1) (by omega)
          have c1 := HA.out.get t (by omega)
          have e1 : ((t + 1 : Nat) : Int) = (t : Int) + 1 := by omega
          have e2 : (t : Int) + 1 - 1 = (t : Int) := by omega
          cases hd : decide (F (t + 1) < F t) with
          | true =>
            have HL := Lib.hid (fun w => soLess_is hd w)
            have HSW := Lib.hid (fun k => (HA.out.drewN k).swap (i := t + 1) (j := t) (by omega) (by omega))
            have HI2 : Hid (InsI (swp F (t + 1) t) a i t) := Lib.hid (by have := HI.out.step hj hji (by simpa using hd); simpa using this)
            have HP2 : Hid (Pm a b D (swp F (t + 1) t)) := Lib.hid (HP.out.trans (Pm.swap (by omega) (by omega)))
            have HK2 := Lib.hid (fun k => kept_put2 (kept_drewN HK.out k) (t + 1) t (.int .u32 (F t : Int)) (.int .u32 (F (t + 1) : Int)))
            have f0 := HA.out.free (t + 1)
            have f1 := HA.out.free t
            have d0 : (t : Int) < (n : Int) := by omega
            have d1 : (t : Int) + 1 < (n : Int) := by omega
            have d2 : (a : Int) < (t : Int) + 1 := by omega
            clear hd HI HP HK HA
            go_wp2_with fail
            go_quiet (first | (go_at_call 62; exact Calls.quiet_of_same (HL.out _)))
            go_wp2_with fail
            go_region
            go_wp2_with fail
            go_roundg t
            case rel => exact ⟨t, swp F (t + 1) t, by go_num, by omega, by omega, rfl, HSW.out _, HP2.out, HI2.out, HK2.out _⟩
            case measure => omega
          | false =>
            have HL := Lib.hid (fun w => soLess_is hd w)
            have HS2 : Hid (Srt a (i + 1) F) := Lib.hid (HI.out.done haj (.inr (by simpa using hd)))
            have d0 : (t : Int) < (n : Int) := by omega
            have d1 : (t : Int) + 1 < (n : Int) := by omega
            have d2 : (a : Int) < (t : Int) + 1 := by omega
            clear hd HI
            go_wp2_with fail
            go_quiet (first | (go_at_call 62; exact Calls.quiet_of_same (HL.out _)))
            go_wp2_with fail
            go_roundg (b - (i + 1))
            case rel => exact ⟨i + 1, F, by go_num, by omega, by omega, rfl, HA.out.drewN _, HP.out, HS2.out, kept_drewN HK.out _⟩
            case measure => have := HQ.out; omega
        · have HS2 : Hid (Srt a (i + 1) F) := Lib.hid (HI.out.done haj (.inl (by omega)))
          have d2 : decide ((a : Int) < (gk : Int)) = false := by simp; omega
          clear HI
          go_wp2_with fail
          go_quiet (fail)
          go_wp2_with fail
          go_roundg (b - (i + 1))
          case rel => exact ⟨i + 1, F, by go_num, by omega, by omega, rfl, HA.out.drewN _, HP.out, HS2.out, kept_drewN HK.out _⟩
          case measure => have := HQ.out; omega
    · go_wp2_with fail
      go_end0
      exact ⟨rfl, E, HA.out, HP.out, Srt.left HS.out (by omega), HK.out⟩
end Go.Proofs.Ytmoagooabmmmgaa
