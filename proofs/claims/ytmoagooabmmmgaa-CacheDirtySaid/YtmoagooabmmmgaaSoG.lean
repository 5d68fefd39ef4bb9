/-
  A row of 32-bit numbers that is sorted: order2Ordered, medianOrdered, medianAdjacentOrdered, choosePivotOrdered.
-/
import Derived.Test.YtmoagooabmmmgaaSoE
namespace Go.Proofs.Ytmoagooabmmmgaa
open Go.RowKit

/-- The counter of swaps. -/
def Sw (w : World) (sb s : Nat) : Prop := Blk w sb 3 [.int .i64 (s : Int)]
def Ord2To (sb s x y : Nat) (w : World) (r : Ending) (w' : World) : Prop := ∃ u v s' : Nat, r = .returned (.tuple #[.int .i64 (u : Int), .int .i64 (v : Int)]) ∧ ((u = x ∧ v = y) ∨ (u = y ∧ v = x)) ∧ Sw w' sb s' ∧ s' ≤ s + 1 ∧ Kept (fun k => k = sb) w w'
theorem soOrd2_at (g n C cap x y sb s : Nat) (D : Nat → Nat) (w : World) (h : Ar w g n C D) (hs : Sw w sb s) (hn : n ≤ 100000) (hc : n ≤ cap) (hx : x < n) (hy : y < n) (hs1 : s ≤ 1000) : Calls Try.prog 73 #[.slice (some ⟨g, 0, none⟩) n cap, .int .i64 (x : Int), .int .i64 (y : Int), .pointer (some ⟨sb, 0, none⟩)] w (Ord2To sb s x y w) := by
  have c0 := h.get x hx
  have c1 := h.get y hy
  have d0 : (x : Int) < (n : Int) := by omega
  have d1 : (y : Int) < (n : Int) := by omega
  have cs := hs.cell 0 (by simp)
  have fs := hs.free 0
  simp only [List.getElem_cons_zero] at cs
  cases hd : decide (D y < D x) with
  | false =>
    have HL := Lib.hid (fun w => soLess_is hd w)
    have HE : Hid (∀ k, Ord2To sb s x y w (.returned (.tuple #[.int .i64 (x : Int), .int .i64 (y : Int)])) (w.drewN k)) := Lib.hid (fun k => ⟨x, y, s, rfl, .inl ⟨rfl, rfl⟩, hs, by omega, kept_drewN (Kept.refl _ _) k⟩)
    clear hd hs h
    go_enter Try.func73, Try.ntmps73
    go_wp2_with fail
    go_quiet (first | (go_at_call 62; first | exact Calls.quiet_of_same (HL.out _) | exact (HL.out _).mono fun _ _ h => ⟨h.1, _, h.2⟩))
    go_wp2_with fail
    go_ret2
    exact HE.out _
  | true =>
    have HL := Lib.hid (fun w => soLess_is hd w)
    have HE : Hid (∀ k, Ord2To sb s x y w (.returned (.tuple #[.int .i64 (y : Int), .int .i64 (x : Int)])) ((w.drewN k).setCell ⟨sb, 0, none⟩ (.int .i64 ((s : Int) + 1)))) := Lib.hid (fun k => ⟨y, x, s + 1, rfl, .inr ⟨rfl, rfl⟩, by
      have : Blk (w.drewN k) sb 3 [.int .i64 (s : Int)] := hs
      exact this.put 0 _, Nat.le_refl _, (kept_drewN (Kept.refl (fun k => k = sb) w) k).put (.inl rfl) 0 _⟩)
    clear hd hs h
    go_enter Try.func73, Try.ntmps73
    go_wp2_with fail
    go_quiet (first | (go_at_call 62; first | exact Calls.quiet_of_same (HL.out _) | exact (HL.out _).mono fun _ _ h => ⟨h.1, _, h.2⟩))
    go_wp2_with fail
    go_ret2
    exact HE.out _
theorem soMed_at (g n C cap x y z sb s : Nat) (D : Nat → Nat) (w : World) (h : Ar w g n C D) (hs : Sw w sb s) (hne : sb ≠ g) (hn : n ≤ 100000) (hc : n ≤ cap) (hx : x < n) (hy : y < n) (hz : z < n) (hs1 : s ≤ 100) : Calls Try.prog 71 #[.slice (some ⟨g, 0, none⟩) n cap, .int .i64 (x : Int), .int .i64 (y : Int), .int .i64 (z : Int), .pointer (some ⟨sb, 0, none⟩)] w (fun r w' => ∃ m s' : Nat, r = .returned (.int .i64 (m : Int)) ∧ (m = x ∨ m = y ∨ m = z) ∧ Sw w' sb s' ∧ s' ≤ s + 3 ∧ Kept (fun k => k = sb) w w') := by
  have HA := Lib.hid h
  have HS := Lib.hid hs
  have HNE : Hid (sb ≠ g) := Lib.hid hne
  clear h hs hne
  go_enter Try.func71, Try.ntmps71
  go_wp2_with fail
  refine (soOrd2_at g n C cap x y sb s D w HA.out HS.out hn hc hx hy (by omega)).mono ?_
  rintro r w1 ⟨u, v, s1, rfl, huv, hsw, hss, hk⟩
  have HA1 := Lib.hid (HA.out.keep hk (fun e => HNE.out e.symm))
  have HS1 := Lib.hid hsw
  have HK1 := Lib.hid hk
  clear hsw hk
  go_wp2_with fail
  refine (soOrd2_at g n C cap v z sb s1 D w1 HA1.out HS1.out hn hc (by omega) hz (by omega)).mono ?_
  rintro r w2 ⟨u2, v2, s2, rfl, huv2, hsw, hss2, hk⟩
  have HA2 := Lib.hid (HA1.out.keep hk (fun e => HNE.out e.symm))
  have HS2 := Lib.hid hsw
  have HK2 := Lib.hid (HK1.out.and hk)
  clear hsw hk
  go_wp2_with fail
  refine (soOrd2_at g n C cap u u2 sb s2 D w2 HA2.out HS2.out hn hc (by omega) (by omega) (by omega)).mono ?_
  rintro r w3 ⟨u3, v3, s3, rfl, huv3, hsw, hss3, hk⟩
  have HS3 := Lib.hid hsw
  have HK3 := Lib.hid (HK2.out.and hk)
  have HO : Hid (v3 = x ∨ v3 = y ∨ v3 = z) := Lib.hid (by omega)
  have HB : Hid (s3 ≤ s + 3) := Lib.hid (by omega)
  clear hsw hk huv huv2 huv3
  go_wp2_with fail
  go_ret
  exact ⟨v3, s3, rfl, HO.out, HS3.out, HB.out, HK3.out⟩
theorem soMedAdj_at (g n C cap x sb s : Nat) (D : Nat → Nat) (w : World) (h : Ar w g n C D) (hs : Sw w sb s) (hne : sb ≠ g) (hn : n ≤ 100000) (hc : n ≤ cap) (hx1 : 1 ≤ x) (hx : x + 1 < n) (hs1 : s ≤ 100) : Calls Try.prog 70 #[.slice (some ⟨g, 0, none⟩) n cap, .int .i64 (x : Int), .pointer (some ⟨sb, 0, none⟩)] w (fun r w' => ∃ m s' : Nat, r = .returned (.int .i64 (m : Int)) ∧ x ≤ m + 1 ∧ m ≤ x + 1 ∧ Sw w' sb s' ∧ s' ≤ s + 3 ∧ Kept (fun k => k = sb) w w') := by
  obtain ⟨t, rfl⟩ : ∃ t, x = t + 1 := ⟨x - 1, by omega⟩
  have e1 : ((t + 1 : Nat) : Int) = (t : Int) + 1 := by omega
  have e2 : (t : Int) + 1 - 1 = (t : Int) := by omega
  have HM : Hid (Calls Try.prog 71 #[.slice (some ⟨g, 0, none⟩) n cap, .int .i64 (t : Int), .int .i64 ((t : Int) + 1), .int .i64 ((t : Int) + 1 + 1), .pointer (some ⟨sb, 0, none⟩)] w _) := Lib.hid (soMed_at g n C cap t (t + 1) (t + 1 + 1) sb s D w h hs hne hn hc (by omega) (by omega) (by omega) hs1)
  rw [e1]
  clear h hs e1
  go_enter Try.func70, Try.ntmps70
  go_wp2_with fail
  refine HM.out.mono ?_
  rintro r w1 ⟨m, s1, rfl, hm, hsw, hss, hk⟩
  have HR := Lib.hid (And.intro hsw hk)
  have hm1 : t + 1 ≤ m + 1 ∧ m ≤ t + 1 + 1 := by omega
  clear hsw hk hm
  go_wp2_with fail
  go_ret
  exact ⟨m, s1, rfl, hm1.1, hm1.2, HR.out.1, hss, HR.out.2⟩
def PivTo (a b : Nat) (w : World) (r : Ending) (w' : World) : Prop := ∃ (p : Nat) (hint : Int), r = .returned (.tuple #[.int .i64 (p : Int), .int .i64 hint]) ∧ a ≤ p ∧ p < b ∧ Below w.heap.size w w'
set_option maxHeartbeats 2000000 in
theorem soPivot_at (g n C cap a H : Nat) (D : Nat → Nat) (w : World) (h : Ar w g n C D) (hn : n ≤ 100000) (hc : n ≤ cap) (hb : a + H ≤ n) (hH : 8 ≤ H) : Calls Try.prog 59 #[.slice (some ⟨g, 0, none⟩) n cap, .int .i64 (a : Int), .int .i64 ((a + H : Nat) : Int)] w (PivTo a (a + H) w) := by
  have e1 : ((a + H : Nat) : Int) = (a : Int) + (H : Int) := by omega
  have e5 : (a : Int) + (H : Int) - (a : Int) = (H : Int) := by omega
  obtain ⟨Q, hQ⟩ : ∃ Q : Nat, H / 4 = Q := ⟨_, rfl⟩
  obtain ⟨i0, hi0⟩ : ∃ i0 : Nat, a + Q = i0 := ⟨_, rfl⟩
  obtain ⟨R2, hR2⟩ : ∃ R : Nat, Q * 2 = R := ⟨_, rfl⟩
  obtain ⟨R3, hR3⟩ : ∃ R : Nat, Q * 3 = R := ⟨_, rfl⟩
  obtain ⟨j0, hj0⟩ : ∃ j0 : Nat, a + R2 = j0 := ⟨_, rfl⟩
  obtain ⟨k0, hk0⟩ : ∃ k0 : Nat, a + R3 = k0 := ⟨_, rfl⟩
  have q1 : (H : Int) / 4 = (Q : Int) := by omega
  have q2 : (Q : Int) * 2 = (R2 : Int) := by omega
  have q3 : (Q : Int) * 3 = (R3 : Int) := by omega
  have q4 : (a : Int) + (Q : Int) = (i0 : Int) := by omega
  have q5 : (a : Int) + (R2 : Int) = (j0 : Int) := by omega
  have q6 : (a : Int) + (R3 : Int) = (k0 : Int) := by omega
  have v1 : IntKind.i64.wrap (Q : Int) = (Q : Int) := IntWalk.i64_in _ (by omega)
  have v2 : IntKind.i64.wrap (R2 : Int) = (R2 : Int) := IntWalk.i64_in _ (by omega)
  have v3 : IntKind.i64.wrap (R3 : Int) = (R3 : Int) := IntWalk.i64_in _ (by omega)
  have v4 : IntKind.i64.wrap (i0 : Int) = (i0 : Int) := IntWalk.i64_in _ (by omega)
  have v5 : IntKind.i64.wrap (j0 : Int) = (j0 : Int) := IntWalk.i64_in _ (by omega)
  have v6 : IntKind.i64.wrap (k0 : Int) = (k0 : Int) := IntWalk.i64_in _ (by omega)
  rw [e1]
  clear e1
  obtain ⟨sb, hsb⟩ : ∃ sb, w.heap.size = sb := ⟨_, rfl⟩
  obtain ⟨wv0, hwa⟩ : ∃ wa, w.alloc (.cells #[.int .i64 0] 3) = wa := ⟨_, rfl⟩
  have hbe : Below w.heap.size w wv0 := by rw [← hwa]; exact (Below.refl _ _).alloc (Nat.le_refl _) _
  have HA0 := Lib.hid (h.up hbe)
  have HK0 : Hid (Kept (fun _ => False) w wv0) := Lib.hid (Kept.of_below hbe)
  obtain ⟨s0, hs0⟩ : ∃ s0 : Nat, s0 = 0 := ⟨0, rfl⟩
  have HS0 : Hid (Sw wv0 sb s0) := Lib.hid (by rw [← hwa, ← hsb, hs0]; exact heap_alloc_new w _)
  have HNE : Hid (sb ≠ g) := Lib.hid (by have := h.lt; omega)
  have HSB : Hid (w.heap.size ≤ sb) := Lib.hid (by omega)
  have hs0' : s0 ≤ 0 := by omega
  clear h hbe hs0
  go_enter Try.func59, Try.ntmps59
  by_cases h50 : 50 ≤ H
  · have hg : (50 : Int) ≤ (H : Int) := by omega
    go_wp2_with fail
    refine (soMedAdj_at g n C cap i0 sb s0 D wv0 HA0.out HS0.out HNE.out hn hc (by omega) (by omega) (by omega)).mono ?_
    rintro r wv1 ⟨i, s1, rfl, il, iu, hs, hss, hk⟩
    have HA1 := Lib.hid (HA0.out.keep hk (fun e => HNE.out e.symm))
    have HS1 := Lib.hid hs
    have HK1 := Lib.hid (HK0.out.new HSB.out hk)
    clear hs hk
    go_wp2_with fail
    refine (soMedAdj_at g n C cap j0 sb s1 D wv1 HA1.out HS1.out HNE.out hn hc (by omega) (by omega) (by omega)).mono ?_
    rintro r wv2 ⟨j, s2, rfl, jl, ju, hs, hss, hk⟩
    have HA2 := Lib.hid (HA1.out.keep hk (fun e => HNE.out e.symm))
    have HS2 := Lib.hid hs
    have HK2 := Lib.hid (HK1.out.new HSB.out hk)
    clear hs hk
    go_wp2_with fail
    refine (soMedAdj_at g n C cap k0 sb s2 D wv2 HA2.out HS2.out HNE.out hn hc (by omega) (by omega) (by omega)).mono ?_
    rintro r wv3 ⟨k, s3, rfl, kl, ku, hs, hss, hk⟩
    have HA3 := Lib.hid (HA2.out.keep hk (fun e => HNE.out e.symm))
    have HS3 := Lib.hid hs
    have HK3 := Lib.hid (HK2.out.new HSB.out hk)
    clear hs hk
    go_wp2_with fail
    refine (soMed_at g n C cap i j k sb s3 D wv3 HA3.out HS3.out HNE.out hn hc (by omega) (by omega) (by omega) (by omega)).mono ?_
    rintro r wz ⟨m, s, rfl, hm, hs, hss, hk⟩
    have hmb : a ≤ m ∧ m < a + H := by omega
    have HKz := Lib.hid (HK3.out.new HSB.out hk)
    have cz := hs.cell 0 (by simp)
    simp only [List.getElem_cons_zero] at cz
    have HE : Hid (∀ hint : Int, PivTo a (a + H) w (.returned (.tuple #[.int .i64 (m : Int), .int .i64 hint])) wz) := Lib.hid (fun hint => ⟨m, hint, rfl, hmb.1, hmb.2, HKz.out.below (Nat.le_refl _) (fun k hk => hk.elim)⟩)
    clear hs hk hm hmb
    by_cases h0 : s = 0
    · subst h0
      go_wp2_with fail
      go_ret2
      exact HE.out _
    · by_cases h12 : s = 12
      · subst h12
        go_wp2_with fail
        go_ret2
        exact HE.out _
      · have q0 : ((s : Int) == 0) = false := by simp; omega
        have q12 : ((s : Int) == 12) = false := by simp; omega
        go_wp2_with fail
        go_ret2
        exact HE.out _
  · have hg : ¬ ((50 : Int) ≤ (H : Int)) := by omega
    obtain ⟨i, hi⟩ : ∃ i, i0 = i := ⟨_, rfl⟩
    obtain ⟨j, hj⟩ : ∃ j, j0 = j := ⟨_, rfl⟩
    obtain ⟨k, hk⟩ : ∃ k, k0 = k := ⟨_, rfl⟩
    subst hi hj hk
    go_wp2_with fail
    refine (soMed_at g n C cap i0 j0 k0 sb s0 D wv0 HA0.out HS0.out HNE.out hn hc (by omega) (by omega) (by omega) (by omega)).mono ?_
    rintro r wz ⟨m, s, rfl, hm, hs, hss, hk⟩
    have hmb : a ≤ m ∧ m < a + H := by omega
    have HKz := Lib.hid (HK0.out.new HSB.out hk)
    have cz := hs.cell 0 (by simp)
    simp only [List.getElem_cons_zero] at cz
    have HE : Hid (∀ hint : Int, PivTo a (a + H) w (.returned (.tuple #[.int .i64 (m : Int), .int .i64 hint])) wz) := Lib.hid (fun hint => ⟨m, hint, rfl, hmb.1, hmb.2, HKz.out.below (Nat.le_refl _) (fun k hk => hk.elim)⟩)
    clear hs hk hm hmb
    by_cases h0 : s = 0
    · subst h0
      go_wp2_with fail
      go_ret2
      exact HE.out _
    · by_cases h12 : s = 12
      · subst h12
        go_wp2_with fail
        go_ret2
        exact HE.out _
      · have q0 : ((s : Int) == 0) = false := by simp; omega
        have q12 : ((s : Int) == 12) = false := by simp; omega
        go_wp2_with fail
        go_ret2
        exact HE.out _
end Go.Proofs.Ytmoagooabmmmgaa
