/-
  The document's Tables, Bound, Right, Of, At. (GeoB to GeoF upon CelB.)
-/
import Derived.Test.YtajccmkdfmpapaaDoorGvE
namespace Go.Proofs.YtajccmkdfmpapaaDoor
open Go.RowKit

theorem rtables_is (n : Int) (w : World) (h : 0 ≤ n) (h2 : n ≤ 9223372036854775807) : Calls Tryd.prog 44 #[.int .i64 n] w (IntIs (tab n) w) := by
  have HT := Lib.hid (tab_ref h)
  go_enter Tryd.func44, Tryd.ntmps44
  go_wp2
  all_goals (go_ret; exact ⟨ret_int (by rw [HT.out]; split <;> omega), rfl⟩)
theorem rbound_out (z p : Int) (w : World) (hi : insB z p = false) : Calls Tryd.prog 35 #[.int .i64 z, .int .i64 p] w (IntIs (bnd z p) w) := by
  rw [bnd_out hi]
  have ho : ¬ (11 ≤ z ∧ z ≤ 24 ∧ 4 ≤ p ∧ p ≤ 16) := fun h => by
    have := insB_iff.2 h
    rw [this] at hi
    cases hi
  clear hi
  by_cases h1 : z < 11
  · clear ho
    go_enter Tryd.func35, Tryd.ntmps35
    go_wp2_with fail
    go_ret
    exact ⟨rfl, rfl⟩
  · by_cases h2 : 24 < z
    · clear ho
      go_enter Tryd.func35, Tryd.ntmps35
      go_wp2_with fail
      go_ret
      exact ⟨rfl, rfl⟩
    · by_cases h3 : p < 4
      · clear ho
        go_enter Tryd.func35, Tryd.ntmps35
        go_wp2_with fail
        go_ret
        exact ⟨rfl, rfl⟩
      · have h4 : 16 < p := by omega
        clear ho
        go_enter Tryd.func35, Tryd.ntmps35
        go_wp2_with fail
        go_ret
        exact ⟨rfl, rfl⟩
theorem bndN_up {z p : Int} {k : Nat} (h : roomB z p ((k : Int) + 1) = true) : bndN z p (k + 1) = (k : Int) + 1 := by
  unfold bndN
  rw [if_pos h]
theorem bndN_stay {z p : Int} {k : Nat} (h : roomB z p ((k : Int) + 1) = false) : bndN z p (k + 1) = bndN z p k := by
  conv => lhs; unfold bndN
  rw [if_neg (by simp [h])]
theorem roomB_parts (z p n : Int) : roomB z p n = (decide (tab n ≤ p) && decide (2 * (n + tab n) ≤ (z - 7) * p)) := by
  unfold roomB
  rw [Bool.eq_iff_iff]
  simp
set_option maxHeartbeats 1000000 in
theorem rbound_in (z p : Int) (w : World) (hi : insB z p = true) : Calls Tryd.prog 35 #[.int .i64 z, .int .i64 p] w (IntIs (bndN z p 64) w) := by
  obtain ⟨g1, g2, g3, g4⟩ := insB_iff.1 hi
  obtain ⟨hb1, hb2⟩ := zp_bd hi
  clear hi
  go_enter Tryd.func35, Tryd.ntmps35
  go_wp2_with fail
  go_loop [5, 6] (fun m i => ∃ k : Nat, k ≤ 64 ∧ i = .int .i64 ((k : Int) + 1) ∧ m = .int .i64 (bndN z p k)) (fun _ i => 66 - (intOf i).toNat)
  case atStart => exact ⟨0, by omega, rfl, rfl⟩
  case round =>
    obtain ⟨k, hk, rfl, rfl⟩ := hrel
    by_cases hlt : k < 64
    · have ht := tab_le (n := (k : Int) + 1) (by omega) (by omega)
      obtain ⟨ht1, ht2⟩ := ht
      by_cases hc : tab ((k : Int) + 1) ≤ p
      · by_cases hd : 2 * (((k : Int) + 1) + tab ((k : Int) + 1)) ≤ (z - 7) * p
        · have HN : Hid (bndN z p (k + 1) = (k : Int) + 1) := Lib.hid (bndN_up (by rw [roomB_parts]; simp; exact ⟨hc, hd⟩))
          go_wp2_with (go_at_call 44; (with_reducible refine (rtables_is _ _ ?_ ?_).mono ?_); omega; omega; rintro r w' ⟨rfl, rfl⟩)
          go_round
          case rel => exact ⟨k + 1, by omega, by go_num, by rw [HN.out]⟩
          case measure => simp [intOf]; omega
        · have hd' : decide (2 * (((k : Int) + 1) + tab ((k : Int) + 1)) ≤ (z - 7) * p) = false := by simpa using hd
          have HN : Hid (bndN z p (k + 1) = bndN z p k) := Lib.hid (bndN_stay (by rw [roomB_parts, hd']; simp))
          go_wp2_with (go_at_call 44; (with_reducible refine (rtables_is _ _ ?_ ?_).mono ?_); omega; omega; rintro r w' ⟨rfl, rfl⟩)
          go_round
          case rel => exact ⟨k + 1, by omega, by go_num, by rw [HN.out]⟩
          case measure => simp [intOf]; omega
      · have hd' : decide (tab ((k : Int) + 1) ≤ p) = false := by simpa using hc
        have HN : Hid (bndN z p (k + 1) = bndN z p k) := Lib.hid (bndN_stay (by rw [roomB_parts, hd']; simp))
        go_wp2_with (go_at_call 44; (with_reducible refine (rtables_is _ _ ?_ ?_).mono ?_); omega; omega; rintro r w' ⟨rfl, rfl⟩)
        go_round
        case rel => exact ⟨k + 1, by omega, by go_num, by rw [HN.out]⟩
        case measure => simp [intOf]; omega
    · obtain rfl : k = 64 := by omega
      go_wp2_with fail
      go_ret
      exact ⟨rfl, rfl⟩
theorem rbound_is (z p : Int) (w : World) : Calls Tryd.prog 35 #[.int .i64 z, .int .i64 p] w (IntIs (bnd z p) w) := by
  by_cases hi : insB z p = true
  · rw [bnd_in hi]
    exact rbound_in z p w hi
  · exact rbound_out z p w (by simpa using hi)
theorem rright_lo (z p b : Int) (w : World) (h : ¬ 1 ≤ b) : Calls Tryd.prog 24 #[.agg #[.int .i64 z, .int .i64 p, .int .i64 b]] w (BoolB (rightB z p b) w) := by
  have HE : Hid (rightB z p b = false) := Lib.hid (by unfold rightB; simp; omega)
  have hd : decide (1 ≤ b) = false := by simpa using h
  go_enter Tryd.func24, Tryd.ntmps24
  go_wp2_with fail
  go_quiet (fail)
  go_wp2_with fail
  go_ret
  exact ⟨ret_bool HE.out.symm, below_drewN ((Below.refl _ _).alloc (Nat.le_refl _) _) _⟩
theorem rright_hi (z p b : Int) (w : World) (h : 1 ≤ b) : Calls Tryd.prog 24 #[.agg #[.int .i64 z, .int .i64 p, .int .i64 b]] w (BoolB (rightB z p b) w) := by
  have HE : Hid (rightB z p b = decide (b ≤ bnd z p)) := Lib.hid (by unfold rightB; rw [Bool.eq_iff_iff]; simp; omega)
  go_enter Tryd.func24, Tryd.ntmps24
  go_wp2_with fail
  go_quiet (first | (go_at_call 35; exact Calls.quiet_of_same ((rbound_is _ _ _).mono fun _ _ h => ⟨h.1, h.2.symm⟩)))
  go_wp2_with fail
  go_ret
  exact ⟨ret_bool HE.out.symm, below_drewN ((Below.refl _ _).alloc (Nat.le_refl _) _) _⟩
theorem rright_is (z p b : Int) (w : World) : Calls Tryd.prog 24 #[.agg #[.int .i64 z, .int .i64 p, .int .i64 b]] w (BoolB (rightB z p b) w) := by
  by_cases h : 1 ≤ b
  · exact rright_hi z p b w h
  · exact rright_lo z p b w h
theorem rof_a (z p b zone page : Int) (w : World) (g1 : 11 ≤ z) (g2 : z ≤ 24) (g3 : 4 ≤ p) (g4 : p ≤ 16) (h1 : zone < 0) : Calls Tryd.prog 32 #[.agg #[.int .i64 z, .int .i64 p, .int .i64 b], .int .i64 zone, .int .i64 page] w (U32B (ofI z p zone page) w) := by
  have HE : Hid (ofI z p zone page = 0) := Lib.hid (by unfold ofI; rw [if_pos (by omega)])
  go_enter Tryd.func32, Tryd.ntmps32
  go_wp2_with fail
  go_ret
  exact ⟨ret_int HE.out.symm, below_box w (.cells #[.int .i64 z, .int .i64 p, .int .i64 b] 36)⟩
theorem rof_b (z p b zone page : Int) (w : World) (g1 : 11 ≤ z) (g2 : z ≤ 24) (g3 : 4 ≤ p) (g4 : p ≤ 16) (h1 : ¬ zone < 0) (h2 : z - 3 < zone) : Calls Tryd.prog 32 #[.agg #[.int .i64 z, .int .i64 p, .int .i64 b], .int .i64 zone, .int .i64 page] w (U32B (ofI z p zone page) w) := by
  have HE : Hid (ofI z p zone page = 0) := Lib.hid (by unfold ofI; rw [if_pos (by omega)])
  go_enter Tryd.func32, Tryd.ntmps32
  go_wp2_with fail
  go_ret
  exact ⟨ret_int HE.out.symm, below_box w (.cells #[.int .i64 z, .int .i64 p, .int .i64 b] 36)⟩
theorem rof_c (z p b zone page : Int) (w : World) (g1 : 11 ≤ z) (g2 : z ≤ 24) (g3 : 4 ≤ p) (g4 : p ≤ 16) (h1 : ¬ zone < 0) (h2 : ¬ z - 3 < zone) (h3 : page < 0) : Calls Tryd.prog 32 #[.agg #[.int .i64 z, .int .i64 p, .int .i64 b], .int .i64 zone, .int .i64 page] w (U32B (ofI z p zone page) w) := by
  have HE : Hid (ofI z p zone page = 0) := Lib.hid (by unfold ofI; rw [if_pos (by omega)])
  go_enter Tryd.func32, Tryd.ntmps32
  go_wp2_with fail
  go_ret
  exact ⟨ret_int HE.out.symm, below_box w (.cells #[.int .i64 z, .int .i64 p, .int .i64 b] 36)⟩
theorem rof_d (z p b zone page : Int) (w : World) (g1 : 11 ≤ z) (g2 : z ≤ 24) (g3 : 4 ≤ p) (g4 : p ≤ 16) (h1 : ¬ zone < 0) (h2 : ¬ z - 3 < zone) (h3 : ¬ page < 0) (h4 : p - 1 < page) : Calls Tryd.prog 32 #[.agg #[.int .i64 z, .int .i64 p, .int .i64 b], .int .i64 zone, .int .i64 page] w (U32B (ofI z p zone page) w) := by
  have HE : Hid (ofI z p zone page = 0) := Lib.hid (by unfold ofI; rw [if_pos (by omega)])
  go_enter Tryd.func32, Tryd.ntmps32
  go_wp2_with fail
  go_ret
  exact ⟨ret_int HE.out.symm, below_box w (.cells #[.int .i64 z, .int .i64 p, .int .i64 b] 36)⟩
theorem rof_e (z p b zone page : Int) (w : World) (g1 : 11 ≤ z) (g2 : z ≤ 24) (g3 : 4 ≤ p) (g4 : p ≤ 16) (h1 : ¬ zone < 0) (h2 : ¬ z - 3 < zone) (h3 : ¬ page < 0) (h4 : ¬ p - 1 < page) : Calls Tryd.prog 32 #[.agg #[.int .i64 z, .int .i64 p, .int .i64 b], .int .i64 zone, .int .i64 page] w (U32B (ofI z p zone page) w) := by
  obtain ⟨m1, m2, m3⟩ := mul_bd (z := z) (p := p) (zone := zone) (insB_iff.2 (by omega)) (by omega) (by omega)
  have HE : Hid (ofI z p zone page = zone * p + page + 1) := Lib.hid (by rw [ofI_in (by omega) (by omega) (by omega) (by omega)]; omega)
  go_enter Tryd.func32, Tryd.ntmps32
  go_wp2_with fail
  go_ret
  exact ⟨ret_int HE.out.symm, below_box w (.cells #[.int .i64 z, .int .i64 p, .int .i64 b] 36)⟩
theorem rof_is (z p b zone page : Int) (w : World) (hi : insB z p = true) : Calls Tryd.prog 32 #[.agg #[.int .i64 z, .int .i64 p, .int .i64 b], .int .i64 zone, .int .i64 page] w (U32B (ofI z p zone page) w) := by
  obtain ⟨g1, g2, g3, g4⟩ := insB_iff.1 hi
  by_cases h1 : zone < 0
  · exact rof_a z p b zone page w g1 g2 g3 g4 h1
  · by_cases h2 : z - 3 < zone
    · exact rof_b z p b zone page w g1 g2 g3 g4 h1 h2
    · by_cases h3 : page < 0
      · exact rof_c z p b zone page w g1 g2 g3 g4 h1 h2 h3
      · by_cases h4 : p - 1 < page
        · exact rof_d z p b zone page w g1 g2 g3 g4 h1 h2 h3 h4
        · exact rof_e z p b zone page w g1 g2 g3 g4 h1 h2 h3 h4
/-- Three cells of a box. -/
def Box (w : World) (B : Nat) (z p b : Int) : Prop := B < w.heap.size ∧ w.cell? ⟨B, 0, none⟩ = some (.int .i64 z) ∧ w.cell? ⟨B, 1, none⟩ = some (.int .i64 p) ∧ w.cell? ⟨B, 2, none⟩ = some (.int .i64 b)
theorem Box.up {w w' : World} {B : Nat} {z p b : Int} (h : Box w B z p b) (hb : Below w.heap.size w w') : Box w' B z p b :=
  ⟨Nat.lt_of_lt_of_le h.1 hb.size, (hb.cell (p := ⟨B, 0, none⟩) h.1).trans h.2.1, (hb.cell (p := ⟨B, 1, none⟩) h.1).trans h.2.2.1, (hb.cell (p := ⟨B, 2, none⟩) h.1).trans h.2.2.2⟩
theorem Box.made (w : World) (z p b : Int) (T : TypeId) : Box (w.alloc (.cells #[.int .i64 z, .int .i64 p, .int .i64 b] T)) w.heap.size z p b :=
  ⟨by simp, by simp, by simp, by simp⟩
/-- a is none of the addresses 1 to m. -/
def NotYet (a m : Int) : Prop := ¬ (1 ≤ a ∧ a ≤ m)
theorem NotYet.more {a m : Int} (h : NotYet a m) (hn : ¬ 1 + m = a) : NotYet a (m + 1) := by unfold NotYet at *; omega
theorem NotYet.end {z p a : Int} (h0 : 0 ≤ a) (h : NotYet a ((z - 2) * p)) : atI z p a = (0, 0, false) := by
  unfold NotYet at h
  unfold atI lastI
  rw [if_pos (by omega)]
set_option maxHeartbeats 2000000 in
set_option maxRecDepth 100000 in
theorem rat_is (z p b a : Int) (w : World) (hi : insB z p = true) (h0 : 0 ≤ a) : Calls Tryd.prog 27 #[.agg #[.int .i64 z, .int .i64 p, .int .i64 b], .int .u32 a] w (AtIs (atI z p a) w) := by
  have HI := Lib.hid hi
  obtain ⟨g1, g2, g3, g4⟩ := insB_iff.1 hi
  clear hi
  have HB0 := Lib.hid (below_box w (.cells #[.int .i64 z, .int .i64 p, .int .i64 b] 36))
  have HX0 := Lib.hid (Box.made w z p b 36)
  go_enter Tryd.func27, Tryd.ntmps27
  go_wp2_with fail
  go_loopg [7] (z - 2).toNat (fun k i wr => ∃ j : Nat, k = (z - 2).toNat - j ∧ (j : Int) ≤ z - 2 ∧ i = .int .i64 j ∧ NotYet a ((j : Int) * p) ∧ Below w.heap.size w wr ∧ Box wr w.heap.size z p b)
  case atStart => exact ⟨0, by omega, by omega, rfl, by unfold NotYet; simp; omega, HB0.out, HX0.out⟩
  case round =>
    clear HB0 HX0
    obtain ⟨j, hk, hj, rfl, hn, hb, hx⟩ := hrel
    obtain ⟨hB, c0, c1, c2⟩ := hx
    have HX := Lib.hid (show Box wr w.heap.size z p b from ⟨hB, c0, c1, c2⟩)
    have HB := Lib.hid hb
    have HN := Lib.hid hn
    have HK := Lib.hid hk
    clear hb hn hk
    by_cases hlt : (j : Int) < z - 2
    · go_wp2_with fail
      obtain ⟨wo, rfl⟩ : ∃ wo : World, wo = wr := ⟨_, rfl⟩
      clear c0 c1 c2 hB
      go_loopg [8] p.toNat (fun k i wr => ∃ l : Nat, k = p.toNat - l ∧ (l : Int) ≤ p ∧ i = .int .i64 l ∧ NotYet a ((j : Int) * p + l) ∧ Below w.heap.size w wr ∧ Box wr w.heap.size z p b)
      case atStart => exact ⟨0, by omega, by omega, rfl, by simpa using HN.out, HB.out, HX.out⟩
      case round =>
        obtain ⟨l, hk, hl, rfl, hn, hb, hx⟩ := hrel
        obtain ⟨hB, c0, c1, c2⟩ := hx
        have HX' := Lib.hid (show Box wr w.heap.size z p b from ⟨hB, c0, c1, c2⟩)
        have HB' := Lib.hid hb
        have HN' := Lib.hid hn
        have HK' := Lib.hid hk
        clear hb hn hk HX HB HN
        by_cases hlt2 : (l : Int) < p
        · have HO := Lib.hid (ofI_in (z := z) (p := p) (zone := j) (page := l) (by omega) hlt (by omega) hlt2)
          have HA := Lib.hid (atI_in (z := z) (p := p) (zone := j) (page := l) HI.out (by omega) hlt (by omega) hlt2)
          obtain ⟨m1, m2, m3⟩ := mul_bd (z := z) (p := p) (zone := j) HI.out (by omega) hlt
          by_cases he : 1 + (j : Int) * p + l = a
          · have he' : ((1 + (j : Int) * p + l) == a) = true := by simpa using he
            have HE := Lib.hid he
            clear he
            go_wp2_with fail
            refine (rof_is _ _ _ _ _ _ HI.out).mono ?_
            rintro r w2 ⟨rfl, hb2⟩
            have HB2 := Lib.hid (below_all HB'.out hb2)
            clear hb2
            rw [HO.out]
            go_wp2_with fail
            go_ret3
            exact ⟨ret_at (by rw [← HE.out]; exact HA.out), HB2.out⟩
          · have he' : ((1 + (j : Int) * p + l) == a) = false := by simpa using he
            have HM : Hid (NotYet a ((j : Int) * p + ((l + 1 : Nat) : Int))) := Lib.hid (by
              have h := HN'.out.more (by omega)
              rw [show (j : Int) * p + ((l + 1 : Nat) : Int) = (j : Int) * p + l + 1 by omega]
              exact h)
            clear he
            go_wp2_with fail
            refine (rof_is _ _ _ _ _ _ HI.out).mono ?_
            rintro r w2 ⟨rfl, hb2⟩
            have HB2 := Lib.hid (below_all HB'.out hb2)
            have HX2 := Lib.hid (HX'.out.up hb2)
            clear hb2
            rw [HO.out]
            go_wp2_with fail
            go_roundg (p.toNat - (l + 1))
            case rel => exact ⟨l + 1, rfl, by omega, by go_num, HM.out, HB2.out, HX2.out⟩
            case measure => rw [HK'.out]; omega
        · have HM : Hid (NotYet a (((j + 1 : Nat) : Int) * p)) := Lib.hid (by
            have h := HN'.out
            rw [show ((j + 1 : Nat) : Int) * p = (j : Int) * p + l by
              have e : (l : Int) = p := by omega
              rw [e]
              simp [Int.add_mul]]
            exact h)
          go_wp2_with fail
          go_roundg ((z - 2).toNat - (j + 1))
          case rel => exact ⟨j + 1, rfl, by omega, by go_num, HM.out, HB'.out, HX'.out⟩
          case measure => rw [HK.out]; omega
    · have HE : Hid (atI z p a = (0, 0, false)) := Lib.hid (NotYet.end h0 (by
        have h := HN.out
        rw [show (z - 2) = (j : Int) by omega]
        exact h))
      go_wp2_with fail
      go_ret3
      exact ⟨ret_at HE.out, HB.out⟩
end Go.Proofs.YtajccmkdfmpapaaDoor
