/-
  The document's At: of a geometry that may be.
-/
import Derived.Test.YtmfnbnhcfbdicaaGeoE
namespace Go.Proofs.Ytmfnbnhcfbdicaa
open Go.RowKit

/-- Three cells of a box. -/
def Box (w : World) (B : Nat) (z p b : Int) : Prop := B < w.heap.size ∧ w.cell? ⟨B, 0, none⟩ = some (.int .i64 z) ∧ w.cell? ⟨B, 1, none⟩ = some (.int .i64 p) ∧ w.cell? ⟨B, 2, none⟩ = some (.int .i64 b)
theorem Box.up {w w' : World} {B : Nat} {z p b : Int} (h : Box w B z p b) (hb : Below w.heap.size w w') : Box w' B z p b :=
  ⟨Nat.lt_of_lt_of_le h.1 hb.size, (hb.cell (p := ⟨B, 0, none⟩) h.1).trans h.2.1, (hb.cell (p := ⟨B, 1, none⟩) h.1).trans h.2.2.1, (hb.cell (p := ⟨B, 2, none⟩) h.1).trans h.2.2.2⟩
theorem Box.made (w : World) (z p b : Int) (T : TypeId) : Box (w.alloc (.cells #[.int .i64 z, .int .i64 p, .int .i64 b] T)) w.heap.size z p b :=
  ⟨by simp, by simp, by simp, by simp⟩
/-- a is none of the addresses 1 to m. -/
def NotYet (a m : Int) : Prop := ¬ (1 ≤ a ∧ a ≤ m)
theorem NotYet.more {a m : Int} (h : NotYet a m) (hn : ¬ 1 + m = a) : NotYet a (m + 1) := by unfold NotYet at *; omega
theorem NotYet.end {z p a : Int} (h0 : 0 ≤ a) (h : NotYet a ((z - 2) * p)) : atI z p a = (0, 0, false) := by
  unfold NotYet at h
  unfold atI lastI
  rw [if_pos (by omega)]

set_option maxHeartbeats 2000000 in
set_option maxRecDepth 100000 in
theorem rat_is (z p b a : Int) (w : World) (hi : insB z p = true) (h0 : 0 ≤ a) : Calls Try.prog 17 #[.agg #[.int .i64 z, .int .i64 p, .int .i64 b], .int .u32 a] w (AtIs (atI z p a) w) := by
  have HI := Lib.hid hi
  obtain ⟨g1, g2, g3, g4⟩ := insB_iff.1 hi
  clear hi
  have HB0 := Lib.hid (below_box w (.cells #[.int .i64 z, .int .i64 p, .int .i64 b] 28))
  have HX0 := Lib.hid (Box.made w z p b 28)
  go_enter Try.func17, Try.ntmps17
  go_wp2_with fail
  go_loopg [7] (z - 2).toNat (fun k i wr => ∃ j : Nat, k = (z - 2).toNat - j ∧ (j : Int) ≤ z - 2 ∧ i = .int .i64 j ∧ NotYet a ((j : Int) * p) ∧ Below w.heap.size w wr ∧ Box wr w.heap.size z p b)
  case atStart => exact ⟨0, by omega, by omega, rfl, by unfold NotYet; simp; omega, HB0.out, HX0.out⟩
  case round =>
    clear HB0 HX0
    obtain ⟨j, hk, hj, rfl, hn, hb, hx⟩ := hrel
    obtain ⟨hB, c0, c1, c2⟩ := hx
    have HX := Lib.hid (show Box wr w.heap.size z p b from ⟨hB, c0, c1, c2⟩)
    have HB := Lib.hid hb
    have HN := Lib.hid hn
    have HK := Lib.hid hk
    clear hb hn hk
    by_cases hlt : (j : Int) < z - 2
    · go_wp2_with fail
      obtain ⟨wo, rfl⟩ : ∃ wo : World, wo = wr := ⟨_, rfl⟩
      clear c0 c1 c2 hB
      go_loopg [8] p.toNat (fun k i wr => ∃ l : Nat, k = p.toNat - l ∧ (l : Int) ≤ p ∧ i = .int .i64 l ∧ NotYet a ((j : Int) * p + l) ∧ Below w.heap.size w wr ∧ Box wr w.heap.size z p b)
      case atStart => exact ⟨0, by omega, by omega, rfl, by simpa using HN.out, HB.out, HX.out⟩
      case round =>
        obtain ⟨l, hk, hl, rfl, hn, hb, hx⟩ := hrel
        obtain ⟨hB, c0, c1, c2⟩ := hx
        have HX' := Lib.hid (show Box wr w.heap.size z p b from ⟨hB, c0, c1, c2⟩)
        have HB' := Lib.hid hb
        have HN' := Lib.hid hn
        have HK' := Lib.hid hk
        clear hb hn hk HX HB HN
        by_cases hlt2 : (l : Int) < p
        · have HO := Lib.hid (ofI_in (z := z) (p := p) (zone := j) (page := l) (by omega) hlt (by omega) hlt2)
          have HA := Lib.hid (atI_in (z := z) (p := p) (zone := j) (page := l) HI.out (by omega) hlt (by omega) hlt2)
          obtain ⟨m1, m2, m3⟩ := mul_bd (z := z) (p := p) (zone := j) HI.out (by omega) hlt
          by_cases he : 1 + (j : Int) * p + l = a
          · have he' : ((1 + (j : Int) * p + l) == a) = true := by simpa using he
            have HE := Lib.hid he
            clear he
            go_wp2_with fail
            refine (rof_is _ _ _ _ _ _ HI.out).mono ?_
            rintro r w2 ⟨rfl, hb2⟩
            have HB2 := Lib.hid (below_all HB'.out hb2)
            clear hb2
            rw [HO.out]
            go_wp2_with fail
            go_ret3
            exact ⟨ret_at (by rw [← HE.out]; exact HA.out), HB2.out⟩
          · have he' : ((1 + (j : Int) * p + l) == a) = false := by simpa using he
            have HM : Hid (NotYet a ((j : Int) * p + ((l + 1 : Nat) : Int))) := Lib.hid (by
              have h := HN'.out.more (by omega)
              rw [show (j : Int) * p + ((l + 1 : Nat) : Int) = (j : Int) * p + l + 1 by omega]
              exact h)
            clear he
            go_wp2_with fail
            refine (rof_is _ _ _ _ _ _ HI.out).mono ?_
            rintro r w2 ⟨rfl, hb2⟩
            have HB2 := Lib.hid (below_all HB'.out hb2)
            have HX2 := Lib.hid (HX'.out.up hb2)
            clear hb2
            rw [HO.out]
            go_wp2_with fail
            go_roundg (p.toNat - (l + 1))
            case rel => exact ⟨l + 1, rfl, by omega, by go_num, HM.out, HB2.out, HX2.out⟩
            case measure => rw [HK'.out]; omega
        · have HM : Hid (NotYet a (((j + 1 : Nat) : Int) * p)) := Lib.hid (by
            have h := HN'.out
            rw [show ((j + 1 : Nat) : Int) * p = (j : Int) * p + l by
              have e : (l : Int) = p := by omega
              rw [e]
              simp [Int.add_mul]]
            exact h)
          go_wp2_with fail
          go_roundg ((z - 2).toNat - (j + 1))
          case rel => exact ⟨j + 1, rfl, by omega, by go_num, HM.out, HB'.out, HX'.out⟩
          case measure => rw [HK.out]; omega
    · have HE : Hid (atI z p a = (0, 0, false)) := Lib.hid (NotYet.end h0 (by
        have h := HN.out
        rw [show (z - 2) = (j : Int) by omega]
        exact h))
      go_wp2_with fail
      go_ret3
      exact ⟨ret_at HE.out, HB.out⟩
end Go.Proofs.Ytmfnbnhcfbdicaa
