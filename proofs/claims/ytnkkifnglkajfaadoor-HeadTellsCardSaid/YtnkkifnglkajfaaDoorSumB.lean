/-
  What the closure of sum.Add does.
-/
import Derived.Test.YtnkkifnglkajfaaDoorSumA
import Derived.OneCell
import Derived.RegionTactic
namespace Go.Proofs.YtnkkifnglkajfaaDoor
open Go.RowKit

/-- Block g is one uint32. -/
def One (w : World) (g : Nat) (n : Int) : Prop := w.heap[g]? = some (.cells #[.int .u32 n] 22 (0, 0))
theorem One.cell {w : World} {g : Nat} {n : Int} (h : One w g n) : w.cell? ⟨g, 0, none⟩ = some (.int .u32 n) := cell_of_one h
theorem One.free {w : World} {g : Nat} {n : Int} (h : One w g n) : w.frozen? ⟨g, 0, none⟩ = false := free_of_one h
theorem One.put {w : World} {g : Nat} {n : Int} (h : One w g n) (m : Int) : One (w.setCell ⟨g, 0, none⟩ (.int .u32 m)) g m := one_setCell h
theorem One.far {w : World} {g k : Nat} {n : Int} (h : One w g n) (hk : g ≠ k) (u : Value) : One (w.setCell ⟨k, 0, none⟩ u) g n := (Below.heap_setCell w ⟨k, 0, none⟩ u g hk).trans h
theorem One.drew {w : World} {g : Nat} {n : Int} (h : One w g n) : One w.drew g n := h
theorem One.below {w w' : World} {B g : Nat} {n : Int} (h : One w g n) (hb : Below B w w') (hg : g < B) : One w' g n := (hb.block g hg).trans h

def TakeIs (B p q : Nat) (l h : Int) (w : World) (r : Ending) (w' : World) : Prop := r = .returned (.tuple #[]) ∧ One w' p l ∧ One w' q h ∧ Below B w w'
def TakeAt (B p q : Nat) (l h : Int) (xs : List Int) (w : World) (n : Nat) (i : Value) (wr : World) : Prop :=
  ∃ j : Nat, j ≤ xs.length ∧ n = xs.length - j ∧ i = .int .i64 j ∧ One wr p (rL l (xs.take j)) ∧ One wr q (rH l h (xs.take j)) ∧ Below B w wr

set_option maxHeartbeats 1000000 in
theorem take_is (B p q : Nat) (A : Option Addr) (xs : List Int) (c : Nat) (l h : Int) (w : World) (hx : Byt xs) (hr : Rd w B A xs) (hn : xs.length ≤ 5552) (hp : B ≤ p) (hq : B ≤ q) (hpq : p ≠ q) (h1 : One w p l) (h2 : One w q h)
    (l0 : 0 ≤ l) (l1 : l ≤ 65520) (g0 : 0 ≤ h) (g1 : h ≤ 65520) : Calls Tryd.prog 31 #[.slice A xs.length c, .pointer (some ⟨p, 0, none⟩), .pointer (some ⟨q, 0, none⟩)] w (TakeIs B p q (aL l xs) (aH l h xs) w) := by
  have HX := Lib.hid hx
  have HR := Lib.hid hr
  have H1 := Lib.hid h1
  have H2 := Lib.hid h2
  have HPQ := Lib.hid hpq
  clear hx hr h1 h2 hpq
  go_enter Tryd.func31, Tryd.ntmps31
  go_wp2_with fail
  go_loopg [8] xs.length (fun n i wr => TakeAt B p q l h xs w n i wr)
  case atStart => exact ⟨0, by omega, by omega, rfl, by rw [List.take_zero, rL_nil]; exact H1.out, by rw [List.take_zero, rH_nil]; exact H2.out, Below.refl _ _⟩
  case round =>
    clear H1 H2
    obtain ⟨k, hk, hm, rfl, o1, o2, hb⟩ := hrel
    have HB := Lib.hid hb
    have HM := Lib.hid hm
    clear hb hm
    by_cases hlt : k < xs.length
    · obtain ⟨b, o, rfl, hbl, hcell⟩ := (HR.out.below HB.out) (by omega)
      have c0 := hcell k hlt
      obtain ⟨x1, x2⟩ := HX.out.get k hlt
      have hT : xs.take (k + 1) = xs.take k ++ [xs[k]] := List.take_succ_eq_append_getElem hlt
      have HL : Hid (rL l (xs.take (k + 1)) = _) := Lib.hid (by rw [hT, rL_snoc])
      have HH : Hid (rH l h (xs.take (k + 1)) = _) := Lib.hid (by rw [hT, rH_snoc])
      obtain ⟨b1, b2⟩ := rL_bd (HX.out.take k) l0 l1 (by simp; omega)
      obtain ⟨b3, b4⟩ := rH_bd (HX.out.take (k + 1)) l0 l1 g0 g1 (by simp; omega)
      obtain ⟨b5, b6⟩ := rH_bd (HX.out.take k) l0 l1 g0 g1 (by simp; omega)
      rw [HH.out] at b3 b4
      clear hcell hT
      generalize hxk : xs[k] = x at *
      generalize hla : rL l (xs.take k) = la at *
      generalize hha : rH l h (xs.take k) = ha at *
      have H4 := Lib.hid hxk
      have H5 := Lib.hid hla
      have H6 := Lib.hid hha
      clear hxk hla hha
      have O1 := Lib.hid o1
      have O2 := Lib.hid o2
      have P1 := Lib.hid (o1.put (la + x))
      have P2 := Lib.hid (o2.far (k := p) (fun e => HPQ.out e.symm) (.int .u32 (la + x)))
      have P3 := Lib.hid (P2.out.put (ha + (la + x)))
      have P4 := Lib.hid (P1.out.far (k := q) HPQ.out (.int .u32 (ha + (la + x))))
      clear o1 o2
      have a1 := O1.out.cell
      have a2 := O1.out.free
      have a3 := P2.out.cell
      have a4 := P2.out.free
      have a5 := P1.out.cell
      go_wp2_with fail
      go_roundg (xs.length - (k + 1))
      case rel => exact ⟨k + 1, by omega, rfl, by go_num, by rw [HL.out]; exact P4.out, by rw [HH.out]; exact P3.out, (HB.out.setCell (p := ⟨p, 0, none⟩) hp _).setCell (p := ⟨q, 0, none⟩) hq _⟩
      case measure => have := HM.out; omega
    · obtain rfl : k = xs.length := by omega
      rw [List.take_length] at o1 o2
      obtain ⟨b1, b2⟩ := rL_bd HX.out l0 l1 hn
      obtain ⟨b3, b4⟩ := rH_bd HX.out l0 l1 g0 g1 hn
      have HLa : Hid (rL l xs % 65521 = aL l xs) := Lib.hid rfl
      have HHa : Hid (rH l h xs % 65521 = aH l h xs) := Lib.hid rfl
      generalize rL l xs = la at *
      generalize rH l h xs = ha at *
      have O1 := Lib.hid o1
      have O2 := Lib.hid o2
      clear o1 o2
      have a1 := O1.out.cell
      have a2 := O1.out.free
      have a3 := O2.out.cell
      have P1 := Lib.hid (O1.out.put (la % 65521))
      have P2 := Lib.hid (O2.out.far (k := p) (fun e => HPQ.out e.symm) (.int .u32 (la % 65521)))
      have P3 := Lib.hid (P2.out.put (ha % 65521))
      have P4 := Lib.hid (P1.out.far (k := q) HPQ.out (.int .u32 (ha % 65521)))
      have a5 := P2.out.cell
      have a6 := P2.out.free
      go_wp2_with fail
      go_region
      all_goals (go_end0; exact ⟨rfl, by rw [← HLa.out]; exact P4.out.drew, by rw [← HHa.out]; exact P3.out.drew, ((HB.out.setCell (p := ⟨p, 0, none⟩) hp _).setCell (p := ⟨q, 0, none⟩) hq _).drew⟩)
end Go.Proofs.YtnkkifnglkajfaaDoor
