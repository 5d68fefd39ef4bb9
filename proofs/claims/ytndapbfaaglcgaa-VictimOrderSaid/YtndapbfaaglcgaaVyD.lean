/-
  Zones sorted: a clone, sorted by the library.
-/
import Derived.Test.YtndapbfaaglcgaaVyC
import Derived.Test.YtndapbfaaglcgaaVcSort
import Derived.Test.YtndapbfaaglcgaaVcShelf
import Derived.Shelf.SlSortCmp.NoneTotal
namespace Go.Proofs.Ytndapbfaaglcgaa
open Go.Shelf Go.RowKit

/-- The sort of a row of the call's own. -/
def SortedIs (base : Nat) (v : Value) (l : List VZ) (w : World) (e : Ending) (w' : World) : Prop := e = .returned (.tuple #[]) ∧ OwnK w' base 38 3 v l.length (zsC l) ∧ Below base w w'
theorem vysort_at {w : World} (pol p : Int) (l : List VZ) {base n : Nat} {v : Value} (g1 g2 : Nat) (hg1 : g1 < base) (hg2 : g2 < base) (hbase : base ≤ w.heap.size) (k1 : w.cell? ⟨g1, 0, none⟩ = some (.int .i64 pol)) (k2 : w.cell? ⟨g2, 0, none⟩ = some (.int .i64 p))
    (hl : l.length = n) (ho : OwnK w base 38 3 v n (zsC l)) (hn : n ≤ 1000) (hp1 : 1 ≤ p) (hp : p ≤ 16) (hf : VZ.Fit p l) (ha : VZ.Apart l) (hg : AgeOk l) :
    Calls Try.prog 26 #[v, .func (.func 27) #[] #[.pointer (some ⟨g1, 0, none⟩), .pointer (some ⟨g2, 0, none⟩)]] w (SortedIs base v (VZ.sortZ pol p l) w) := by
  have hlen : (VZ.sortZ pol p l).length = n := by rw [VZ.sort_perm.length_eq, hl]
  rcases ho.2 with ⟨rfl, rfl⟩ | ⟨g, cap, cur, rfl, hb, _⟩
  · have h := AnyF.slices_SortFunc_none vcSort none 0 (.func (.func 27) #[] #[.pointer (some ⟨g1, 0, none⟩), .pointer (some ⟨g2, 0, none⟩)]) w
    change Calls Try.prog 26 _ _ _ at h
    refine h.mono fun e w' ⟨he, hw⟩ => ?_
    subst hw
    have e0 : VZ.sortZ pol p l = [] := List.eq_nil_of_length_eq_zero hlen
    rw [e0]
    exact ⟨he, OwnK.nil _ _ _ _, Below.refl _ _⟩
  · have eg : ∀ args w, (callFunc 27 args).run Try.prog w = .ok (.enter 27 args) w := enters_of Try.func27 (by kernel_rfl) rfl
    have h := sortFunc_at (pol := pol) (p := p) (f := 27) (cb := #[.pointer (some ⟨g1, 0, none⟩), .pointer (some ⟨g2, 0, none⟩)]) (cf := cfZ pol p) vcSort Try.isAgg38 Try.sizeOf38 eg (fun a b _ _ => cfZ_ahead pol p a b) (fun W a b hk za zb => by
      have c1 : W.cell? ⟨g1, 0, none⟩ = some (.int .i64 pol) := hk.cell k1 (by show ¬ (g1 = g); omega)
      have c2 : W.cell? ⟨g2, 0, none⟩ = some (.int .i64 p) := hk.cell k2 (by show ¬ (g2 = g); omega)
      have hclo := clo_at pol p a b W g1 g2 c1 c2 hp1 hp za.2.1 (by have := za.2.2.1; omega) zb.2.1 (by have := zb.2.2.1; omega) za.2.2.2 zb.2.2.2
      exact hclo) hf ha hg hl (by omega) ho
    change Calls Try.prog 26 _ _ _ at h
    refine h.mono fun e w' ⟨he, ho', hk⟩ => ?_
    exact ⟨he, by rw [hlen]; exact ho', hk.below hbase (fun k e => by subst e; exact hb)⟩
set_option maxHeartbeats 1000000 in
set_option maxRecDepth 100000 in
theorem vyord_at {w : World} {A : Option Addr} {n c : Nat} (pol p : Int) (l : List VZ) (hl : l.length = n) (hr : RdV w w.heap.size A (zsC l)) (hnc : n ≤ c) (hz : A = none → c = 0) (hn : n ≤ 1000) (hp1 : 1 ≤ p) (hp : p ≤ 16) (hf : VZ.Fit p l) (ha : VZ.Apart l) (hg : AgeOk l) : Calls Try.prog 20 #[.int .i64 pol, .int .i64 p, .slice A n c] w (ZsIs 38 (VZ.sortZ pol p l) w) := by
  obtain ⟨w1, hw1⟩ : ∃ w1, (w.alloc (.cells #[.int .i64 pol] 3)).alloc (.cells #[.int .i64 p] 3) = w1 := ⟨_, rfl⟩
  have hb1 : Below w.heap.size w w1 := by rw [← hw1]; exact ((Below.refl _ _).alloc (Nat.le_refl _) _).alloc (by simp) _
  have hs1 : w1.heap.size = w.heap.size + 2 := by rw [← hw1]; simp
  have HB1 := Lib.hid hb1
  have HS1 := Lib.hid hs1
  have k1 : w1.cell? ⟨w.heap.size, 0, none⟩ = some (.int .i64 pol) := by rw [← hw1]; exact Blk.cell (T := 3) (cs := [.int .i64 pol]) (by unfold Blk; rw [heap_alloc_old _ _ (by simp)]; exact heap_alloc_new _ _) 0 (by simp)
  have k2 : w1.cell? ⟨w.heap.size + 1, 0, none⟩ = some (.int .i64 p) := by rw [← hw1]; exact Blk.cell (T := 3) (cs := [.int .i64 p]) (by have := heap_alloc_new (w.alloc (.cells #[.int .i64 pol] 3)) (.cells #[.int .i64 p] 3); unfold Blk; rw [show (w.alloc (.cells #[.int .i64 pol] 3)).heap.size = w.heap.size + 1 by simp] at this; exact this) 0 (by simp)
  have HK1 := Lib.hid k1
  have HK2 := Lib.hid k2
  have HC := Lib.hid (vclone_at (w := w1) (A := A) (n := n) (c := c) l hl (hr.up hb1) hnc hz hn)
  have HSO := Lib.hid (fun (u : World) (v : Value) (h1 : OwnK u w1.heap.size 38 3 v n (zsC l)) (h2 : Below w1.heap.size w1 u) => vysort_at (w := u) (base := w1.heap.size) (v := v) pol p l w.heap.size (w.heap.size + 1) (by omega) (by omega) h2.size ((h2.cell (p := ⟨w.heap.size, 0, none⟩) (by show w.heap.size < _; omega)).trans k1) ((h2.cell (p := ⟨w.heap.size + 1, 0, none⟩) (by show w.heap.size + 1 < _; omega)).trans k2) hl h1 hn hp1 hp hf ha hg)
  have HL := Lib.hid hl
  clear hl hr hnc hz hf ha hg hb1 hs1 k1 k2
  go_enter Try.func20, Try.ntmps20
  go_wp2_with (first
    | (go_at_call 25; refine HC.out.mono ?_; rintro r w2 ⟨v2, rfl, ho, hb⟩; rw [HL.out] at ho; have HO2 := Lib.hid ho; have HB2 := Lib.hid hb; clear ho hb)
    | (go_at_call 26; refine (HSO.out _ _ HO2.out HB2.out).mono ?_; rintro r w3 ⟨rfl, ho, hb⟩; have HE : Hid (ZsIs 38 (VZ.sortZ pol p l) w (.returned v2) w3) := Lib.hid ⟨v2, rfl, ho.le HB1.out.size, below_all HB1.out (HB2.out.trans hb)⟩; clear ho hb))
  go_ret
  exact HE.out
end Go.Proofs.Ytndapbfaaglcgaa
