/-
  platelayerlaw01.FaultOnce answers true, whatever the code and the steps.
-/
import Derived.Test.YtppanjdhfecmpaaDoorFaultH
namespace Go.Proofs.YtppanjdhfecmpaaDoor
open Go.RowKit Go.Extern.Stop Go.Stop Go.Extern

/-- The slice of A, n, c reads as these steps, below block B. -/
def Steps (w : World) (B : Nat) (A : Option Addr) (l : List (ByteArray × Int)) : Prop :=
  0 < l.length → ∃ b o : Nat, A = some ⟨b, o, none⟩ ∧ b < B ∧ ∀ i (h : i < l.length), w.cell? ⟨b, o + i * 2, none⟩ = some (.string l[i].1) ∧ w.cell? ⟨b, o + i * 2 + 1, none⟩ = some (.int .i64 l[i].2)
theorem Steps.below {w w' : World} {B : Nat} {A : Option Addr} {l : List (ByteArray × Int)} (h : Steps w B A l) (hb : Below B w w') : Steps w' B A l := by
  intro hn
  obtain ⟨b, o, hA, hlt, hc⟩ := h hn
  exact ⟨b, o, hA, hlt, fun i hi => ⟨(hb.cell (p := ⟨b, o + i * 2, none⟩) hlt).trans (hc i hi).1, (hb.cell (p := ⟨b, o + i * 2 + 1, none⟩) hlt).trans (hc i hi).2⟩⟩

theorem once_long {w : World} (hg : Gl w) (e : Int) (A : Option Addr) (n c : Nat) (hn : 100 < n) : Calls Tryd.prog 5 #[.int .i64 e, .slice A n c] w (TrueB w) := by
  go_enter Tryd.func5, Tryd.ntmps5
  go_wp2_with (go_at_call 7; refine (awake_true hg).mono ?_; rintro r w1 ⟨rfl, hb⟩)
  go_ret
  exact ⟨rfl, hb⟩
theorem once_ok {w : World} (hg : Gl w) (A : Option Addr) (n c : Nat) (hn : ¬ 100 < n) : Calls Tryd.prog 5 #[.int .i64 0, .slice A n c] w (TrueB w) := by
  go_enter Tryd.func5, Tryd.ntmps5
  go_wp2_with (go_at_call 7; refine (awake_true hg).mono ?_; rintro r w1 ⟨rfl, hb⟩)
  go_ret
  exact ⟨rfl, hb⟩

theorem placeOf_self (op : ByteArray) (n : Int) (l : List (ByteArray × Int)) : placeOf op ((op, n) :: l) = (n, true) := by simp [placeOf]
theorem take_rev {α : Type} (l : List α) (j : Nat) (h : j < l.length) : (l.take (j + 1)).reverse = l[j] :: (l.take j).reverse := by
  rw [List.take_succ_eq_append_getElem h, List.reverse_append]; rfl

def OnceAt (w : World) (e : Int) (l : List (ByteArray × Int)) (k : Nat) (err i : Value) (wr : World) : Prop :=
  ∃ j : Nat, j ≤ l.length ∧ k = l.length - j ∧ i = .int .i64 j ∧ Err wr e (l.take j).reverse err ∧ Below w.heap.size w wr

set_option maxHeartbeats 1000000 in
set_option maxRecDepth 100000 in
theorem once_true {w : World} (hg : Gl w) (e : Int) (he : (e == 0) = false) (A : Option Addr) (l : List (ByteArray × Int)) (c : Nat) (hl : l.length ≤ 100) (hs : Steps w w.heap.size A l) :
    Calls Tryd.prog 5 #[.int .i64 e, .slice A l.length c] w (TrueB w) := by
  have HG := Lib.hid hg
  have HS := Lib.hid hs
  clear hg hs
  go_enter Tryd.func5, Tryd.ntmps5
  go_wp2_with fail
  refine (awake_true HG.out).mono ?_
  rintro r w1 ⟨rfl, hb⟩
  have HB1 := Lib.hid hb
  clear hb
  go_wp2_with fail
  go_loopg [5, 24] l.length (fun k err i wr => OnceAt w e l k err i wr)
  case atStart => exact ⟨0, by omega, by omega, rfl, rfl, HB1.out⟩
  case round =>
    obtain ⟨j, hj, hk, rfl, herr, hb⟩ := hrel
    have HK := Lib.hid hk
    have HB := Lib.hid hb
    have HE := Lib.hid herr
    have HGr := Lib.hid (HG.out.below hb)
    obtain ⟨tt, x, rfl⟩ := herr.form
    clear hk herr
    have hsz := hb.size
    clear hb
    by_cases hlt : j < l.length
    · obtain ⟨b, o, rfl, hbl, hcell⟩ := (HS.out.below HB.out) (by omega)
      obtain ⟨g1, g2⟩ := hcell j hlt
      clear hcell
      generalize hs : l[j] = st at *
      obtain ⟨op, at_⟩ := st
      have HST := Lib.hid hs
      clear hs
      dsimp only at g1 g2
      have hbA : Below wr.heap.size wr (wr.alloc (.cells #[.string op, .int .i64 at_] 44)) := (Below.refl _ _).alloc (Nat.le_refl _) _
      have HE2 : Hid (Err ((wr.alloc (.cells #[.string op, .int .i64 at_] 44)).alloc (.cells #[.string op, .int .i64 at_, .iface tt x] 48)) e ((op, at_) :: (l.take j).reverse) (.iface 46 (.pointer (some ⟨wr.heap.size + 1, 0, none⟩)))) := by
        have := (HE.out.below hbA).wrapped op at_
        rw [World.size_alloc] at this
        exact Lib.hid this
      have hb2 : Below wr.heap.size wr ((wr.alloc (.cells #[.string op, .int .i64 at_] 44)).alloc (.cells #[.string op, .int .i64 at_, .iface tt x] 48)) := hbA.alloc (by simp) _
      have HB2 := Lib.hid hb2
      have HG2 := Lib.hid (HGr.out.below hb2)
      have HU2 := Lib.hid (HE.out.below hb2)
      have c2 : ((wr.alloc (.cells #[.string op, .int .i64 at_] 44)).alloc (.cells #[.string op, .int .i64 at_, .iface tt x] 48)).cell? ⟨wr.heap.size + 1, 2, none⟩ = some (.iface tt x) := by simp
      have s0 : ((wr.alloc (.cells #[.string op, .int .i64 at_] 44)).alloc (.cells #[.string op, .int .i64 at_, .iface tt x] 48)).cell? ⟨wr.heap.size, 0, none⟩ = some (.string op) := by
        rw [World.cell?_alloc_lt _ _ ⟨wr.heap.size, 0, none⟩ (by simp)]; simp
      have s1 : ((wr.alloc (.cells #[.string op, .int .i64 at_] 44)).alloc (.cells #[.string op, .int .i64 at_, .iface tt x] 48)).cell? ⟨wr.heap.size, 1, none⟩ = some (.int .i64 at_) := by
        rw [World.cell?_alloc_lt _ _ ⟨wr.heap.size, 1, none⟩ (by simp)]; simp
      have hz2 : ((wr.alloc (.cells #[.string op, .int .i64 at_] 44)).alloc (.cells #[.string op, .int .i64 at_, .iface tt x] 48)).heap.size = wr.heap.size + 2 := by simp
      have HC2 := Lib.hid c2
      have HS0 := Lib.hid s0
      have HS1 := Lib.hid s1
      have HZ2 := Lib.hid hz2
      clear c2 s0 s1 hz2 hb2 hbA
      go_wp2_with fail
      refine (unwrap_some _ _ _ HC2.out).mono ?_
      rintro r w2 ⟨rfl, hw2⟩
      rw [hw2] at HC2 HS0 HS1 HZ2 HU2 HG2 HB2 HE2
      clear hw2
      go_wp2_with fail
      refine (code_err HG2.out HE2.out).mono ?_
      rintro r w3 ⟨rfl, hb3⟩
      have HB3 := Lib.hid hb3
      clear hb3
      go_wp2_with fail
      refine (unwrap_some _ _ _ ((HB3.out.cell (p := ⟨wr.heap.size + 1, 2, none⟩) (by rw [HZ2.out]; simp)).trans HC2.out)).mono ?_
      rintro r w3' ⟨rfl, rfl⟩
      go_wp2_with fail
      refine (code_err (HG2.out.below HB3.out) (HU2.out.below HB3.out)).mono ?_
      rintro r w4 ⟨rfl, hb4⟩
      have HB4 := Lib.hid (below_all HB3.out hb4)
      clear hb4
      go_wp2_with fail
      refine (trail_err (by simp; omega) (HE2.out.below HB4.out)).mono ?_
      rintro r w5 ⟨v5, rfl, ⟨A5, c5, rfl, _, _⟩, hb5⟩
      have HB5 := Lib.hid (below_all HB4.out hb5)
      clear hb5
      go_wp2_with fail
      refine (trail_err (by simp; omega) (HU2.out.below HB5.out)).mono ?_
      rintro r w6 ⟨v6, rfl, ⟨A6, c6, rfl, _, _⟩, hb6⟩
      have HB6 := Lib.hid (below_all HB5.out hb6)
      clear hb6
      have t0 : w6.cell? ⟨wr.heap.size, 0, none⟩ = some (.string op) := (HB6.out.cell (p := ⟨wr.heap.size, 0, none⟩) (by rw [HZ2.out]; simp)).trans HS0.out
      have t1 : w6.cell? ⟨wr.heap.size, 1, none⟩ = some (.int .i64 at_) := (HB6.out.cell (p := ⟨wr.heap.size, 1, none⟩) (by rw [HZ2.out]; simp)).trans HS1.out
      have hlen5 : (ops ((op, at_) :: (l.take j).reverse)).length = j + 1 := by simp [ops]; omega
      have hlen6 : (ops ((l.take j).reverse)).length = j := by simp [ops]; omega
      rw [hlen5, hlen6]
      clear hlen5 hlen6
      go_wp2_with fail
      refine (place_err op (HE2.out.below HB6.out)).mono ?_
      rintro r w7 ⟨rfl, rfl⟩
      rw [placeOf_self]
      go_wp2_with fail
      go_roundg (l.length - (j + 1))
      case rel => exact ⟨j + 1, by omega, rfl, by go_num, by rw [take_rev l j hlt, HST.out]; exact HE2.out.below HB6.out, below_all HB.out (below_all HB2.out HB6.out)⟩
      case measure => rw [HK.out]; omega
    · obtain rfl : j = l.length := by omega
      have hte : (l.take l.length).reverse = l.reverse := by rw [List.take_length]
      have HE' : Hid (Err wr e l.reverse (.iface tt x)) := by rw [← hte]; exact HE
      clear hte HE
      go_wp2_with fail
      refine (fIs_err e HE'.out).mono ?_
      rintro r w7 ⟨rfl, rfl⟩
      have hz : (!(e == 0) && (e == e)) = true := by simp [he]
      rw [hz]
      clear hz
      go_wp2_with fail
      refine (trail_err (by simp; omega) HE'.out).mono ?_
      rintro r w8 ⟨v8, rfl, ⟨A8, c8, rfl, _, _⟩, hb8⟩
      have HB8 := Lib.hid hb8
      clear hb8
      have hl8 : (ops l.reverse).length = l.length := by simp [ops]
      rw [hl8]
      clear hl8
      go_wp2_with fail
      go_ret
      exact ⟨rfl, below_all HB.out HB8.out⟩
end Go.Proofs.YtppanjdhfecmpaaDoor
