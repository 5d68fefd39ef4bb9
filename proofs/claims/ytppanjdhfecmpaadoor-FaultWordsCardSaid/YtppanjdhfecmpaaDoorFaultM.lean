/-
  platelayerlaw01.FaultWraps answers true, whatever the code, the steps and the step more.
-/
import Derived.Test.YtppanjdhfecmpaaDoorFaultL
import Derived.Deep.RegionWith
import Derived.IntWalk
namespace Go.Proofs.YtppanjdhfecmpaaDoor
open Go.RowKit Go.Extern.Stop Go.Stop Go.Extern

theorem Strs.up {w w' : World} {v : Value} {xs : List ByteArray} (h : Strs w w.heap.size v xs) (hb : Below w.heap.size w w') : Strs w' w'.heap.size v xs := (h.below hb).mono hb.size
/-- What stands behind the first text. -/
theorem Strs.tail {w : World} {B : Nat} {b o n c : Nat} {x : ByteArray} {xs : List ByteArray} (hn : n = xs.length + 1) (hc : n ≤ c) (hlt : b < B) (h : ∀ i (h : i < (x :: xs).length), w.cell? ⟨b, o + i, none⟩ = some (.string (x :: xs)[i])) (hx : 0 < xs.length) :
    Strs w B (.slice (some ⟨b, o + 1, none⟩) (n - 1) (c - 1)) xs :=
  ⟨_, c - 1, by rw [hn]; rfl, by omega, fun _ => ⟨b, o + 1, rfl, hlt, fun i hi => by have := h (i + 1) (by simpa using hi); rw [show o + 1 + i = o + (i + 1) from by omega, this]; rfl⟩⟩

theorem keep3 {w w' : World} {p q r : Addr} {x y z : Value} (h : w.cell? p = some x ∧ w.cell? q = some y ∧ w.cell? r = some z) (hb : Below w.drew.heap.size w.drew w') (hp : p.block < w.heap.size) (hq : q.block < w.heap.size) (hr : r.block = q.block := by rfl) :
    w'.cell? p = some x ∧ w'.cell? q = some y ∧ w'.cell? r = some z :=
  ⟨(hb.cell (p := p) hp).trans h.1, (hb.cell (p := q) hq).trans h.2.1, (hb.cell (p := r) (by rw [hr]; exact hq)).trans h.2.2⟩

theorem Strs.zero {w : World} {B : Nat} {A : Option Addr} {n c : Nat} {xs : List ByteArray} (hn : n = xs.length) (h0 : xs.length = 0) : Strs w B (.slice A n c) xs :=
  ⟨A, c, by rw [hn], by omega, fun h => by omega⟩
theorem tail_of {w : World} {B : Nat} {b o n c : Nat} {op : ByteArray} {at_ : Int} {l : List (ByteArray × Int)} (hn : l.length + 1 = n) (hc : n ≤ c) (h : Strs w B (.slice (some ⟨b, o, none⟩) n c) (ops ((op, at_) :: l.reverse))) :
    Strs w B (.slice (some ⟨b, o + 1, none⟩) (n - 1) (c - 1)) (ops l.reverse) := by
  have hl : (ops l.reverse).length = l.length := by simp [ops]
  rcases Nat.eq_zero_or_pos l.length with hz | hp
  · exact Strs.zero (by omega) (by omega)
  · obtain ⟨A, c', h1, h2, h3⟩ := h
    obtain ⟨b', o', hA, hlt, hcell⟩ := h3 (by simp [ops])
    injection h1 with e1 e2 e3
    subst e1
    injection hA with hA
    injection hA with eb eo
    subst eb eo
    exact Strs.tail (x := op) (by omega) hc hlt hcell (by omega)

theorem tail_if {w : World} {B : Nat} {b o n c : Nat} {op : ByteArray} {at_ : Int} {l : List (ByteArray × Int)} (hn : l.length + 1 = n) (hc : n ≤ c) (h : Strs w B (.slice (some ⟨b, o, none⟩) n c) (ops ((op, at_) :: l.reverse))) :
    Strs w B (.slice (if c = 1 then some ⟨b, o, none⟩ else some ⟨b, o + 1, none⟩) (n - 1) (c - 1)) (ops l.reverse) := by
  have hl : (ops l.reverse).length = l.length := by simp [ops]
  by_cases h1 : c = 1
  · exact Strs.zero (by omega) (by omega)
  · rw [if_neg h1]
    exact tail_of hn hc h

theorem slice_tail (b o n c : Nat) (hn : 1 ≤ n) (hc : n ≤ c) : ∃ AX : Option Addr, (∀ W : World, (Instr.sliceAt 37 (.slice (some ⟨b, o, none⟩) n c) (some (.int .i64 1)) none none).run Tryd.prog W = .ok (.slice AX (n - 1) (c - 1)) W) ∧
    (∀ W : World, (Instr.slice 37 (.slice (some ⟨b, o, none⟩) n c) (some (.int .i64 1)) none none).run Tryd.prog W = .ok (.slice AX (n - 1) (c - 1)) W) ∧ AX = (if c = 1 then some ⟨b, o, none⟩ else some ⟨b, o + 1, none⟩) := by
  have he : Tryd.prog.underlying 37 = some (.slice (Tryd.prog.elem 37)) := by kernel_rfl
  have hz : ∀ W : World, (sizeOf (Tryd.prog.elem 37)).run Tryd.prog W = .ok 1 W := fun W => by kernel_rfl
  have h2 : ∀ W : World, (Instr.slice 37 (.slice (some ⟨b, o, none⟩) n c) (some (.int .i64 1)) none none).run Tryd.prog W = .ok (.slice (if c = 1 then some ⟨b, o, none⟩ else some ⟨b, o + 1, none⟩) (n - 1) (c - 1)) W := fun W => by
    rw [run_slice_l (P := Tryd.prog) (w := W) (t := 37) (a := some ⟨b, o, none⟩) (len := n) (cap := c) (ht := he) (kl := .i64) (l := 1) (by omega) (by omega), hz]
    simp [Result.andThen, sliced, Addr.add]
  exact ⟨_, fun W => by rw [run_sliceAt_slice (h := he)]; exact h2 W, h2, rfl⟩

theorem wraps_long {w : World} (hg : Gl w) (e : Int) (A : Option Addr) (n c : Nat) (op : ByteArray) (at_ : Int) (hn : 100 < n) : Calls Tryd.prog 4 #[.int .i64 e, .slice A n c, .agg #[.string op, .int .i64 at_]] w (TrueB w) := by
  have HB := Lib.hid ((Below.refl w.heap.size w).alloc (Nat.le_refl _) (.cells #[.string op, .int .i64 at_] 44))
  have HG := Lib.hid (hg.below HB.out)
  clear hg
  go_enter Tryd.func4, Tryd.ntmps4
  go_wp2_with (go_at_call 7; refine (awake_true HG.out).mono ?_; rintro r w1 ⟨rfl, hb⟩)
  go_ret
  exact ⟨rfl, below_all HB.out hb⟩

set_option maxHeartbeats 1000000 in
theorem wraps_ok {w : World} (hg : Gl w) (A : Option Addr) (l : List (ByteArray × Int)) (c : Nat) (op : ByteArray) (at_ : Int) (hl : l.length ≤ 100) (hs : Steps w w.heap.size A l) : Calls Tryd.prog 4 #[.int .i64 0, .slice A l.length c, .agg #[.string op, .int .i64 at_]] w (TrueB w) := by
  have HB := Lib.hid ((Below.refl w.heap.size w).alloc (Nat.le_refl _) (.cells #[.string op, .int .i64 at_] 44))
  have HG := Lib.hid (hg.below HB.out)
  have HS := Lib.hid hs
  clear hg hs
  go_enter Tryd.func4, Tryd.ntmps4
  go_wp2_with fail
  refine (awake_true HG.out).mono ?_
  rintro r w1 ⟨rfl, hb1⟩
  have HB1 := Lib.hid hb1
  clear hb1
  go_wp2_with fail
  refine (made_ok A l c hl ((HS.out.up HB.out).up HB1.out)).mono ?_
  rintro r w2 ⟨rfl, hb2⟩
  have HB2 := Lib.hid (below_all HB1.out hb2)
  clear hb2
  go_wp2_with fail
  refine (trail_nil _).mono ?_
  rintro r w3 ⟨v3, rfl, ⟨A3, c3, rfl, _, _⟩, hb3⟩
  have HB3 := Lib.hid (below_all (below_all HB2.out ((Below.refl _ _).alloc (Nat.le_refl _) _)) hb3)
  have t0 : w3.cell? ⟨w.heap.size, 0, none⟩ = some (.string op) := (HB3.out.cell (p := ⟨w.heap.size, 0, none⟩) (by simp)).trans (by simp)
  have t1 : w3.cell? ⟨w.heap.size, 1, none⟩ = some (.int .i64 at_) := (HB3.out.cell (p := ⟨w.heap.size, 1, none⟩) (by simp)).trans (by simp)
  clear hb3
  go_wp2_with fail
  refine (wrap_nil _ _ _).mono ?_
  rintro r w4 ⟨rfl, rfl⟩
  go_wp2_with fail
  go_ret
  exact ⟨rfl, below_all HB.out HB3.out⟩

set_option maxHeartbeats 2000000 in
set_option maxRecDepth 100000 in
theorem wraps_true {w : World} (hg : Gl w) (e : Int) (he : (e == 0) = false) (A : Option Addr) (l : List (ByteArray × Int)) (c : Nat) (op : ByteArray) (at_ : Int) (hl : l.length ≤ 100) (hs : Steps w w.heap.size A l) : Calls Tryd.prog 4 #[.int .i64 e, .slice A l.length c, .agg #[.string op, .int .i64 at_]] w (TrueB w) := by
  have HB := Lib.hid ((Below.refl w.heap.size w).alloc (Nat.le_refl _) (.cells #[.string op, .int .i64 at_] 44))
  have HG := Lib.hid (hg.below HB.out)
  have HS := Lib.hid hs
  clear hg hs
  go_enter Tryd.func4, Tryd.ntmps4
  go_wp2_with fail
  refine (awake_true HG.out).mono ?_
  rintro r w1 ⟨rfl, hb1⟩
  have HB1 := Lib.hid hb1
  clear hb1
  go_wp2_with fail
  refine (made_err e he A l c hl ((HS.out.up HB.out).up HB1.out)).mono ?_
  rintro r w2 ⟨v2, A2, c2, rfl, herr2, _, hb2⟩
  have hal : Below w2.heap.size w2 (w2.alloc (.cells #[.slice A2 l.length c2, .int .i64 e] 29)) := (Below.refl _ _).alloc (Nat.le_refl _) _
  have HBa := Lib.hid (below_all (below_all HB1.out hb2) hal)
  have HEa := Lib.hid (herr2.below hal)
  obtain ⟨tt, x, rfl⟩ := herr2.form
  clear hb2 herr2 hal
  go_wp2_with fail
  refine (trail_err (by simp; omega) HEa.out).mono ?_
  rintro r w3 ⟨v3, rfl, hst3, hb3⟩
  have HB3 := Lib.hid (below_all HBa.out hb3)
  have HE3 := Lib.hid (HEa.out.below hb3)
  have HT3 := Lib.hid hst3
  have t0 : w3.cell? ⟨w.heap.size, 0, none⟩ = some (.string op) := (HB3.out.cell (p := ⟨w.heap.size, 0, none⟩) (by simp)).trans (by simp)
  have t1 : w3.cell? ⟨w.heap.size, 1, none⟩ = some (.int .i64 at_) := (HB3.out.cell (p := ⟨w.heap.size, 1, none⟩) (by simp)).trans (by simp)
  clear hb3 hst3
  go_wp2_with fail
  refine (wrap_err op at_ he HE3.out).mono ?_
  rintro r w4 ⟨v4, rfl, herr4, hb4⟩
  have HB4 := Lib.hid (below_all HB3.out hb4)
  have HE4 := Lib.hid (HE3.out.below hb4)
  have HW4 := Lib.hid herr4
  have HT4 := Lib.hid (HT3.out.up hb4)
  clear herr4 hb4 t0 t1
  go_wp2_with fail
  refine (trail_err (by simp; omega) HW4.out).mono ?_
  rintro r w5 ⟨v5, rfl, hst5, hb5⟩
  have HB5 := Lib.hid (below_all HB4.out hb5)
  have HE5 := Lib.hid (HE4.out.below hb5)
  have HW5 := Lib.hid (HW4.out.below hb5)
  have HT5 := Lib.hid (HT4.out.up hb5)
  have HN5 := Lib.hid hst5
  have t0 : w5.cell? ⟨w.heap.size, 0, none⟩ = some (.string op) := (HB5.out.cell (p := ⟨w.heap.size, 0, none⟩) (by simp)).trans (by simp)
  have t1 : w5.cell? ⟨w.heap.size, 1, none⟩ = some (.int .i64 at_) := (HB5.out.cell (p := ⟨w.heap.size, 1, none⟩) (by simp)).trans (by simp)
  clear hb5 hst5
  obtain ⟨A3, c3, rfl, hc3, hA3⟩ := HT5.out
  obtain ⟨A5, c5, rfl, hc5, hA5⟩ := HN5.out
  have hlen3 : (ops l.reverse).length = l.length := by simp [ops]
  have hlen5 : (ops ((op, at_) :: l.reverse)).length = l.length + 1 := by simp [ops]
  obtain ⟨b5, o5, rfl, hb5l, hcell5⟩ := hA5 (by omega)
  have n0 : w5.cell? ⟨b5, o5, none⟩ = some (.string op) := hcell5 0 (by omega)
  rw [hlen5] at hc5
  rw [hlen3, hlen5] at *
  have hn0 : 0 < l.length + 1 := by omega
  have hnq : (((l.length + 1 : Nat) : Int) == (l.length : Int) + 1) = true := by simp
  generalize hn5 : l.length + 1 = n5 at *
  have HN := Lib.hid hn5
  clear hn5 hlen3 hlen5 hA3 hA5 hcell5
  go_wp2_with fail
  refine (place_err op HW5.out).mono ?_
  rintro r w6 ⟨rfl, rfl⟩
  rw [placeOf_self]
  go_wp2_with fail
  have hdr : Below w5.heap.size w5 w5.drew := (Below.refl _ _).drew
  have HGd := Lib.hid (HG.out.below (below_all HB5.out hdr))
  have HWd := Lib.hid (HW5.out.below hdr)
  have HEd := Lib.hid (HE5.out.below hdr)
  have HTd : Hid (Strs w5.drew w5.drew.heap.size (.slice A3 l.length c3) (ops l.reverse)) := by
    have h0 := HT5.out.up hdr
    rw [show (ops l.reverse).length = l.length by simp [ops]] at h0
    exact Lib.hid h0
  have HNd := Lib.hid (HN5.out.up hdr)
  clear hdr
  have hi0 : (0 : Int) < (n5 : Int) := by omega
  have hi1 : (1 : Int) ≤ (n5 : Int) := by omega
  have hi2 : (n5 : Int) ≤ (c5 : Int) := by omega
  have hi3 : (0 : Int) ≤ (n5 : Int) := by omega
  have hb5' : b5 < w5.drew.heap.size := hb5l
  have hM0 := lt_of_cell t0
  have hK : Hid (w5.cell? ⟨b5, o5, none⟩ = some (.string op) ∧ w5.cell? ⟨w.heap.size, 0, none⟩ = some (.string op) ∧ w5.cell? ⟨w.heap.size, 1, none⟩ = some (.int .i64 at_)) := Lib.hid ⟨n0, t0, t1⟩
  have HL0 := Lib.hid (show (ops l.reverse).length = l.length by simp [ops])
  obtain ⟨AX, hsl, hst, hX⟩ := slice_tail b5 o5 n5 c5 (by omega) (by omega)
  have HTail : Hid (Strs w5.drew w5.drew.heap.size (.slice AX (n5 - 1) (c5 - 1)) (ops l.reverse)) := by
    have h0 := tail_if HN.out hc5 HNd.out
    rw [← hX] at h0
    exact Lib.hid h0
  clear hX
  have hwr : IntKind.i64.wrap ((l.length : Int) + 1) = (l.length : Int) + 1 := IntWalk.i64_in _ (by omega)
  go_region_held3 (fun w' => w'.cell? ⟨b5, o5, none⟩ = some (.string op) ∧ w'.cell? ⟨w.heap.size, 0, none⟩ = some (.string op) ∧ w'.cell? ⟨w.heap.size, 1, none⟩ = some (.int .i64 at_))
      (first | exact K10.out | exact K8.out | exact K7.out | go_keep)
      (first
        | (go_at_call 11; (with_reducible refine (code_err HGd.out HWd.out).mono ?_); rintro r w7 ⟨rfl, hb7⟩; have HB7 := Lib.hid hb7; clear hb7; have K7 := Lib.hid (keep3 hK.out HB7.out hb5l hM0))
        | (go_at_call 11; (with_reducible refine (code_err (HGd.out.below HB7.out) (HEd.out.below HB7.out)).mono ?_); rintro r w8 ⟨rfl, hb8⟩; have HB8 := Lib.hid (below_all HB7.out hb8); clear hb8; have K8 := Lib.hid (keep3 hK.out HB8.out hb5l hM0))
        | (go_at_call 15; (with_reducible refine (fIs_err e (HWd.out.below HB8.out)).mono ?_); rintro r w9 ⟨rfl, rfl⟩; rw [show (!(e == 0) && (e == e)) = true from by simp [he]])
        | (go_at_call 12; (refine (same_strs (w := w8) (B := w8.heap.size) (B' := w8.heap.size) (xs := ops l.reverse) (by rw [HL0.out]; omega) ?_ ?_).mono ?_); exact (HTail.out.up HB8.out); exact (HTd.out.up HB8.out); rintro r w10 ⟨rfl, n10, rfl⟩; have HB10 := Lib.hid (below_drewN HB8.out n10); have K10 := Lib.hid (keep3 hK.out HB10.out hb5l hM0)))
  go_wp2
  go_ret
  exact ⟨rfl, below_all HB.out (below_all (below_all HB5.out (Below.refl _ _).drew) HB10.out)⟩
end Go.Proofs.YtppanjdhfecmpaaDoor
