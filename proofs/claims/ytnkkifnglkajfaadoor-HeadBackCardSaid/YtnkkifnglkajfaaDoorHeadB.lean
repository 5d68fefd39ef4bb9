/-
  head.lay, in whatever row of bytes.
-/
import Derived.Test.YtnkkifnglkajfaaDoorHeadA
namespace Go.Proofs.YtnkkifnglkajfaaDoor
open Go.RowKit

/-- Block g is these cells. -/
def Blk (w : World) (g : Nat) (T : TypeId) (cs : List Value) : Prop := w.heap[g]? = some (.cells cs.toArray T (0, 0))
theorem Blk.cell {w : World} {g : Nat} {T : TypeId} {cs : List Value} (h : Blk w g T cs) (k : Nat) (hk : k < cs.length) : w.cell? ⟨g, k, none⟩ = some cs[k] := by
  rw [cell_of_row w g k cs.toArray T (0, 0) h]
  simp [hk]
theorem Blk.free {w : World} {g : Nat} {T : TypeId} {cs : List Value} (h : Blk w g T cs) (k : Nat) : w.frozen? ⟨g, k, none⟩ = false := frozen_of_row w g k cs.toArray T h
theorem Blk.put {w : World} {g : Nat} {T : TypeId} {cs : List Value} (h : Blk w g T cs) (k : Nat) (u : Value) : Blk (w.setCell ⟨g, k, none⟩ u) g T (cs.set k u) := by
  have := heap_setCell_same w g k cs.toArray T u h
  unfold Blk
  rw [this]
  simp
theorem Blk.up {w w' : World} {B g : Nat} {T : TypeId} {cs : List Value} (h : Blk w g T cs) (hb : Below B w w') (hg : g < B) : Blk w' g T cs := (hb.block g hg).trans h
theorem Blk.kept {w w' : World} {g : Nat} {T : TypeId} {cs : List Value} {row : Option Nat} (h : Blk w g T cs) (hg : w.grownBy w' row) (hne : some g ≠ row) : Blk w' g T cs := (hg.block g (lt_of_block h) hne).trans h
theorem grown_put {w w' : World} {g : Nat} (h : w.grownBy w' (some g)) (k : Nat) (u : Value) : w.grownBy (w'.setCell ⟨g, k, none⟩ u) (some g) :=
  ⟨h.os, h.tape, h.output, by simp [World.setCell]; exact h.size, fun j hj hne => (Below.heap_setCell _ _ _ _ (fun e => hne (by rw [e]))).trans (h.block j hj hne)⟩
theorem grown_drew {w w' : World} {row : Option Nat} (h : w.grownBy w' row) : w.grownBy w'.drew row := ⟨h.os, h.tape, h.output, h.size, h.block⟩
/-- Block g is these bytes. -/
def Blk8 (w : World) (g : Nat) (xs : List Int) : Prop := Blk w g 5 (cellsOf8 xs)
theorem Blk8.put {w : World} {g : Nat} {xs : List Int} (h : Blk8 w g xs) (k : Nat) (c : Int) : Blk8 (w.setCell ⟨g, k, none⟩ (.int .u8 c)) g (xs.set k c) := by
  have := Blk.put h k (.int .u8 c)
  unfold Blk8
  rw [show cellsOf8 (xs.set k c) = (cellsOf8 xs).set k (.int .u8 c) by simp [cellsOf8, List.map_set]]
  exact this
theorem Blk8.rd {w : World} {g : Nat} {xs : List Int} (h : Blk8 w g xs) (o : Nat) : Rd w w.heap.size (some ⟨g, o, none⟩) (xs.drop o) := by
  intro hn
  simp at hn
  refine ⟨g, o, rfl, lt_of_block h, fun i hi => ?_⟩
  simp at hi
  rw [Blk.cell h (o + i) (by simp [cellsOf8]; omega)]
  simp [cellsOf8]
theorem Blk8.own {w : World} {g base : Nat} {xs : List Int} (h : Blk8 w g xs) (hb : base ≤ g) (hm : xs.length ≤ 1000000) : Own8 w base g xs.length xs :=
  ⟨by simp [cellsOf8], .inr ⟨g, xs.length, (cellsOf8 xs).toArray, rfl, hb, h, Nat.le_refl _, by unfold maxLen; omega, by simp [cellsOf8], by rw [Nat.mul_one]; exact List.take_of_length_le (by simp [cellsOf8])⟩⟩

theorem Own8.kept {w w' : World} {base g cap : Nat} {xs : List Int} {row : Option Nat} (h : Own8 w base g cap xs) (hg : w.grownBy w' row) (hne : some g ≠ row) : Own8 w' base g cap xs := World.ownsRow.kept h hg (.inr hne)
theorem Own8.le {w : World} {base base' g cap : Nat} {xs : List Int} (h : Own8 w base g cap xs) (hb : base' ≤ base) : Own8 w base' g cap xs :=
  ⟨h.1, h.2.imp id fun ⟨g', c', cur, hv, hg, r⟩ => ⟨g', c', cur, hv, Nat.le_trans hb hg, r⟩⟩
/-- The bytes of numbers. -/
def flat (ns : List Int) : List Int := ns.flatMap four
theorem flat_len (ns : List Int) : (flat ns).length = 4 * ns.length := by
  induction ns with
  | nil => rfl
  | cons n ns ih =>
    have : flat (n :: ns) = four n ++ flat ns := rfl
    rw [this, List.length_append, ih, four_len, List.length_cons]
    omega
theorem flat_get (ns : List Int) (i : Nat) (hi : i < ns.length) : (flat ns)[4 * i]? = some (ns[i] % 256) ∧ (flat ns)[4 * i + 1]? = some (ns[i] / 256 % 256) ∧ (flat ns)[4 * i + 2]? = some (ns[i] / 65536 % 256) ∧ (flat ns)[4 * i + 3]? = some (ns[i] / 16777216 % 256) := by
  induction ns generalizing i with
  | nil => simp at hi
  | cons n ns ih =>
    have e : flat (n :: ns) = (n % 256) :: (n / 256 % 256) :: (n / 65536 % 256) :: (n / 16777216 % 256) :: flat ns := rfl
    cases i with
    | zero => simp [e]
    | succ i =>
      have := ih i (by simpa using hi)
      simp only [e, List.getElem_cons_succ]
      rw [show 4 * (i + 1) = 4 * i + 1 + 1 + 1 + 1 by omega]
      simpa [Nat.add_right_comm _ 1, Nat.add_assoc, List.getElem?_cons_succ] using this
theorem lay_step {xs fl : List Int} {o t : Nat} {v : Int} (hv : fl[t]? = some v) (h : o + fl.length ≤ xs.length) : (putB xs o (fl.take t)).set (o + t) v = putB xs o (fl.take (t + 1)) := by
  obtain ⟨ht, rfl⟩ := List.getElem?_eq_some_iff.1 hv
  have e : (fl.take t).length = t := by simp; omega
  have := putB_snoc (xs := xs) (ys := fl.take t) (o := o) fl[t] (by omega)
  rw [e] at this
  rw [this, List.take_succ_eq_append_getElem ht]

def LayIs (g o : Nat) (xs fl : List Int) (w : World) (r : Ending) (w' : World) : Prop := r = .returned (.tuple #[]) ∧ w.grownBy w' (some g) ∧ Blk8 w' g (putB xs o fl)
set_option maxHeartbeats 2000000 in
theorem lay_is (g o n c vb c2 : Nat) (xs ns : List Int) (w : World) (hg : Blk8 w g xs) (hn : 4 * ns.length ≤ n) (ho : o + n ≤ xs.length) (hvb : vb ≠ g) (_hvl : vb < w.heap.size) (hv : ∀ j (h : j < ns.length), w.cell? ⟨vb, j, none⟩ = some (.int .u32 ns[j]))
    (hb : ∀ x ∈ ns, 0 ≤ x ∧ x ≤ 4294967295) (hm : ns.length ≤ 1000) (hnc : n ≤ 100000) : Calls Tryd.prog 16 #[.slice (some ⟨g, o, none⟩) n c, .slice (some ⟨vb, 0, none⟩) ns.length c2] w (LayIs g o xs (flat ns) w) := by
  have HG := Lib.hid hg
  have HV := Lib.hid hv
  have HB := Lib.hid hb
  have HVB := Lib.hid hvb
  clear hg hv hb hvb
  go_enter Tryd.func16, Tryd.ntmps16
  go_wp2_with fail
  go_loopg [9] ns.length (fun k x wr => ∃ i : Nat, i ≤ ns.length ∧ k = ns.length - i ∧ x = .int .i64 i ∧ w.grownBy wr (some g) ∧ Blk8 wr g (putB xs o ((flat ns).take (4 * i))))
  case atStart => exact ⟨0, by omega, by omega, rfl, World.grownBy.refl _ _, by rw [Nat.mul_zero, List.take_zero, putB_nil]; exact HG.out⟩
  case round =>
    obtain ⟨i, hi, hk, rfl, hgr, hbl⟩ := hrel
    have HK := Lib.hid hk
    have HGR := Lib.hid hgr
    have HBL := Lib.hid hbl
    clear hk hgr hbl
    by_cases hlt : i < ns.length
    · have c0 : wr.cell? ⟨vb, i, none⟩ = some (.int .u32 ns[i]) := HGR.out.cell (HV.out i hlt) (fun e => HVB.out (Option.some.inj e))
      obtain ⟨n0, n1⟩ := HB.out _ (List.getElem_mem hlt)
      have HF := Lib.hid (flat_get ns i hlt)
      generalize ns[i] = x at *
      go_wp2_with fail
      obtain ⟨wo, rfl⟩ : ∃ wo : World, wo = wr := ⟨_, rfl⟩
      clear c0
      go_loopg [14] 4 (fun k y wr => ∃ j : Nat, j ≤ 4 ∧ k = 4 - j ∧ y = .int .i64 j ∧ w.grownBy wr (some g) ∧ Blk8 wr g (putB xs o ((flat ns).take (4 * i + j))))
      case atStart => exact ⟨0, by omega, by omega, rfl, HGR.out, HBL.out⟩
      case round =>
        clear HGR HBL
        obtain ⟨j, hj, hk, rfl, hgr, hbl⟩ := hrel
        have HK2 := Lib.hid hk
        have HGR := Lib.hid hgr
        have HBL := Lib.hid hbl
        clear hk hgr hbl
        by_cases hlt2 : j < 4
        · have hfl := flat_len ns
          have hj4 : j = 0 ∨ j = 1 ∨ j = 2 ∨ j = 3 := by omega
          clear hj hlt2
          rcases hj4 with rfl | rfl | rfl | rfl
          · obtain ⟨t, ht⟩ : ∃ t : Nat, (i : Int) * 4 = (t : Int) := ⟨4 * i + 0, by omega⟩
            have ht2 : t = 4 * i + 0 := by omega
            have f1 := Blk.free HBL.out (o + t)
            obtain ⟨old, f2⟩ : ∃ old, wr.cell? ⟨g, o + t, none⟩ = some old := ⟨_, Blk.cell HBL.out (o + t) (by rw [cells8_len, putB_len (by simp; omega)]; omega)⟩
            have HP : Hid (Blk8 (wr.setCell ⟨g, o + t, none⟩ (.int .u8 (x % 256))) g (putB xs o ((flat ns).take (4 * i + 0 + 1)))) := Lib.hid (by
              rw [← lay_step HF.out.1 (by omega), show o + 4 * i = o + t by omega]
              exact Blk8.put HBL.out (o + t) _)
            have htn : t < n := by omega
            clear hfl ht2
            go_wp2_with fail
            go_roundg (4 - (0 + 1))
            case rel => exact ⟨0 + 1, by omega, rfl, by go_num, grown_put HGR.out _ _, HP.out⟩
            case measure => have := HK2.out; omega
          · obtain ⟨t, ht⟩ : ∃ t : Nat, (i : Int) * 4 + 1 = (t : Int) := ⟨4 * i + 1, by omega⟩
            have ht2 : t = 4 * i + 1 := by omega
            have f1 := Blk.free HBL.out (o + t)
            obtain ⟨old, f2⟩ : ∃ old, wr.cell? ⟨g, o + t, none⟩ = some old := ⟨_, Blk.cell HBL.out (o + t) (by rw [cells8_len, putB_len (by simp; omega)]; omega)⟩
            have HP : Hid (Blk8 (wr.setCell ⟨g, o + t, none⟩ (.int .u8 (x / 256 % 256))) g (putB xs o ((flat ns).take (4 * i + 1 + 1)))) := Lib.hid (by
              rw [← lay_step HF.out.2.1 (by omega), show o + (4 * i + 1) = o + t by omega]
              exact Blk8.put HBL.out (o + t) _)
            have htn : t < n := by omega
            clear hfl ht2
            go_wp2_with fail
            go_roundg (4 - (1 + 1))
            case rel => exact ⟨1 + 1, by omega, rfl, by go_num, grown_put HGR.out _ _, HP.out⟩
            case measure => have := HK2.out; omega
          · obtain ⟨t, ht⟩ : ∃ t : Nat, (i : Int) * 4 + 2 = (t : Int) := ⟨4 * i + 2, by omega⟩
            have ht2 : t = 4 * i + 2 := by omega
            have f1 := Blk.free HBL.out (o + t)
            obtain ⟨old, f2⟩ : ∃ old, wr.cell? ⟨g, o + t, none⟩ = some old := ⟨_, Blk.cell HBL.out (o + t) (by rw [cells8_len, putB_len (by simp; omega)]; omega)⟩
            have HP : Hid (Blk8 (wr.setCell ⟨g, o + t, none⟩ (.int .u8 (x / 65536 % 256))) g (putB xs o ((flat ns).take (4 * i + 2 + 1)))) := Lib.hid (by
              rw [← lay_step HF.out.2.2.1 (by omega), show o + (4 * i + 2) = o + t by omega]
              exact Blk8.put HBL.out (o + t) _)
            have htn : t < n := by omega
            clear hfl ht2
            go_wp2_with fail
            go_roundg (4 - (2 + 1))
            case rel => exact ⟨2 + 1, by omega, rfl, by go_num, grown_put HGR.out _ _, HP.out⟩
            case measure => have := HK2.out; omega
          · obtain ⟨t, ht⟩ : ∃ t : Nat, (i : Int) * 4 + 3 = (t : Int) := ⟨4 * i + 3, by omega⟩
            have ht2 : t = 4 * i + 3 := by omega
            have f1 := Blk.free HBL.out (o + t)
            obtain ⟨old, f2⟩ : ∃ old, wr.cell? ⟨g, o + t, none⟩ = some old := ⟨_, Blk.cell HBL.out (o + t) (by rw [cells8_len, putB_len (by simp; omega)]; omega)⟩
            have HP : Hid (Blk8 (wr.setCell ⟨g, o + t, none⟩ (.int .u8 (x / 16777216))) g (putB xs o ((flat ns).take (4 * i + 3 + 1)))) := Lib.hid (by
              rw [← lay_step HF.out.2.2.2 (by omega), show x / 16777216 % 256 = x / 16777216 by omega, show o + (4 * i + 3) = o + t by omega]
              exact Blk8.put HBL.out (o + t) _)
            have htn : t < n := by omega
            clear hfl ht2
            go_wp2_with fail
            go_roundg (4 - (3 + 1))
            case rel => exact ⟨3 + 1, by omega, rfl, by go_num, grown_put HGR.out _ _, HP.out⟩
            case measure => have := HK2.out; omega
        · obtain rfl : j = 4 := by omega
          go_wp2_with fail
          go_roundg (ns.length - (i + 1))
          case rel => exact ⟨i + 1, by omega, rfl, by go_num, HGR.out, HBL.out⟩
          case measure => have := HK.out; omega
    · obtain rfl : i = ns.length := by omega
      go_wp2_with fail
      go_end0
      refine ⟨rfl, HGR.out, ?_⟩
      have := HBL.out
      rwa [List.take_of_length_le (by rw [flat_len]; omega)] at this
end Go.Proofs.YtnkkifnglkajfaaDoor
