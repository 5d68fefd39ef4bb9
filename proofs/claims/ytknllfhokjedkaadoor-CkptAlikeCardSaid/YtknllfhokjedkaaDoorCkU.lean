/-
  slices.Clone of numbers, slices.Grow of no bytes, slices.Concat of rows of sixteen bytes.
-/
import Derived.Test.YtknllfhokjedkaaDoorCkT
import Derived.Lib.AppendZeros
namespace Go.Proofs.YtknllfhokjedkaaDoor
open Go.RowKit

theorem eq_nil32 (a : Option Addr) (n c : Nat) (w : World) : (binOp .eql 25 (.slice a n c) (.slice none 0 0)).run Tryd.prog w = .ok (.bool a.isNone) w := by
  simp only [binOp]
  simp [run_equal_slice_nil w 25 22 a n c Tryd.underlying25]
def Nums1Is (m : Nat) (ns : List Int) (w : World) (r : Ending) (w' : World) : Prop := ∃ g cap, r = .returned (.slice (some ⟨g, 0, none⟩) m cap) ∧ OwnG w' w.heap.size 22 g cap (u32s ns) ∧ Below w.heap.size w w'
set_option maxHeartbeats 1000000 in
set_option maxRecDepth 100000 in
theorem clone_is {A : Option Addr} {n c : Nat} {ns : List Int} {w : World} (hl : ns.length = n) (hv : RdV w w.heap.size A (u32s ns)) (h1 : 1 ≤ n) (hn : n ≤ 1000) : Calls Tryd.prog 34 #[.slice A n c] w (Nums1Is n ns w) := by
  obtain ⟨b, o, rfl, hlt, _⟩ := id hv (by rw [u32s_len]; omega)
  have HL := Lib.hid hl
  have HV := Lib.hid hv
  have HE := Lib.hid (OwnG.new w w.heap.size 22 [] (Nat.le_refl _) (by simp))
  have HB := Lib.hid (Below.alloc (Below.refl w.heap.size w) (Nat.le_refl _) (.cells #[] 22))
  clear hl hv
  have hq := eq_nil32
  go_enter Tryd.func34, Tryd.ntmps34
  go_wp2_with (first
    | (at_builtin; refine appG _ rfl (.tmp 5) (.tmp 6) 25 22 (.int .u32 0) 4 rfl Tryd.underlying25 infoU32 (by decide) (by decide) w.heap.size w.heap.size 0 0 n c [] (u32s ns) ⟨b, o, none⟩ rfl HE.out rfl rfl ?h12 ?h1src (one_u32s _) ?h13 ?h14 ?h15 ?h16; (case h12 => rw [u32s_len]; exact HL.out); (case h13 => omega); (case h14 => omega); (case h15 => simp); (case h1src => exact RdV.src (HV.out.below HB.out)); intro g4 cap4 w4 ho hg hgg; have HO4 := Lib.hid ho; have HB4 := Lib.hid (HB.out.grown hg HB.out.size (fun j hj => by have := Option.some.inj hj; omega)); clear ho hg hgg HE HB)
    | fail)
  go_ret
  refine ⟨g4, cap4, rfl, ?_, HB4.out⟩
  have := HO4.out
  rwa [List.nil_append] at this

def GrownIs (w : World) (r : Ending) (w' : World) : Prop := ∃ g cap, r = .returned (.slice (some ⟨g, 0, none⟩) 0 cap) ∧ Own8 w' w.heap.size g cap [] ∧ Below w.heap.size w w'
set_option maxHeartbeats 1000000 in
set_option maxRecDepth 100000 in
theorem grow_is (n : Nat) (w : World) (h1 : 1 ≤ n) (hn : n ≤ 20000) : Calls Tryd.prog 47 #[.slice none 0 0, .int .i64 (n : Int)] w (GrownIs w) := by
  obtain ⟨i0, hi, hz0, hz1, hz2⟩ := info_parts byteInfo
  have hz := Lib.run_append_nil_zeros w 55 3 55 5 i0 (.int .u8 0) .i64 .i64 Tryd.underlying55 Tryd.underlying3 hi hz0 n h1 (by rw [hz1]; omega) (by omega) (by rw [hz2]; omega)
  have hcap := grownCap_le_maxLen w n 0 5 (by unfold maxLen; omega)
  have hcap2 := grownCap_ge w n 0 5
  generalize grownCap w n 0 5 = cap at *
  have HO : Hid (Own8 (w.drew.alloc (.cells (Builtin.zeroCells (Value.int .u8 0).cells n ++ Builtin.zeroCells (Value.int .u8 0).cells (cap - n)) 5)) w.heap.size w.heap.size cap []) := Lib.hid
    ⟨by simp [cellsOf8], .inr ⟨w.heap.size, cap, _, rfl, Nat.le_refl _, heap_alloc_new w.drew _, by simp, hcap, by simp [size_zeroCells, Value.cells]; omega, by simp [cellsOf8]⟩⟩
  have HB := Lib.hid (Below.alloc (Below.refl w.heap.size w).drew (Nat.le_refl _) (.cells (Builtin.zeroCells (Value.int .u8 0).cells n ++ Builtin.zeroCells (Value.int .u8 0).cells (cap - n)) 5))
  have HZ := Lib.hid hz
  clear hz hz0 hz1 hz2 hi
  go_enter Tryd.func47, Tryd.ntmps47
  go_wp2_with (first
    | (at_builtin; refine Lib.wpList_append_run _ rfl _ _ _ _ rfl _ _ rfl rfl _ _ HZ.out ?_)
    | fail)
  go_ret
  exact ⟨w.heap.size, cap, rfl, HO.out, HB.out⟩

/-- A row of bytes, one or more. -/
def Own1Is (m : Nat) (xs : List Int) (w : World) (r : Ending) (w' : World) : Prop := ∃ g cap, r = .returned (.slice (some ⟨g, 0, none⟩) m cap) ∧ Own8 w' w.heap.size g cap xs ∧ Below w.heap.size w w'
set_option maxHeartbeats 2000000 in
set_option maxRecDepth 100000 in
theorem concat_is {A : Option Addr} {n c m : Nat} {vs : List Value} {l : List (List Int)} {w : World} (hl : l.length = n) (hv : RdV w w.heap.size A vs) (hr : RdR w vs l) (h16 : ∀ x ∈ l, x.length = 16) (h1 : 1 ≤ n) (hn : n ≤ 1000) (hm : 16 * n = m) :
    Calls Tryd.prog 30 #[.slice A n c] w (Own1Is m l.flatten w) := by
  obtain ⟨b, o, rfl, hbl, hcell⟩ := hv (by rw [hr.1]; omega)
  have HL := Lib.hid hl
  have HV := Lib.hid hcell
  have HR := Lib.hid hr
  have H16 := Lib.hid h16
  have HM := Lib.hid hm
  have hmb : 1 ≤ m ∧ m ≤ 16000 := by omega
  clear hl hv hr h16 hm hcell
  go_enter Tryd.func30, Tryd.ntmps30
  go_wp2_with fail
  go_loopg [3, 11] n (fun q s x wr => ∃ i : Nat, i ≤ n ∧ q = n - i ∧ x = .int .i64 i ∧ s = .int .i64 ((16 * i : Nat) : Int) ∧ w = wr)
  case atStart => exact ⟨0, by omega, by omega, rfl, rfl, rfl⟩
  case round =>
    obtain ⟨i, hi, hk, rfl, rfl, rfl⟩ := hrel
    have HK := Lib.hid hk
    clear hk
    by_cases hlt : i < n
    · have hk1 : i < l.length := by rw [HL.out]; exact hlt
      have hv1 : i < vs.length := by rw [HR.out.1]; exact hk1
      obtain ⟨A1, d1, e1, hd1, hx1⟩ := HR.out.2 i hv1 hk1
      have c0 := HV.out i hv1
      rw [e1, H16.out _ (List.getElem_mem hk1)] at c0
      clear e1 hx1 hd1
      obtain ⟨t, ht⟩ : ∃ t : Nat, 16 * i = t := ⟨_, rfl⟩
      have htb : t ≤ 16000 := by omega
      rw [ht]
      go_wp2_with fail
      go_roundg (n - (i + 1))
      case rel => exact ⟨i + 1, by omega, rfl, by go_num, by rw [Nat.mul_add, ht]; go_num, rfl⟩
      case measure => have := HK.out; omega
    · obtain rfl : i = n := by omega
      clear HK
      rw [HM.out]
      go_wp2_with fail
      refine (grow_is m w hmb.1 (by omega)).mono ?_
      rintro r w1 ⟨g0, cap0, rfl, ho, hb⟩
      have HO0 := Lib.hid ho
      have HB0 := Lib.hid hb
      clear ho hb
      go_wp2_with fail
      go_loopg [6, 27] i (fun q s x wr => ∃ k g cap : Nat, k ≤ i ∧ q = i - k ∧ x = .int .i64 k ∧ s = .slice (some ⟨g, 0, none⟩) (16 * k) cap ∧ Own8 wr w.heap.size g cap (l.take k).flatten ∧ Below w.heap.size w wr)
      case atStart => exact ⟨0, g0, cap0, by omega, by omega, rfl, rfl, HO0.out, HB0.out⟩
      case round =>
        clear HO0 HB0
        obtain ⟨k, g, cap, hk, hq, rfl, rfl, ho, hb⟩ := hrel
        have HQ := Lib.hid hq
        have HO := Lib.hid ho
        have HB := Lib.hid hb
        clear hq ho hb
        by_cases hlt : k < i
        · have hk1 : k < l.length := by rw [HL.out]; exact hlt
          have hv1 : k < vs.length := by rw [HR.out.1]; exact hk1
          obtain ⟨A1, d1, e1, hd1, hx1⟩ := HR.out.2 k hv1 hk1
          have hx2 := rd_up hx1 HB.out
          have h16 := H16.out _ (List.getElem_mem hk1)
          obtain ⟨b1, o1, rfl, _, _⟩ := id hx2 (by omega)
          have c0 := (HB.out.cell (p := ⟨b, o + k, none⟩) hbl).trans (HV.out k hv1)
          rw [e1, h16] at c0
          have HX := Lib.hid hx2
          have H1 := Lib.hid h16
          have HF := Lib.hid (take_flatten hk1)
          have HLK : Hid ((l.take k).flatten.length = 16 * k) := Lib.hid (by
            rw [flat_len16 (fun x hx => H16.out x (List.mem_of_mem_take hx)), List.length_take, Nat.min_eq_left (by omega)])
          clear e1 hx1 hx2 hd1 h16
          generalize l[k] = x at *
          go_wp2_with (first
            | (at_builtin; refine app8 _ rfl (.tmp 31) (.tmp 32) rfl w.heap.size wr.heap.size g cap (16 * k) 16 d1 ((l.take k).flatten) x (some ⟨b1, o1, none⟩) rfl HO.out HLK.out rfl HX.out H1.out (fun h => by cases h) ?h21 ?h22 ?h23 ?h24; (case h21 => omega); (case h22 => omega); (case h23 => exact HB.out.size); intro g3 cap3 w3 ho hg; have HO3 := Lib.hid ho; have HB3 := Lib.hid (HB.out.grown hg HB.out.size (fun j hj => by have := Option.some.inj hj; have := HO.out.mem.1; omega)); clear ho hg HB HO)
            | fail)
          go_roundg (i - (k + 1))
          case rel => exact ⟨k + 1, g3, cap3, by omega, rfl, by go_num, by rw [Nat.mul_add], by rw [← HF.out]; exact HO3.out, HB3.out⟩
          case measure => have := HQ.out; omega
        · obtain rfl : k = i := by omega
          have HO2 := HO.out
          rw [List.take_of_length_le (by rw [HL.out]; omega)] at HO2
          have HO3 := Lib.hid HO2
          clear HO2
          go_wp2_with fail
          go_ret
          exact ⟨g, cap, by rw [← HM.out]; rfl, HO3.out, HB.out⟩
end Go.Proofs.YtknllfhokjedkaaDoor
