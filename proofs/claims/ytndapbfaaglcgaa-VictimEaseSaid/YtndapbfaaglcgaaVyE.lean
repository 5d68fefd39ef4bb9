/-
  The numbers of zones, by a range.
-/
import Derived.Test.YtndapbfaaglcgaaVyC
namespace Go.Proofs.Ytndapbfaaglcgaa
open Go.RowKit

set_option maxHeartbeats 2000000 in
set_option maxRecDepth 100000 in
theorem vyids_at {w : World} {A : Option Addr} {n c : Nat} (l : List VZ) (hl : l.length = n) (hr : RdV w w.heap.size A (zsC l)) (hn : n ≤ 1000) : Calls Try.prog 19 #[.slice A n c] w (IdsIs (VZ.ids l) w) := by
  have HR := Lib.hid hr
  have HN := Lib.hid hl
  have HO0 : Hid (OwnK w w.heap.size 3 1 (.slice none 0 0) 0 []) := Lib.hid (OwnK.nil _ _ _ _)
  clear hr hl
  go_enter Try.func19, Try.ntmps19
  go_wp2_with fail
  go_loopg [3, 8] n (fun q x y wr => ∃ i : Nat, i ≤ n ∧ q = n - i ∧ y = .int .i64 (i : Int) ∧ OwnK wr w.heap.size 3 1 x i (iCells (VZ.ids (l.take i))) ∧ Below w.heap.size w wr)
  case atStart => exact ⟨0, by omega, rfl, rfl, by simpa [VZ.ids, iCells] using HO0.out, Below.refl _ _⟩
  case round =>
    clear HO0
    obtain ⟨i, hi, hq, rfl, ho, hb⟩ := hrel
    have HQ := Lib.hid hq
    have HO := Lib.hid ho
    have HB := Lib.hid hb
    clear hq ho hb
    by_cases hlt : i < n
    · have hll : i < l.length := by rw [HN.out]; exact hlt
      obtain ⟨b, o, rfl, _, hcell⟩ := (HR.out.below HB.out) (by rw [zsC_len, HN.out]; omega)
      obtain ⟨c0, c1, c2⟩ := z_cells hcell i hll
      have HT : Hid (iCells (VZ.ids (l.take (i + 1))) = iCells (VZ.ids (l.take i)) ++ [.int .i64 l[i].id]) := Lib.hid (by rw [List.take_succ_eq_append_getElem hll]; unfold VZ.ids iCells; rw [List.map_append, List.map_append]; rfl)
      obtain ⟨x, hx⟩ : ∃ x, l[i].id = x := ⟨_, rfl⟩
      obtain ⟨y, hy⟩ : ∃ y, l[i].v = y := ⟨_, rfl⟩
      obtain ⟨d, hd⟩ : ∃ d, l[i].age = d := ⟨_, rfl⟩
      rw [hx] at c0 HT
      rw [hy] at c1
      rw [hd] at c2
      obtain ⟨cs, hcs⟩ : ∃ cs, iCells (VZ.ids (l.take i)) = cs := ⟨_, rfl⟩
      rw [hcs] at HT HO
      obtain ⟨w6, hw6⟩ : ∃ w6, wr.alloc (.cells #[.int .i64 x, .int .i64 y, .int .u32 (d : Int)] 38) = w6 := ⟨_, rfl⟩
      have hb6 : Below wr.heap.size wr w6 := by rw [← hw6]; exact (Below.refl _ _).alloc (Nat.le_refl _) _
      have hx6 : Blk w6 wr.heap.size 38 [.int .i64 x, .int .i64 y, .int .u32 (d : Int)] := by rw [← hw6]; exact heap_alloc_new wr _
      have y0 := hx6.cell 0 (by simp)
      obtain ⟨a, ha⟩ : ∃ a, wr.heap.size = a := ⟨_, rfl⟩
      rw [ha] at y0
      obtain ⟨w7, hw7⟩ : ∃ w7, w6.alloc (.cells #[.int .i64 x] 3) = w7 := ⟨_, rfl⟩
      have hb7 : Below w6.heap.size w6 w7 := by rw [← hw7]; exact (Below.refl _ _).alloc (Nat.le_refl _) _
      have HO7 := Lib.hid ((HO.out.up hb6).up hb7)
      have HB7 := Lib.hid (below_all (below_all HB.out hb6) hb7)
      have HR7 : Hid (RdV w7 w7.heap.size (some ⟨w6.heap.size, 0, none⟩) [.int .i64 x]) := Lib.hid (by rw [← hw7]; exact new_rd w6 3 [.int .i64 x])
      clear hcell hx hy hd hcs hb6 hb7 hx6 HO HB
      go_wp2_with (first
        | (at_builtin; go_loud (refine appP _ rfl (.tmp 12) (.tmp 15) 29 3 (.int .i64 0) 1 8 rfl Try.underlying29 intInfo rfl (by decide) (by decide) w.heap.size i 1 1 u3 cs [.int .i64 x] (some ⟨w6.heap.size, 0, none⟩) rfl HO7.out rfl rfl HR7.out (fun e => by cases e) (fun u hu => by simp only [List.mem_cons, List.not_mem_nil, or_false] at hu; rcases hu with rfl; rfl) (by omega) HB7.out.size ?_; intro v8 w8 ho hg; have HO8 : Hid (OwnK w8 w.heap.size 3 1 v8 (i + 1) (iCells (VZ.ids (l.take (i + 1))))) := Lib.hid (by rw [HT.out]; exact ho); have HB8 := Lib.hid (below_grown HB7.out hg (fun e he => HO7.out.own e he)); clear ho hg))
        | fail)
      go_roundg (n - (i + 1))
      case rel => exact ⟨i + 1, by omega, rfl, by go_num, HO8.out, HB8.out⟩
      case measure => have := HQ.out; omega
    · obtain rfl : i = n := by omega
      have hto : l.take i = l := List.take_of_length_le (by rw [HN.out]; exact Nat.le_refl _)
      rw [hto] at HO
      have HE : Hid (IdsIs (VZ.ids l) w (.returned u3) wr) := Lib.hid ⟨_, rfl, by rw [show (VZ.ids l).length = i by simp [VZ.ids, HN.out]]; exact HO.out, HB.out⟩
      clear HO hto
      go_wp2_with fail
      go_ret
      exact HE.out
end Go.Proofs.Ytndapbfaaglcgaa
