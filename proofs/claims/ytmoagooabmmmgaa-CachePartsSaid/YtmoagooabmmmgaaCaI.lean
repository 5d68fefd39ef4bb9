/-
  The law's own: entries.
-/
import Derived.Test.YtmoagooabmmmgaaCaCe
namespace Go.Proofs.Ytmoagooabmmmgaa
open Go.RowKit

set_option maxHeartbeats 2000000 in
set_option maxRecDepth 100000 in
theorem centries_at {w : World} {A : Option Addr} {n c : Nat} (l : List CE) (hl : l.length = n) (hr : RdV w w.heap.size A (cesC l)) (hn : n ≤ 1000) : Calls Try.prog 13 #[.slice A n c] w (DirtyIs l w) := by
  have HR := Lib.hid hr
  have HN := Lib.hid hl
  have HO0 : Hid (OwnK (w.alloc (.cells #[] 46)) w.heap.size 46 3 (.slice (some ⟨w.heap.size, 0, none⟩) 0 0) 0 []) := Lib.hid (OwnK.new w _ _ 3 0 [] (Nat.le_refl _) rfl (by omega))
  have HB0 : Hid (Below w.heap.size w (w.alloc (.cells #[] 46))) := Lib.hid ((Below.refl _ _).alloc (Nat.le_refl _) _)
  clear hr hl
  go_enter Try.func13, Try.ntmps13
  go_wp2_with fail
  go_loopg [3, 9] n (fun q x y wr => ∃ i : Nat, i ≤ n ∧ q = n - i ∧ y = .int .i64 (i : Int) ∧ OwnK wr w.heap.size 46 3 x i (cesC (l.take i)) ∧ Below w.heap.size w wr)
  case atStart => exact ⟨0, by omega, rfl, rfl, by simpa [cesC] using HO0.out, HB0.out⟩
  case round =>
    clear HO0 HB0
    obtain ⟨i, hi, hq, rfl, ho, hb⟩ := hrel
    have HQ := Lib.hid hq
    have HO := Lib.hid ho
    have HB := Lib.hid hb
    clear hq ho hb
    by_cases hlt : i < n
    · have hll : i < l.length := by rw [HN.out]; exact hlt
      obtain ⟨b, o, rfl, _, hcell⟩ := (HR.out.below HB.out) (by rw [cesC_len, HN.out]; omega)
      obtain ⟨c0, c1, c2⟩ := ces_cells hcell i hll
      have HT : Hid (l.take (i + 1) = l.take i ++ [l[i]]) := Lib.hid (List.take_succ_eq_append_getElem hll)
      obtain ⟨x, hx⟩ : ∃ x, l[i].b = x := ⟨_, rfl⟩
      obtain ⟨y, hy⟩ : ∃ y, l[i].a = y := ⟨_, rfl⟩
      obtain ⟨d, hd⟩ : ∃ d, l[i].d = d := ⟨_, rfl⟩
      have hxs : l[i] = ⟨x, y, d⟩ := by rw [← hx, ← hy, ← hd]
      rw [hxs] at c0 c1 c2 HT
      obtain ⟨lst, hlst⟩ : ∃ lst, l.take i = lst := ⟨_, rfl⟩
      rw [hlst] at HT HO
      obtain ⟨w6, hw6⟩ : ∃ w6, wr.alloc (.cells #[.int .i64 (x : Int), .int .u32 (y : Int), .bool d] 33) = w6 := ⟨_, rfl⟩
      have hb6 : Below wr.heap.size wr w6 := by rw [← hw6]; exact (Below.refl _ _).alloc (Nat.le_refl _) _
      have hx6 : Blk w6 wr.heap.size 33 [.int .i64 (x : Int), .int .u32 (y : Int), .bool d] := by rw [← hw6]; exact heap_alloc_new wr _
      have y0 := hx6.cell 0 (by simp)
      have y1 := hx6.cell 1 (by simp)
      have y2 := hx6.cell 2 (by simp)
      obtain ⟨a, ha⟩ : ∃ a, wr.heap.size = a := ⟨_, rfl⟩
      rw [ha] at y0 y1 y2
      obtain ⟨w7, hw7⟩ : ∃ w7, w6.alloc (.cells #[.int .i64 (x : Int), .int .u32 (y : Int), .bool d] 46) = w7 := ⟨_, rfl⟩
      have hb7 : Below w6.heap.size w6 w7 := by rw [← hw7]; exact (Below.refl _ _).alloc (Nat.le_refl _) _
      have HO7 := Lib.hid ((HO.out.up hb6).up hb7)
      have HB7 := Lib.hid (below_all (below_all HB.out hb6) hb7)
      have HR7 : Hid (RdV w7 w7.heap.size (some ⟨w6.heap.size, 0, none⟩) [.int .i64 (x : Int), .int .u32 (y : Int), .bool d]) := Lib.hid (fun _ => ⟨w6.heap.size, 0, rfl, by rw [← hw7]; simp, fun i hi => by rw [Nat.zero_add, ← hw7]; exact Blk.cell (T := 46) (heap_alloc_new w6 _) i hi⟩)
      clear hcell hx hy hd hxs hlst hb6 hx6 hb7 HO HB
      go_wp2_with (first
        | (at_builtin; go_loud (refine appP _ rfl (.tmp 13) (.tmp 15) 44 46 (.agg #[.int .i64 0, .int .u32 0, .bool false]) 3 16 rfl Try.underlying44 ceInfo rfl (by decide) (by decide) w.heap.size i 1 1 u3 (cesC lst) [.int .i64 (x : Int), .int .u32 (y : Int), .bool d] (some ⟨w6.heap.size, 0, none⟩) rfl HO7.out rfl rfl HR7.out (fun e => by cases e) (fun u hu => by simp only [List.mem_cons, List.not_mem_nil, or_false] at hu; rcases hu with rfl | rfl | rfl <;> rfl) (by omega) HB7.out.size ?_; intro v8 w8 ho hg; have HO8 : Hid (OwnK w8 w.heap.size 46 3 v8 (i + 1) (cesC (l.take (i + 1)))) := Lib.hid (by rw [HT.out, cesC_app]; exact ho); have HB8 := Lib.hid (below_grown HB7.out hg (fun e he => HO7.out.own e he)); clear ho hg))
        | fail)
      go_roundg (n - (i + 1))
      case rel => exact ⟨i + 1, by omega, rfl, by go_num, HO8.out, HB8.out⟩
      case measure => have := HQ.out; omega
    · obtain rfl : i = n := by omega
      have hto : l.take i = l := List.take_of_length_le (by rw [HN.out]; exact Nat.le_refl _)
      rw [hto] at HO
      have HE : Hid (DirtyIs l w (.returned u3) wr) := Lib.hid ⟨_, rfl, by rw [HN.out]; exact HO.out, HB.out⟩
      clear HO hto
      go_wp2_with fail
      go_ret
      exact HE.out
end Go.Proofs.Ytmoagooabmmmgaa
