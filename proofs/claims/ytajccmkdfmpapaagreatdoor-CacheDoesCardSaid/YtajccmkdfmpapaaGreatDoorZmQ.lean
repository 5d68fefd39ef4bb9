/-
  Entries compared.
  The law's own: entries.
  The document's cache in memory: Tables.
-/
import Derived.Test.YtajccmkdfmpapaaGreatDoorZmC
import Derived.Test.YtajccmkdfmpapaaGreatDoorZmL
namespace Go.Proofs.YtajccmkdfmpapaaGreatDoor
open Go.RowKit

set_option maxHeartbeats 1000000 in
/-- Entries that are the same are told so. -/
theorem csame_at {w : World} {A A2 : Option Addr} {n c c2 : Nat} (l : List CE) (hl : l.length = n) (hr : RdV w w.heap.size A (cesC l)) (hr2 : RdV w w.heap.size A2 (cesC l)) (hn : n ≤ 100000) : Calls Tryz.prog 11 #[.slice A n c, .slice A2 n c2] w (BoolB true w) := by
  have HR := Lib.hid hr
  have HR2 := Lib.hid hr2
  have HL := Lib.hid hl
  clear hr hr2 hl
  have q0 : ((n : Int) != (n : Int)) = false := by simp
  go_enter Tryz.func11, Tryz.ntmps11
  go_wp2_with fail
  go_loopg [5] n (fun q x wr => ∃ k : Nat, k ≤ n ∧ q = n - k ∧ x = .int .i64 (k : Int) ∧ Below w.heap.size w wr)
  case atStart => exact ⟨0, by omega, rfl, rfl, Below.refl _ _⟩
  case round =>
    obtain ⟨k, hk, hq, rfl, hb⟩ := hrel
    have HQ := Lib.hid hq
    have HB := Lib.hid hb
    clear hq hb
    by_cases hlt : k < n
    · have hkl : k < l.length := by rw [HL.out]; exact hlt
      obtain ⟨b, o, rfl, _, hcell⟩ := (HR.out.below HB.out) (by rw [cesC_len, HL.out]; omega)
      obtain ⟨b2, o2, rfl, _, hcell2⟩ := (HR2.out.below HB.out) (by rw [cesC_len, HL.out]; omega)
      obtain ⟨c0, c1, c2⟩ := ces_cells hcell k hkl
      obtain ⟨d0, d1, d2⟩ := ces_cells hcell2 k hkl
      clear hcell hcell2
      generalize l[k].b = x at *
      generalize l[k].a = y at *
      generalize l[k].d = d at *
      have q1 : ((x : Int) != (x : Int)) = false := by simp
      have q2 : ((y : Int) != (y : Int)) = false := by simp
      have q3 : (d != d) = false := by simp
      have q4 : ((x : Int) == (x : Int)) = true := by simp
      have q5 : ((y : Int) == (y : Int)) = true := by simp
      have q6 : (d == d) = true := by simp
      go_wp2_with fail
      go_region
      go_wp2_with fail
      go_roundg (n - (k + 1))
      case rel => exact ⟨k + 1, by omega, rfl, by go_num, HB.out.drew⟩
      case measure => have := HQ.out; omega
    · go_wp2_with fail
      go_ret
      exact ⟨rfl, HB.out⟩
end Go.Proofs.YtajccmkdfmpapaaGreatDoor
namespace Go.Proofs.YtajccmkdfmpapaaGreatDoor
open Go.RowKit

set_option maxHeartbeats 2000000 in
set_option maxRecDepth 100000 in
theorem centries_at {w : World} {A : Option Addr} {n c : Nat} (l : List CE) (hl : l.length = n) (hr : RdV w w.heap.size A (cesC l)) (hn : n ≤ 1000) : Calls Tryz.prog 12 #[.slice A n c] w (DirtyIs l w) := by
  have HR := Lib.hid hr
  have HN := Lib.hid hl
  have HO0 : Hid (OwnK (w.alloc (.cells #[] 59)) w.heap.size 59 3 (.slice (some ⟨w.heap.size, 0, none⟩) 0 0) 0 []) := Lib.hid (OwnK.new w _ _ 3 0 [] (Nat.le_refl _) rfl (by omega))
  have HB0 : Hid (Below w.heap.size w (w.alloc (.cells #[] 59))) := Lib.hid ((Below.refl _ _).alloc (Nat.le_refl _) _)
  clear hr hl
  go_enter Tryz.func12, Tryz.ntmps12
  go_wp2_with fail
  go_loopg [3, 9] n (fun q x y wr => ∃ i : Nat, i ≤ n ∧ q = n - i ∧ y = .int .i64 (i : Int) ∧ OwnK wr w.heap.size 59 3 x i (cesC (l.take i)) ∧ Below w.heap.size w wr)
  case atStart => exact ⟨0, by omega, rfl, rfl, by simpa [cesC] using HO0.out, HB0.out⟩
  case round =>
    clear HO0 HB0
    obtain ⟨i, hi, hq, rfl, ho, hb⟩ := hrel
    have HQ := Lib.hid hq
    have HO := Lib.hid ho
    have HB := Lib.hid hb
    clear hq ho hb
    by_cases hlt : i < n
    · have hll : i < l.length := by rw [HN.out]; exact hlt
      obtain ⟨b, o, rfl, _, hcell⟩ := (HR.out.below HB.out) (by rw [cesC_len, HN.out]; omega)
      obtain ⟨c0, c1, c2⟩ := ces_cells hcell i hll
      have HT : Hid (l.take (i + 1) = l.take i ++ [l[i]]) := Lib.hid (List.take_succ_eq_append_getElem hll)
      obtain ⟨x, hx⟩ : ∃ x, l[i].b = x := ⟨_, rfl⟩
      obtain ⟨y, hy⟩ : ∃ y, l[i].a = y := ⟨_, rfl⟩
      obtain ⟨d, hd⟩ : ∃ d, l[i].d = d := ⟨_, rfl⟩
      have hxs : l[i] = ⟨x, y, d⟩ := by rw [← hx, ← hy, ← hd]
      rw [hxs] at c0 c1 c2 HT
      obtain ⟨lst, hlst⟩ : ∃ lst, l.take i = lst := ⟨_, rfl⟩
      rw [hlst] at HT HO
      obtain ⟨w6, hw6⟩ : ∃ w6, wr.alloc (.cells #[.int .i64 (x : Int), .int .u32 (y : Int), .bool d] 56) = w6 := ⟨_, rfl⟩
      have hb6 : Below wr.heap.size wr w6 := by rw [← hw6]; exact (Below.refl _ _).alloc (Nat.le_refl _) _
      have hx6 : Blk w6 wr.heap.size 56 [.int .i64 (x : Int), .int .u32 (y : Int), .bool d] := by rw [← hw6]; exact heap_alloc_new wr _
      have y0 := hx6.cell 0 (by simp)
      have y1 := hx6.cell 1 (by simp)
      have y2 := hx6.cell 2 (by simp)
      obtain ⟨a, ha⟩ : ∃ a, wr.heap.size = a := ⟨_, rfl⟩
      rw [ha] at y0 y1 y2
      obtain ⟨w7, hw7⟩ : ∃ w7, w6.alloc (.cells #[.int .i64 (x : Int), .int .u32 (y : Int), .bool d] 59) = w7 := ⟨_, rfl⟩
      have hb7 : Below w6.heap.size w6 w7 := by rw [← hw7]; exact (Below.refl _ _).alloc (Nat.le_refl _) _
      have HO7 := Lib.hid ((HO.out.up hb6).up hb7)
      have HB7 := Lib.hid (below_all (below_all HB.out hb6) hb7)
      have HR7 : Hid (RdV w7 w7.heap.size (some ⟨w6.heap.size, 0, none⟩) [.int .i64 (x : Int), .int .u32 (y : Int), .bool d]) := Lib.hid (fun _ => ⟨w6.heap.size, 0, rfl, by rw [← hw7]; simp, fun i hi => by rw [Nat.zero_add, ← hw7]; exact Blk.cell (T := 59) (heap_alloc_new w6 _) i hi⟩)
      clear hcell hx hy hd hxs hlst hb6 hx6 hb7 HO HB
      go_wp2_with (first
        | (at_builtin; go_loud (refine appP _ rfl (.tmp 13) (.tmp 15) 42 59 (.agg #[.int .i64 0, .int .u32 0, .bool false]) 3 16 rfl Tryz.underlying42 ceInfo rfl (by decide) (by decide) w.heap.size i 1 1 u3 (cesC lst) [.int .i64 (x : Int), .int .u32 (y : Int), .bool d] (some ⟨w6.heap.size, 0, none⟩) rfl HO7.out rfl rfl HR7.out (fun e => by cases e) (fun u hu => by simp only [List.mem_cons, List.not_mem_nil, or_false] at hu; rcases hu with rfl | rfl | rfl <;> rfl) (by omega) HB7.out.size ?_; intro v8 w8 ho hg; have HO8 : Hid (OwnK w8 w.heap.size 59 3 v8 (i + 1) (cesC (l.take (i + 1)))) := Lib.hid (by rw [HT.out, cesC_app]; exact ho); have HB8 := Lib.hid (below_grown HB7.out hg (fun e he => HO7.out.own e he)); clear ho hg))
        | fail)
      go_roundg (n - (i + 1))
      case rel => exact ⟨i + 1, by omega, rfl, by go_num, HO8.out, HB8.out⟩
      case measure => have := HQ.out; omega
    · obtain rfl : i = n := by omega
      have hto : l.take i = l := List.take_of_length_le (by rw [HN.out]; exact Nat.le_refl _)
      rw [hto] at HO
      have HE : Hid (DirtyIs l w (.returned u3) wr) := Lib.hid ⟨_, rfl, by rw [HN.out]; exact HO.out, HB.out⟩
      clear HO hto
      go_wp2_with fail
      go_ret
      exact HE.out
end Go.Proofs.YtajccmkdfmpapaaGreatDoor
namespace Go.Proofs.YtajccmkdfmpapaaGreatDoor
open Go.RowKit

def tabT (S : CaS) (i : Nat) : List Nat := (List.range i).filter (fun t => decide (0 < (S.dirtyL (t : Int)).length))
theorem tab_snoc (S : CaS) (i : Nat) : tabT S (i + 1) = if 0 < (S.dirtyL (i : Int)).length then tabT S i ++ [i] else tabT S i := by
  unfold tabT
  rw [List.range_succ, List.filter_append]
  by_cases e : 0 < (S.dirtyL (i : Int)).length
  · rw [if_pos e, List.filter_cons_of_pos (by simpa using e)]
    rfl
  · rw [if_neg e, List.filter_cons_of_neg (by simpa using e)]
    simp
section
variable {w : World} {Y : Nat → Prop} {rc kb : Nat} {vL vS : Value} {σ : Nat → Nat} {S : CaS}
set_option maxHeartbeats 2000000 in
set_option maxRecDepth 100000 in
theorem ctables_at (h : RcC Y w rc kb vL vS σ S) : Calls Tryz.prog 18 #[.pointer (some ⟨rc, 0, none⟩)] w (ButIs S.tabL w) := by
  have HC := Lib.hid h
  have HN1 : Hid (NatR (w.alloc (.cells #[] 3)) w.heap.size w.heap.size 0 []) := Lib.hid (NatR.new w _ (Nat.le_refl _) [] (by simp))
  have HB1 : Hid (Below w.heap.size w (w.alloc (.cells #[] 3))) := Lib.hid ((Below.refl _ _).alloc (Nat.le_refl _) _)
  clear h
  go_enter Tryz.func18, Tryz.ntmps18
  go_wp2_with fail
  go_loopg [3, 4] 16 (fun q z y wr => ∃ (k m g cap : Nat), k ≤ 16 ∧ q = 16 - k ∧ z = .slice (some ⟨g, 0, none⟩) m cap ∧ y = .int .i64 (k : Int) ∧ (tabT S k).length = m ∧ m ≤ k ∧ NatR wr w.heap.size g cap (tabT S k) ∧ Below w.heap.size w wr)
  case atStart => exact ⟨0, 0, _, _, by omega, by omega, rfl, rfl, by simp [tabT], by omega, by simpa [tabT] using HN1.out, HB1.out⟩
  case round =>
    clear HN1 HB1
    obtain ⟨k, m, g, cap, hk, hq, rfl, rfl, hm, hmk, hnr, hb⟩ := hrel
    have HQ := Lib.hid hq
    have HM := Lib.hid hm
    have HNR := Lib.hid hnr
    have HB := Lib.hid hb
    clear hq hm hnr hb
    by_cases hlt : k < 16
    · have hg : (k : Int) < 16 := by omega
      have HTS := Lib.hid (tab_snoc S k)
      have HCD := Lib.hid (cdirty_at (k : Int) (HC.out.up HB.out))
      obtain ⟨M, hM⟩ : ∃ M, (S.dirtyL (k : Int)).length = M := ⟨_, rfl⟩
      rw [hM] at HTS
      have HMM := Lib.hid hM
      clear hM
      go_wp2_with fail
      refine HCD.out.mono ?_
      rintro r w5 ⟨v5, rfl, ho, hb⟩
      rw [HMM.out] at ho
      obtain ⟨A5, c5, rfl, _, _, _⟩ := ho.form
      have HB5 := Lib.hid (below_all HB.out hb)
      have HN5 := Lib.hid (HNR.out.up hb)
      clear ho hb HNR HB HCD
      by_cases hM0 : 0 < M
      · have HT2 : Hid (tabT S (k + 1) = tabT S k ++ [k]) := Lib.hid (HTS.out.trans (if_pos hM0))
        have hgM : (0 : Int) < (M : Int) := by omega
        have HX6 : Hid (RdV (w5.alloc (.cells #[.int .i64 (k : Int)] 3)) (w5.alloc (.cells #[.int .i64 (k : Int)] 3)).heap.size (some ⟨w5.heap.size, 0, none⟩) (iCells [(k : Int)])) := Lib.hid (row_rd w5 _)
        have HR6 := Lib.hid (HN5.out.up ((Below.refl w5.heap.size w5).alloc (Nat.le_refl _) (.cells #[.int .i64 (k : Int)] 3)))
        have HB6 := Lib.hid (HB5.out.alloc HB5.out.size (.cells #[.int .i64 (k : Int)] 3))
        have hgm : w.heap.size ≤ g := HN5.out.mem.1
        clear HTS HB5
        go_wp2_with (first
          | (at_builtin; refine appI _ rfl (.tmp 15) (.tmp 17) rfl w.heap.size _ g cap m 1 1 (nats _) [(k : Int)] (some ⟨w5.heap.size, 0, none⟩) rfl HR6.out (by rw [nats_len, HM.out]) rfl HX6.out rfl (by omega) HB6.out.size ?_; intro g7 cap7 w7 ho hg hgg; have HO7 : Hid (NatR w7 w.heap.size g7 cap7 (tabT S (k + 1))) := Lib.hid (by have := ho; rw [HT2.out]; rw [show nats (tabT S k) ++ [(k : Int)] = nats (tabT S k ++ [k]) from by simp [nats]] at this; exact this); have HB7 := Lib.hid (HB6.out.grown hg HB6.out.size (fun e he => by have := Option.some.inj he; omega)); clear ho hg hgg)
          | fail)
        go_roundg (16 - (k + 1))
        case rel => exact ⟨k + 1, m + 1, g7, cap7, by omega, rfl, by go_num, by go_num, by rw [HT2.out, ← HM.out]; simp, by omega, HO7.out, HB7.out⟩
        case measure => have := HQ.out; omega
      · have HT2 : Hid (tabT S (k + 1) = tabT S k) := Lib.hid (HTS.out.trans (if_neg hM0))
        have hgM : ¬ ((0 : Int) < (M : Int)) := by omega
        clear HTS
        go_wp2_with fail
        go_roundg (16 - (k + 1))
        case rel => exact ⟨k + 1, m, g, cap, by omega, rfl, rfl, by go_num, by rw [HT2.out]; exact HM.out, by omega, by rw [HT2.out]; exact HN5.out, HB5.out⟩
        case measure => have := HQ.out; omega
    · obtain rfl : k = 16 := by omega
      have HE : Hid (ButIs S.tabL w (.returned (.slice (some ⟨g, 0, none⟩) m cap)) wr) := Lib.hid ⟨g, cap, by rw [← HM.out]; rfl, HNR.out, HB.out⟩
      clear HM HNR HB
      go_wp2_with fail
      go_ret
      exact HE.out
end
end Go.Proofs.YtajccmkdfmpapaaGreatDoor
