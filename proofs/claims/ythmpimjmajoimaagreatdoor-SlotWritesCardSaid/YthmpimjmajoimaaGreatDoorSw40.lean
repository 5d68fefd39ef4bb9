/-
  The document's Read of a slot, where the device is gone or the zone is no slot; the directory lies in new memory.
-/
import Derived.Test.YthmpimjmajoimaaGreatDoorSw34
import Derived.Test.YthmpimjmajoimaaGreatDoorSw39
import Derived.Test.YthmpimjmajoimaaGreatDoorSw36
namespace Go.Proofs.YthmpimjmajoimaaGreatDoor
open Go.RowKit

/-- A checkpoint that the document tells; its directory is new. -/
def RChkN (c : ChkS) (e : Int) (w : World) (r : Ending) (w' : World) : Prop := ∃ sv, r = .returned (.tuple #[ckV c sv, .int .i64 e]) ∧ RowF (newB w w') w' sv (u32s c.dir) ∧ Below w.heap.size w w'
theorem RChkN.zero {e : Int} {w u : World} (h : Below w.heap.size w u) : RChkN ChkS.zero e w (.returned (.tuple #[ckV ChkS.zero (.slice none 0 0), .int .i64 e])) u :=
  ⟨_, rfl, ⟨none, 0, rfl, by simp [ChkS.zero, u32s], RdV.nil, (InF.none _).n, fun _ => rfl⟩, h⟩
set_option maxHeartbeats 2000000 in
set_option maxRecDepth 100000 in
theorem rsreadN_out {F : Nat → Prop} {w : World} {db zb cap : Nat} {zs : List Value} {S : DevS} (zi : Int) (h : RD F w db zb cap zs S) (hno : S.gone = true ∨ S.slotB zi = false) : Calls Tryz.prog 19 #[.pointer (some ⟨db, 0, none⟩), .int .i64 zi] w (RChkN (S.slC zi) (S.slE zi) w) := by
  obtain ⟨wA, hwA⟩ : ∃ u, w.alloc (.cells #[.int .u32 0, .int .u32 0, .int .u32 0, .int .i64 0, .int .i64 0, .int .i64 0, .slice none 0 0] 46) = u := ⟨_, rfl⟩
  obtain ⟨wB, hwB⟩ : ∃ u, wA.alloc (.cells #[.int .u32 0, .int .u32 0, .int .u32 0, .int .i64 0, .int .i64 0, .int .i64 0, .slice none 0 0] 46) = u := ⟨_, rfl⟩
  have hA : Below w.heap.size w wA := by rw [← hwA]; exact (Below.refl _ _).alloc (Nat.le_refl _) _
  have hB : Below wA.heap.size wA wB := by rw [← hwB]; exact (Below.refl _ _).alloc (Nat.le_refl _) _
  have zA : wA.heap.size = w.heap.size + 1 := by rw [← hwA]; simp
  have h1 : Blk wB w.heap.size 46 zList := by
    have h : Blk wA w.heap.size 46 zList := by rw [← hwA]; exact heap_alloc_new w _
    exact h.up hB (by omega)
  have h2 : Blk wB wA.heap.size 46 zList := by rw [← hwB]; exact heap_alloc_new wA _
  obtain ⟨rb, hrb⟩ : ∃ x, w.heap.size = x := ⟨_, rfl⟩
  obtain ⟨nb, hnb⟩ : ∃ x, wA.heap.size = x := ⟨_, rfl⟩
  have HRB := Lib.hid hrb
  have HNB := Lib.hid hnb
  have HNB2 : Hid (nb = w.heap.size + 1) := Lib.hid (by omega)
  obtain ⟨wC, hwC⟩ : ∃ u, (((((((wB.setCell ⟨nb, 0, none⟩ (.int .u32 0)).setCell ⟨nb, 1, none⟩ (.int .u32 0)).setCell ⟨nb, 2, none⟩ (.int .u32 0)).setCell ⟨nb, 3, none⟩ (.int .i64 0)).setCell ⟨nb, 4, none⟩ (.int .i64 0)).setCell ⟨nb, 5, none⟩ (.int .i64 0)).setCell ⟨nb, 6, none⟩ (.slice none 0 0)) = u := ⟨_, rfl⟩
  have HBB : Hid (Below w.heap.size w wB) := Lib.hid (wbelow hA hB)
  have HZC : Hid (Zer w wC) := Lib.hid (by
    rw [hnb] at h2
    have hk := ((((((((Kept.refl (fun k => k = nb) wB).put (g := nb) (.inl rfl) 0 (.int .u32 0)).put (g := nb) (.inl rfl) 1 (.int .u32 0)).put (g := nb) (.inl rfl) 2 (.int .u32 0)).put (g := nb) (.inl rfl) 3 (.int .i64 0)).put (g := nb) (.inl rfl) 4 (.int .i64 0)).put (g := nb) (.inl rfl) 5 (.int .i64 0)).put (g := nb) (.inl rfl) 6 (.slice none 0 0))
    have hz := (((((((h2.put 0 (.int .u32 0)).put 1 (.int .u32 0)).put 2 (.int .u32 0)).put 3 (.int .i64 0)).put 4 (.int .i64 0)).put 5 (.int .i64 0)).put 6 (.slice none 0 0))
    rw [hwC] at hk hz
    refine ⟨HBB.out.trans (hk.below HBB.out.size (fun k e => by omega)), hk.blk h1 (by omega), ?_⟩
    rw [← HNB2.out]
    exact hz)
  have HH := Lib.hid (h.up HZC.out.old)
  rw [hrb] at h1
  rw [hnb] at h2
  have n0 := h2.cell 0 (by simp)
  have n1 := h2.cell 1 (by simp)
  have n2 := h2.cell 2 (by simp)
  have n3 := h2.cell 3 (by simp)
  have n4 := h2.cell 4 (by simp)
  have n5 := h2.cell 5 (by simp)
  have n6 := h2.cell 6 (by simp)
  simp only [List.getElem_cons_zero, List.getElem_cons_succ] at n0 n1 n2 n3 n4 n5 n6
  have nf := fun k => h2.free k
  have c4 := HH.out.c4
  have c0 := HH.out.c0
  have hz1 := h.wf.z1
  obtain ⟨n, hn⟩ : ∃ n, S.zones.length = n := ⟨_, rfl⟩
  have HN := Lib.hid hn
  rw [hn] at c0 hz1
  clear h hA hB hn zA h1 h2
  have d0 : wC.cell? ⟨rb, 0, none⟩ = some (.int .u32 0) := by rw [← HRB.out]; exact HZC.out.r.cell 0 (by simp)
  have e0 : wC.cell? ⟨nb, 0, none⟩ = some (.int .u32 0) := by rw [HNB2.out]; exact HZC.out.z.cell 0 (by simp)
  have d1 : wC.cell? ⟨rb, 1, none⟩ = some (.int .u32 0) := by rw [← HRB.out]; exact HZC.out.r.cell 1 (by simp)
  have e1 : wC.cell? ⟨nb, 1, none⟩ = some (.int .u32 0) := by rw [HNB2.out]; exact HZC.out.z.cell 1 (by simp)
  have d2 : wC.cell? ⟨rb, 2, none⟩ = some (.int .u32 0) := by rw [← HRB.out]; exact HZC.out.r.cell 2 (by simp)
  have e2 : wC.cell? ⟨nb, 2, none⟩ = some (.int .u32 0) := by rw [HNB2.out]; exact HZC.out.z.cell 2 (by simp)
  have d3 : wC.cell? ⟨rb, 3, none⟩ = some (.int .i64 0) := by rw [← HRB.out]; exact HZC.out.r.cell 3 (by simp)
  have e3 : wC.cell? ⟨nb, 3, none⟩ = some (.int .i64 0) := by rw [HNB2.out]; exact HZC.out.z.cell 3 (by simp)
  have d4 : wC.cell? ⟨rb, 4, none⟩ = some (.int .i64 0) := by rw [← HRB.out]; exact HZC.out.r.cell 4 (by simp)
  have e4 : wC.cell? ⟨nb, 4, none⟩ = some (.int .i64 0) := by rw [HNB2.out]; exact HZC.out.z.cell 4 (by simp)
  have d5 : wC.cell? ⟨rb, 5, none⟩ = some (.int .i64 0) := by rw [← HRB.out]; exact HZC.out.r.cell 5 (by simp)
  have e5 : wC.cell? ⟨nb, 5, none⟩ = some (.int .i64 0) := by rw [HNB2.out]; exact HZC.out.z.cell 5 (by simp)
  have d6 : wC.cell? ⟨rb, 6, none⟩ = some (.slice none 0 0) := by rw [← HRB.out]; exact HZC.out.r.cell 6 (by simp)
  have e6 : wC.cell? ⟨nb, 6, none⟩ = some (.slice none 0 0) := by rw [HNB2.out]; exact HZC.out.z.cell 6 (by simp)
  have df : ∀ k, wC.frozen? ⟨rb, k, none⟩ = false := fun k => by rw [← HRB.out]; exact HZC.out.r.free k
  by_cases hg : S.gone = true
  · rw [hg] at c4
    have HE : Hid (S.slC zi = ChkS.zero ∧ S.slE zi = 7) := Lib.hid (by
      have h1 : S.slE zi = 7 := by unfold DevS.slE; rw [if_pos hg]
      exact ⟨by unfold DevS.slC; rw [h1]; rfl, h1⟩)
    clear hg
    go_enter Tryz.func19, Tryz.ntmps19
    obtain ⟨wD, hwD⟩ : ∃ u, (((((((wC.setCell ⟨rb, 0, none⟩ (.int .u32 0)).setCell ⟨rb, 1, none⟩ (.int .u32 0)).setCell ⟨rb, 2, none⟩ (.int .u32 0)).setCell ⟨rb, 3, none⟩ (.int .i64 0)).setCell ⟨rb, 4, none⟩ (.int .i64 0)).setCell ⟨rb, 5, none⟩ (.int .i64 0)).setCell ⟨rb, 6, none⟩ (.slice none 0 0)) = u := ⟨_, rfl⟩
    have HD : Hid (RChkTold ChkS.zero 7 w (.returned (.tuple #[ckV ChkS.zero (.slice none 0 0), .int .i64 7])) wD ∧ Blk wD rb 46 zList) := Lib.hid (by
      have h := HZC.out.no 7 (.int .u32 0) (.int .u32 0) (.int .u32 0) (.int .i64 0) (.int .i64 0) (.int .i64 0) (.slice none 0 0)
      have hb := (((((((HZC.out.r.put 0 (.int .u32 0)).put 1 (.int .u32 0)).put 2 (.int .u32 0)).put 3 (.int .i64 0)).put 4 (.int .i64 0)).put 5 (.int .i64 0)).put 6 (.slice none 0 0))
      rw [HRB.out, hwD] at h hb
      exact ⟨h, hb⟩)
    go_wp2_with fail
    clear hwD
    have q0 := HD.out.2.cell 0 (by simp)
    have q1 := HD.out.2.cell 1 (by simp)
    have q2 := HD.out.2.cell 2 (by simp)
    have q3 := HD.out.2.cell 3 (by simp)
    have q4 := HD.out.2.cell 4 (by simp)
    have q5 := HD.out.2.cell 5 (by simp)
    have q6 := HD.out.2.cell 6 (by simp)
    simp only [List.getElem_cons_zero, List.getElem_cons_succ] at q0 q1 q2 q3 q4 q5 q6
    refine bodyPost_ret (v := .tuple #[kV 0 0 0 0 0 0 (.slice none 0 0), .int .i64 7]) (by simp [results, Tryz.results19, go_sem, q0, q1, q2, q3, q4, q5, q6]) rfl ?_
    rw [HE.out.1, HE.out.2]
    exact RChkN.zero (by obtain ⟨_, _, _, h⟩ := HD.out.1; exact h)
  have hg2 : S.gone = false := by simpa using hg
  rw [hg2] at c4
  have HG := Lib.hid hg2
  clear hg hg2
  by_cases g1 : (n : Int) < 2
  · skip
    have HE : Hid (S.slC zi = ChkS.zero ∧ S.slE zi = 1) := Lib.hid (by
      have h1 : S.slE zi = 1 := by
        unfold DevS.slE DevS.slotB
        rw [HN.out, if_neg (by rw [HG.out]; decide), if_pos (by simp; omega)]
      exact ⟨by unfold DevS.slC; rw [h1]; rfl, h1⟩)
    go_enter Tryz.func19, Tryz.ntmps19
    obtain ⟨wD, hwD⟩ : ∃ u, (((((((wC.setCell ⟨rb, 0, none⟩ (.int .u32 0)).setCell ⟨rb, 1, none⟩ (.int .u32 0)).setCell ⟨rb, 2, none⟩ (.int .u32 0)).setCell ⟨rb, 3, none⟩ (.int .i64 0)).setCell ⟨rb, 4, none⟩ (.int .i64 0)).setCell ⟨rb, 5, none⟩ (.int .i64 0)).setCell ⟨rb, 6, none⟩ (.slice none 0 0)) = u := ⟨_, rfl⟩
    have HD : Hid (RChkTold ChkS.zero 1 w (.returned (.tuple #[ckV ChkS.zero (.slice none 0 0), .int .i64 1])) wD ∧ Blk wD rb 46 zList) := Lib.hid (by
      have h := HZC.out.no 1 (.int .u32 0) (.int .u32 0) (.int .u32 0) (.int .i64 0) (.int .i64 0) (.int .i64 0) (.slice none 0 0)
      have hb := (((((((HZC.out.r.put 0 (.int .u32 0)).put 1 (.int .u32 0)).put 2 (.int .u32 0)).put 3 (.int .i64 0)).put 4 (.int .i64 0)).put 5 (.int .i64 0)).put 6 (.slice none 0 0))
      rw [HRB.out, hwD] at h hb
      exact ⟨h, hb⟩)
    go_wp2_with fail
    clear hwD
    have q0 := HD.out.2.cell 0 (by simp)
    have q1 := HD.out.2.cell 1 (by simp)
    have q2 := HD.out.2.cell 2 (by simp)
    have q3 := HD.out.2.cell 3 (by simp)
    have q4 := HD.out.2.cell 4 (by simp)
    have q5 := HD.out.2.cell 5 (by simp)
    have q6 := HD.out.2.cell 6 (by simp)
    simp only [List.getElem_cons_zero, List.getElem_cons_succ] at q0 q1 q2 q3 q4 q5 q6
    refine bodyPost_ret (v := .tuple #[kV 0 0 0 0 0 0 (.slice none 0 0), .int .i64 1]) (by simp [results, Tryz.results19, go_sem, q0, q1, q2, q3, q4, q5, q6]) rfl ?_
    rw [HE.out.1, HE.out.2]
    exact RChkN.zero (by obtain ⟨_, _, _, h⟩ := HD.out.1; exact h)
  by_cases g2 : zi ≠ (n : Int) - 1 ∧ zi ≠ (n : Int) - 2
  · have q1 : (zi != (n : Int) - 1) = true := by simpa using g2.1
    have q2 : (zi != (n : Int) - 2) = true := by simpa using g2.2
    have HE : Hid (S.slC zi = ChkS.zero ∧ S.slE zi = 1) := Lib.hid (by
      have h1 : S.slE zi = 1 := by
        unfold DevS.slE DevS.slotB
        rw [HN.out, if_neg (by rw [HG.out]; decide), if_pos (by simp; omega)]
      exact ⟨by unfold DevS.slC; rw [h1]; rfl, h1⟩)
    go_enter Tryz.func19, Tryz.ntmps19
    obtain ⟨wD, hwD⟩ : ∃ u, (((((((wC.setCell ⟨rb, 0, none⟩ (.int .u32 0)).setCell ⟨rb, 1, none⟩ (.int .u32 0)).setCell ⟨rb, 2, none⟩ (.int .u32 0)).setCell ⟨rb, 3, none⟩ (.int .i64 0)).setCell ⟨rb, 4, none⟩ (.int .i64 0)).setCell ⟨rb, 5, none⟩ (.int .i64 0)).setCell ⟨rb, 6, none⟩ (.slice none 0 0)) = u := ⟨_, rfl⟩
    have HD : Hid (RChkTold ChkS.zero 1 w (.returned (.tuple #[ckV ChkS.zero (.slice none 0 0), .int .i64 1])) wD ∧ Blk wD rb 46 zList) := Lib.hid (by
      have h := HZC.out.no 1 (.int .u32 0) (.int .u32 0) (.int .u32 0) (.int .i64 0) (.int .i64 0) (.int .i64 0) (.slice none 0 0)
      have hb := (((((((HZC.out.r.put 0 (.int .u32 0)).put 1 (.int .u32 0)).put 2 (.int .u32 0)).put 3 (.int .i64 0)).put 4 (.int .i64 0)).put 5 (.int .i64 0)).put 6 (.slice none 0 0))
      rw [HRB.out, hwD] at h hb
      exact ⟨h, hb⟩)
    go_wp2_with fail
    clear hwD
    have q0 := HD.out.2.cell 0 (by simp)
    have q1 := HD.out.2.cell 1 (by simp)
    have q2 := HD.out.2.cell 2 (by simp)
    have q3 := HD.out.2.cell 3 (by simp)
    have q4 := HD.out.2.cell 4 (by simp)
    have q5 := HD.out.2.cell 5 (by simp)
    have q6 := HD.out.2.cell 6 (by simp)
    simp only [List.getElem_cons_zero, List.getElem_cons_succ] at q0 q1 q2 q3 q4 q5 q6
    refine bodyPost_ret (v := .tuple #[kV 0 0 0 0 0 0 (.slice none 0 0), .int .i64 1]) (by simp [results, Tryz.results19, go_sem, q0, q1, q2, q3, q4, q5, q6]) rfl ?_
    rw [HE.out.1, HE.out.2]
    exact RChkN.zero (by obtain ⟨_, _, _, h⟩ := HD.out.1; exact h)
  exfalso
  rcases hno with hno | hno
  · rw [HG.out] at hno
    cases hno
  · unfold DevS.slotB at hno
    rw [HN.out] at hno
    simp at hno
    omega
end Go.Proofs.YthmpimjmajoimaaGreatDoor
