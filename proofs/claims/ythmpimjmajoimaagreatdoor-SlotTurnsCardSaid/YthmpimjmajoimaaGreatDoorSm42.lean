/-
  The document's slots: Where, Read, Newest.
  A range over a function whose iterator says which element comes when, and at its end what lies in the world; an iterator may itself range over another one. Regions that draw their order, within a round. For whatever program.
-/
import Derived.Test.YthmpimjmajoimaaGreatDoorSm33
import Derived.Test.YthmpimjmajoimaaGreatDoorSm40
import Derived.Test.YthmpimjmajoimaaGreatDoorSm26
import Derived.Test.YthmpimjmajoimaaGreatDoorSm05
import Derived.OrdersIn
import Derived.OwnWalkIn
import Derived.RangeFuncCalls
namespace Go.Proofs.YthmpimjmajoimaaGreatDoor
open Go.RowKit

section
variable {F : Nat → Prop} {w : World} {db zb cap : Nat} {zs : List Value} {S : DevS}
set_option maxHeartbeats 1000000 in
theorem rswhere_at (nu : Int) (h : RD F w db zb cap zs S) (h2 : 2 ≤ S.zones.length) (n0 : 0 ≤ nu) (_n1 : nu ≤ 4294967295) : Calls Tryz.prog 24 #[.pointer (some ⟨db, 0, none⟩), .int .u32 nu] w (IntIs (whereN S.zones.length nu) w) := by
  have c0 := h.c0
  have hwf := h.wf.z1
  obtain ⟨n, hn⟩ : ∃ n, S.zones.length = n := ⟨_, rfl⟩
  rw [hn] at c0 hwf h2 ⊢
  have hm : nu.tmod 2 = nu % 2 := Int.tmod_eq_emod_of_nonneg n0
  have hw1 : IntKind.i64.wrap ((n : Int) - 2) = (n : Int) - 2 := IntWalk.i64_in _ (by omega)
  have hw2 : IntKind.i64.wrap ((n : Int) - 1) = (n : Int) - 1 := IntWalk.i64_in _ (by omega)
  clear h hn
  by_cases e : nu % 2 = 0
  · have q : ((nu % 2) == 0) = true := by simpa using e
    have HE : Hid ((n : Int) - 2 = whereN n nu) := Lib.hid (by unfold whereN; omega)
    go_enter Tryz.func24, Tryz.ntmps24
    go_wp2_with fail
    go_ret
    exact ⟨ret_int HE.out, rfl⟩
  · have q : ((nu % 2) == 0) = false := by simpa using e
    have HE : Hid ((n : Int) - 1 = whereN n nu) := Lib.hid (by unfold whereN; omega)
    go_enter Tryz.func24, Tryz.ntmps24
    go_wp2_with fail
    go_ret
    exact ⟨ret_int HE.out, rfl⟩
end
/-- A checkpoint that the document tells. -/
def RChkTold (c : ChkS) (e : Int) (w : World) (r : Ending) (w' : World) : Prop := ∃ sv, r = .returned (.tuple #[ckV c sv, .int .i64 e]) ∧ NumsAt w' sv c.dir ∧ Below w.heap.size w w'
/-- What is read of a page, as the document says. -/
theorem rpage_at {A : Option Addr} {ps : List Int} {n c : Nat} {w : World} (hr : Rd w w.heap.size A ps) (hx : Byt ps) (hl : ps.length = n) (hc : n ≤ c) : Calls Tryz.prog 54 #[.slice A n c] w (fun r w' => (pgE ps = 0 ∧ RReadOk ps w r w') ∨ (pgE ps ≠ 0 ∧ RReadNo (pgE ps) w r w')) := by
  by_cases hn : n = 33
  · subst hn
    obtain ⟨b, o, rfl, _, _⟩ := hr (by omega)
    by_cases hs : bk ps 13 = tot ps
    · by_cases hk : rightK (ps.getD 0 0) = true
      · have e : pgE ps = 0 := by unfold pgE; rw [if_neg (by omega), if_neg (by simpa using hs), if_neg (by unfold rightK at hk; rw [hk]; decide)]
        exact (rread_ok b o c ps w hr hx hl hc hs hk).mono fun r w' h => .inl ⟨e, h⟩
      · have hk' : rightK (ps.getD 0 0) = false := by simpa using hk
        have e : pgE ps = 2 := by unfold pgE; rw [if_neg (by omega), if_neg (by simpa using hs), if_pos (by unfold rightK at hk'; exact hk')]
        exact (rread_form b o c ps w hr hx hl hc hs hk').mono fun r w' h => .inr ⟨by omega, by rw [e]; exact h⟩
    · have e : pgE ps = 4 := by unfold pgE; rw [if_neg (by omega), if_pos (by simpa using hs)]
      exact (rread_sum b o c ps w hr hx hl hc hs).mono fun r w' h => .inr ⟨by omega, by rw [e]; exact h⟩
  · have e : pgE ps = 3 := by unfold pgE; rw [if_pos (by omega)]
    exact (rread_short A n c w hn).mono fun r w' h => .inr ⟨by omega, by rw [e]; exact h⟩
/-- The result's block and none's block are all 0. -/
structure Zer (w u : World) : Prop where
  old : Below w.heap.size w u
  r : Blk u w.heap.size 46 zList
  z : Blk u (w.heap.size + 1) 46 zList
theorem Zer.up {w u v : World} (h : Zer w u) (hb : Below u.heap.size u v) : Zer w v := ⟨wbelow h.old hb, h.r.up hb (lt_of_block h.r), h.z.up hb (lt_of_block h.z)⟩
theorem Zer.no {w u : World} (h : Zer w u) (e : Int) (a b c d f g k : Value) : RChkTold ChkS.zero e w (.returned (.tuple #[ckV ChkS.zero (.slice none 0 0), .int .i64 e])) (((((((u.setCell ⟨w.heap.size, 0, none⟩ a).setCell ⟨w.heap.size, 1, none⟩ b).setCell ⟨w.heap.size, 2, none⟩ c).setCell ⟨w.heap.size, 3, none⟩ d).setCell ⟨w.heap.size, 4, none⟩ f).setCell ⟨w.heap.size, 5, none⟩ g).setCell ⟨w.heap.size, 6, none⟩ k) :=
  ⟨_, rfl, NumsAt.nil _, below_seven h.old (Nat.le_refl _) _ _ _ _ _ _ _⟩
theorem blk17_snoc {l : List (List Int)} {k : Nat} (h : k < l.length) : blk17 (l.take (k + 1)) = blk17 (l.take k) ++ [l[k].drop 17] := by
  unfold blk17
  rw [List.take_succ_eq_append_getElem h, List.map_append]
  rfl
theorem okP_no {l : List (List Int)} {k : Nat} (hk : k < l.length) (h : pgB (l.getD 0 []) k l[k] = false) : pagesOk l = false := by
  unfold pagesOk
  rw [List.all_eq_false]
  refine ⟨k, List.mem_range.2 hk, ?_⟩
  rw [List.getD_eq_getElem?_getD (i := k), List.getElem?_eq_getElem hk, Option.getD_some, h]
  decide
theorem okP_yes {l : List (List Int)} (h : ∀ j (hj : j < l.length), pgB (l.getD 0 []) j l[j] = true) : pagesOk l = true := by
  unfold pagesOk
  rw [List.all_eq_true]
  intro j hj
  have hj := List.mem_range.1 hj
  rw [List.getD_eq_getElem?_getD (i := j), List.getElem?_eq_getElem hj, Option.getD_some]
  exact h j hj
theorem hold_bad {n P : Nat} {zi : Int} {l : List (List Int)} (h : pagesOk l = false) : holdB n P zi l = false := by
  unfold holdB
  rw [h]
  rfl
/-- What was read of the first i pages. -/
structure RAcc (w0 w : World) (l : List (List Int)) (i : Nat) (v : Value) (vs : List Value) : Prop where
  old : Below w0.heap.size w0 w
  row : RowV w w0.heap.size 61 v vs
  len : vs.length = i
  el : ∀ j (h : j < vs.length) (hl : j < l.length), ∃ g cap, vs[j] = .slice (some ⟨g, 0, none⟩) 16 cap ∧ Own8 w w0.heap.size g cap (l[j].drop 17)
  ok : ∀ j (hj : j < l.length), j < i → pgB (l.getD 0 []) j l[j] = true
theorem RAcc.rise {w0 w w' : World} {l : List (List Int)} {i : Nat} {v : Value} {vs : List Value} (h : RAcc w0 w l i v vs) (hb : Below w.heap.size w w') : RAcc w0 w' l i v vs :=
  ⟨wbelow h.old hb, h.row.rise hb, h.len, fun j h1 h2 => by obtain ⟨g, cap, e, ho⟩ := h.el j h1 h2; exact ⟨g, cap, e, ho.rise hb⟩, h.ok⟩
theorem own8_row {w : World} {base g cap : Nat} {xs : List Int} (h : Own8 w base g cap xs) : RowV w base 5 (.slice (some ⟨g, 0, none⟩) xs.length cap) (cellsOf8 xs) := by
  unfold RowV
  rw [show (cellsOf8 xs).length = xs.length by simp [cellsOf8]]
  exact h
theorem RAcc.step {w0 w w4 : World} {l : List (List Int)} {i g cap : Nat} {v v4 : Value} {vs : List Value} (h : RAcc w0 w l i v vs) (hi : i < l.length) (hg : w.grownBy w4 v.ownBlock) (hr : RowV w4 w0.heap.size 61 v4 (vs ++ [.slice (some ⟨g, 0, none⟩) 16 cap])) (ho : Own8 w w0.heap.size g cap (l[i].drop 17)) (hok : pgB (l.getD 0 []) i l[i] = true) :
    RAcc w0 w4 l (i + 1) v4 (vs ++ [.slice (some ⟨g, 0, none⟩) 16 cap]) := by
  have hk : Kept (fun _ => False) w0 w4 := (Kept.of_below h.old).grown hg (fun k e => .inr (h.row.own k e).1)
  have far : ∀ {g cap : Nat} {xs : List Int}, Own8 w w0.heap.size g cap xs → Own8 w4 w0.heap.size g cap xs := fun {g cap xs} ho => ho.kept hg ((own8_row ho).apart h.row (by decide) g rfl)
  refine ⟨hk.below (Nat.le_refl _) (fun _ e => e.elim), hr, by simp [h.len], fun j h1 h2 => ?_, fun j hj hlt => ?_⟩
  · by_cases hji : j < vs.length
    · obtain ⟨g', cap', e, ho'⟩ := h.el j hji h2
      exact ⟨g', cap', by rw [List.getElem_append_left hji]; exact e, far ho'⟩
    · have hlen := h.len
      have : j = i := by rw [List.length_append] at h1; simp at h1; omega
      subst this
      refine ⟨g, cap, ?_, far ho⟩
      rw [List.getElem_append_right (by omega)]
      simp
  · by_cases e : j = i
    · subst e
      exact hok
    · exact h.ok j hj (by omega)
theorem pgB_len {f ps : List Int} {i : Nat} (h : pgB f i ps = true) : ps.length = 33 := by
  unfold pgB at h
  simp only [Bool.and_eq_true, decide_eq_true_eq] at h
  have h := h.1
  unfold pgE at h
  split at h
  · omega
  · omega
theorem pgB_iff {f ps : List Int} {i : Nat} : pgB f i ps = true ↔ (pgE ps = 0 ∧ ps.getD 0 0 = 5 ∧ bk ps 5 = (i : Int) ∧ bk ps 1 = bk f 1 ∧ bk ps 9 = bk f 9) := by
  unfold pgB
  simp only [Bool.and_eq_true, decide_eq_true_eq]
theorem slot_ten {S : DevS} {zi : Int} (hg : S.gone = false) (hs : S.slotB zi = true) (hb : holdB S.zones.length S.P zi (S.zone zi).pages = false) : S.slC zi = ChkS.zero ∧ S.slE zi = 10 := by
  have h1 : S.slE zi = 10 := by
    unfold DevS.slE
    rw [if_neg (by rw [hg]; decide), if_neg (by rw [hs]; decide), if_neg (by rw [hb]; decide)]
  exact ⟨by unfold DevS.slC; rw [h1]; rfl, h1⟩
theorem RAcc.fin {w0 w : World} {l : List (List Int)} {v : Value} {vs : List Value} (h : RAcc w0 w l l.length v vs) : pagesOk l = true ∧ RdR w vs (blk17 l) := by
  refine ⟨okP_yes (fun j hj => h.ok j hj hj), by rw [h.len]; simp [blk17], fun j h1 h2 => ?_⟩
  have hj : j < l.length := by rw [← h.len]; exact h1
  obtain ⟨g, cap, e, ho⟩ := h.el j h1 hj
  have hb : (blk17 l)[j] = l[j].drop 17 := by simp [blk17]
  have h16 : (l[j].drop 17).length = 16 := by rw [List.length_drop, pgB_len (h.ok j hj hj)]
  refine ⟨some ⟨g, 0, none⟩, cap, by rw [hb, h16]; exact e, by rw [hb]; exact ho.cap, by rw [hb]; exact ho.rd⟩
set_option maxHeartbeats 2000000 in
set_option maxRecDepth 100000 in
theorem rsread_out {F : Nat → Prop} {w : World} {db zb cap : Nat} {zs : List Value} {S : DevS} (zi : Int) (h : RD F w db zb cap zs S) (hno : S.gone = true ∨ S.slotB zi = false) : Calls Tryz.prog 19 #[.pointer (some ⟨db, 0, none⟩), .int .i64 zi] w (RChkTold (S.slC zi) (S.slE zi) w) := by
  obtain ⟨wA, hwA⟩ : ∃ u, w.alloc (.cells #[.int .u32 0, .int .u32 0, .int .u32 0, .int .i64 0, .int .i64 0, .int .i64 0, .slice none 0 0] 46) = u := ⟨_, rfl⟩
  obtain ⟨wB, hwB⟩ : ∃ u, wA.alloc (.cells #[.int .u32 0, .int .u32 0, .int .u32 0, .int .i64 0, .int .i64 0, .int .i64 0, .slice none 0 0] 46) = u := ⟨_, rfl⟩
  have hA : Below w.heap.size w wA := by rw [← hwA]; exact (Below.refl _ _).alloc (Nat.le_refl _) _
  have hB : Below wA.heap.size wA wB := by rw [← hwB]; exact (Below.refl _ _).alloc (Nat.le_refl _) _
  have zA : wA.heap.size = w.heap.size + 1 := by rw [← hwA]; simp
  have h1 : Blk wB w.heap.size 46 zList := by
    have h : Blk wA w.heap.size 46 zList := by rw [← hwA]; exact heap_alloc_new w _
    exact h.up hB (by omega)
  have h2 : Blk wB wA.heap.size 46 zList := by rw [← hwB]; exact heap_alloc_new wA _
  obtain ⟨rb, hrb⟩ : ∃ x, w.heap.size = x := ⟨_, rfl⟩
  obtain ⟨nb, hnb⟩ : ∃ x, wA.heap.size = x := ⟨_, rfl⟩
  have HRB := Lib.hid hrb
  have HNB := Lib.hid hnb
  have HNB2 : Hid (nb = w.heap.size + 1) := Lib.hid (by omega)
  obtain ⟨wC, hwC⟩ : ∃ u, (((((((wB.setCell ⟨nb, 0, none⟩ (.int .u32 0)).setCell ⟨nb, 1, none⟩ (.int .u32 0)).setCell ⟨nb, 2, none⟩ (.int .u32 0)).setCell ⟨nb, 3, none⟩ (.int .i64 0)).setCell ⟨nb, 4, none⟩ (.int .i64 0)).setCell ⟨nb, 5, none⟩ (.int .i64 0)).setCell ⟨nb, 6, none⟩ (.slice none 0 0)) = u := ⟨_, rfl⟩
  have HBB : Hid (Below w.heap.size w wB) := Lib.hid (wbelow hA hB)
  have HZC : Hid (Zer w wC) := Lib.hid (by
    rw [hnb] at h2
    have hk := ((((((((Kept.refl (fun k => k = nb) wB).put (g := nb) (.inl rfl) 0 (.int .u32 0)).put (g := nb) (.inl rfl) 1 (.int .u32 0)).put (g := nb) (.inl rfl) 2 (.int .u32 0)).put (g := nb) (.inl rfl) 3 (.int .i64 0)).put (g := nb) (.inl rfl) 4 (.int .i64 0)).put (g := nb) (.inl rfl) 5 (.int .i64 0)).put (g := nb) (.inl rfl) 6 (.slice none 0 0))
    have hz := (((((((h2.put 0 (.int .u32 0)).put 1 (.int .u32 0)).put 2 (.int .u32 0)).put 3 (.int .i64 0)).put 4 (.int .i64 0)).put 5 (.int .i64 0)).put 6 (.slice none 0 0))
    rw [hwC] at hk hz
    refine ⟨HBB.out.trans (hk.below HBB.out.size (fun k e => by omega)), hk.blk h1 (by omega), ?_⟩
    rw [← HNB2.out]
    exact hz)
  have HH := Lib.hid (h.up HZC.out.old)
  rw [hrb] at h1
  rw [hnb] at h2
  have n0 := h2.cell 0 (by simp)
  have n1 := h2.cell 1 (by simp)
  have n2 := h2.cell 2 (by simp)
  have n3 := h2.cell 3 (by simp)
  have n4 := h2.cell 4 (by simp)
  have n5 := h2.cell 5 (by simp)
  have n6 := h2.cell 6 (by simp)
  simp only [List.getElem_cons_zero, List.getElem_cons_succ] at n0 n1 n2 n3 n4 n5 n6
  have nf := fun k => h2.free k
  have c4 := HH.out.c4
  have c0 := HH.out.c0
  have hz1 := h.wf.z1
  obtain ⟨n, hn⟩ : ∃ n, S.zones.length = n := ⟨_, rfl⟩
  have HN := Lib.hid hn
  rw [hn] at c0 hz1
  clear h hA hB hn zA h1 h2
  have d0 : wC.cell? ⟨rb, 0, none⟩ = some (.int .u32 0) := by rw [← HRB.out]; exact HZC.out.r.cell 0 (by simp)
  have e0 : wC.cell? ⟨nb, 0, none⟩ = some (.int .u32 0) := by rw [HNB2.out]; exact HZC.out.z.cell 0 (by simp)
  have d1 : wC.cell? ⟨rb, 1, none⟩ = some (.int .u32 0) := by rw [← HRB.out]; exact HZC.out.r.cell 1 (by simp)
  have e1 : wC.cell? ⟨nb, 1, none⟩ = some (.int .u32 0) := by rw [HNB2.out]; exact HZC.out.z.cell 1 (by simp)
  have d2 : wC.cell? ⟨rb, 2, none⟩ = some (.int .u32 0) := by rw [← HRB.out]; exact HZC.out.r.cell 2 (by simp)
  have e2 : wC.cell? ⟨nb, 2, none⟩ = some (.int .u32 0) := by rw [HNB2.out]; exact HZC.out.z.cell 2 (by simp)
  have d3 : wC.cell? ⟨rb, 3, none⟩ = some (.int .i64 0) := by rw [← HRB.out]; exact HZC.out.r.cell 3 (by simp)
  have e3 : wC.cell? ⟨nb, 3, none⟩ = some (.int .i64 0) := by rw [HNB2.out]; exact HZC.out.z.cell 3 (by simp)
  have d4 : wC.cell? ⟨rb, 4, none⟩ = some (.int .i64 0) := by rw [← HRB.out]; exact HZC.out.r.cell 4 (by simp)
  have e4 : wC.cell? ⟨nb, 4, none⟩ = some (.int .i64 0) := by rw [HNB2.out]; exact HZC.out.z.cell 4 (by simp)
  have d5 : wC.cell? ⟨rb, 5, none⟩ = some (.int .i64 0) := by rw [← HRB.out]; exact HZC.out.r.cell 5 (by simp)
  have e5 : wC.cell? ⟨nb, 5, none⟩ = some (.int .i64 0) := by rw [HNB2.out]; exact HZC.out.z.cell 5 (by simp)
  have d6 : wC.cell? ⟨rb, 6, none⟩ = some (.slice none 0 0) := by rw [← HRB.out]; exact HZC.out.r.cell 6 (by simp)
  have e6 : wC.cell? ⟨nb, 6, none⟩ = some (.slice none 0 0) := by rw [HNB2.out]; exact HZC.out.z.cell 6 (by simp)
  have df : ∀ k, wC.frozen? ⟨rb, k, none⟩ = false := fun k => by rw [← HRB.out]; exact HZC.out.r.free k
  by_cases hg : S.gone = true
  · rw [hg] at c4
    have HE : Hid (S.slC zi = ChkS.zero ∧ S.slE zi = 7) := Lib.hid (by
      have h1 : S.slE zi = 7 := by unfold DevS.slE; rw [if_pos hg]
      exact ⟨by unfold DevS.slC; rw [h1]; rfl, h1⟩)
    clear hg
    go_enter Tryz.func19, Tryz.ntmps19
    obtain ⟨wD, hwD⟩ : ∃ u, (((((((wC.setCell ⟨rb, 0, none⟩ (.int .u32 0)).setCell ⟨rb, 1, none⟩ (.int .u32 0)).setCell ⟨rb, 2, none⟩ (.int .u32 0)).setCell ⟨rb, 3, none⟩ (.int .i64 0)).setCell ⟨rb, 4, none⟩ (.int .i64 0)).setCell ⟨rb, 5, none⟩ (.int .i64 0)).setCell ⟨rb, 6, none⟩ (.slice none 0 0)) = u := ⟨_, rfl⟩
    have HD : Hid (RChkTold ChkS.zero 7 w (.returned (.tuple #[ckV ChkS.zero (.slice none 0 0), .int .i64 7])) wD ∧ Blk wD rb 46 zList) := Lib.hid (by
      have h := HZC.out.no 7 (.int .u32 0) (.int .u32 0) (.int .u32 0) (.int .i64 0) (.int .i64 0) (.int .i64 0) (.slice none 0 0)
      have hb := (((((((HZC.out.r.put 0 (.int .u32 0)).put 1 (.int .u32 0)).put 2 (.int .u32 0)).put 3 (.int .i64 0)).put 4 (.int .i64 0)).put 5 (.int .i64 0)).put 6 (.slice none 0 0))
      rw [HRB.out, hwD] at h hb
      exact ⟨h, hb⟩)
    go_wp2_with fail
    clear hwD
    have q0 := HD.out.2.cell 0 (by simp)
    have q1 := HD.out.2.cell 1 (by simp)
    have q2 := HD.out.2.cell 2 (by simp)
    have q3 := HD.out.2.cell 3 (by simp)
    have q4 := HD.out.2.cell 4 (by simp)
    have q5 := HD.out.2.cell 5 (by simp)
    have q6 := HD.out.2.cell 6 (by simp)
    simp only [List.getElem_cons_zero, List.getElem_cons_succ] at q0 q1 q2 q3 q4 q5 q6
    refine bodyPost_ret (v := .tuple #[kV 0 0 0 0 0 0 (.slice none 0 0), .int .i64 7]) (by simp [results, Tryz.results19, go_sem, q0, q1, q2, q3, q4, q5, q6]) rfl ?_
    rw [HE.out.1, HE.out.2]
    exact HD.out.1
  have hg2 : S.gone = false := by simpa using hg
  rw [hg2] at c4
  have HG := Lib.hid hg2
  clear hg hg2
  by_cases g1 : (n : Int) < 2
  · skip
    have HE : Hid (S.slC zi = ChkS.zero ∧ S.slE zi = 1) := Lib.hid (by
      have h1 : S.slE zi = 1 := by
        unfold DevS.slE DevS.slotB
        rw [HN.out, if_neg (by rw [HG.out]; decide), if_pos (by simp; omega)]
      exact ⟨by unfold DevS.slC; rw [h1]; rfl, h1⟩)
    go_enter Tryz.func19, Tryz.ntmps19
    obtain ⟨wD, hwD⟩ : ∃ u, (((((((wC.setCell ⟨rb, 0, none⟩ (.int .u32 0)).setCell ⟨rb, 1, none⟩ (.int .u32 0)).setCell ⟨rb, 2, none⟩ (.int .u32 0)).setCell ⟨rb, 3, none⟩ (.int .i64 0)).setCell ⟨rb, 4, none⟩ (.int .i64 0)).setCell ⟨rb, 5, none⟩ (.int .i64 0)).setCell ⟨rb, 6, none⟩ (.slice none 0 0)) = u := ⟨_, rfl⟩
    have HD : Hid (RChkTold ChkS.zero 1 w (.returned (.tuple #[ckV ChkS.zero (.slice none 0 0), .int .i64 1])) wD ∧ Blk wD rb 46 zList) := Lib.hid (by
      have h := HZC.out.no 1 (.int .u32 0) (.int .u32 0) (.int .u32 0) (.int .i64 0) (.int .i64 0) (.int .i64 0) (.slice none 0 0)
      have hb := (((((((HZC.out.r.put 0 (.int .u32 0)).put 1 (.int .u32 0)).put 2 (.int .u32 0)).put 3 (.int .i64 0)).put 4 (.int .i64 0)).put 5 (.int .i64 0)).put 6 (.slice none 0 0))
      rw [HRB.out, hwD] at h hb
      exact ⟨h, hb⟩)
    go_wp2_with fail
    clear hwD
    have q0 := HD.out.2.cell 0 (by simp)
    have q1 := HD.out.2.cell 1 (by simp)
    have q2 := HD.out.2.cell 2 (by simp)
    have q3 := HD.out.2.cell 3 (by simp)
    have q4 := HD.out.2.cell 4 (by simp)
    have q5 := HD.out.2.cell 5 (by simp)
    have q6 := HD.out.2.cell 6 (by simp)
    simp only [List.getElem_cons_zero, List.getElem_cons_succ] at q0 q1 q2 q3 q4 q5 q6
    refine bodyPost_ret (v := .tuple #[kV 0 0 0 0 0 0 (.slice none 0 0), .int .i64 1]) (by simp [results, Tryz.results19, go_sem, q0, q1, q2, q3, q4, q5, q6]) rfl ?_
    rw [HE.out.1, HE.out.2]
    exact HD.out.1
  by_cases g2 : zi ≠ (n : Int) - 1 ∧ zi ≠ (n : Int) - 2
  · have q1 : (zi != (n : Int) - 1) = true := by simpa using g2.1
    have q2 : (zi != (n : Int) - 2) = true := by simpa using g2.2
    have HE : Hid (S.slC zi = ChkS.zero ∧ S.slE zi = 1) := Lib.hid (by
      have h1 : S.slE zi = 1 := by
        unfold DevS.slE DevS.slotB
        rw [HN.out, if_neg (by rw [HG.out]; decide), if_pos (by simp; omega)]
      exact ⟨by unfold DevS.slC; rw [h1]; rfl, h1⟩)
    go_enter Tryz.func19, Tryz.ntmps19
    obtain ⟨wD, hwD⟩ : ∃ u, (((((((wC.setCell ⟨rb, 0, none⟩ (.int .u32 0)).setCell ⟨rb, 1, none⟩ (.int .u32 0)).setCell ⟨rb, 2, none⟩ (.int .u32 0)).setCell ⟨rb, 3, none⟩ (.int .i64 0)).setCell ⟨rb, 4, none⟩ (.int .i64 0)).setCell ⟨rb, 5, none⟩ (.int .i64 0)).setCell ⟨rb, 6, none⟩ (.slice none 0 0)) = u := ⟨_, rfl⟩
    have HD : Hid (RChkTold ChkS.zero 1 w (.returned (.tuple #[ckV ChkS.zero (.slice none 0 0), .int .i64 1])) wD ∧ Blk wD rb 46 zList) := Lib.hid (by
      have h := HZC.out.no 1 (.int .u32 0) (.int .u32 0) (.int .u32 0) (.int .i64 0) (.int .i64 0) (.int .i64 0) (.slice none 0 0)
      have hb := (((((((HZC.out.r.put 0 (.int .u32 0)).put 1 (.int .u32 0)).put 2 (.int .u32 0)).put 3 (.int .i64 0)).put 4 (.int .i64 0)).put 5 (.int .i64 0)).put 6 (.slice none 0 0))
      rw [HRB.out, hwD] at h hb
      exact ⟨h, hb⟩)
    go_wp2_with fail
    clear hwD
    have q0 := HD.out.2.cell 0 (by simp)
    have q1 := HD.out.2.cell 1 (by simp)
    have q2 := HD.out.2.cell 2 (by simp)
    have q3 := HD.out.2.cell 3 (by simp)
    have q4 := HD.out.2.cell 4 (by simp)
    have q5 := HD.out.2.cell 5 (by simp)
    have q6 := HD.out.2.cell 6 (by simp)
    simp only [List.getElem_cons_zero, List.getElem_cons_succ] at q0 q1 q2 q3 q4 q5 q6
    refine bodyPost_ret (v := .tuple #[kV 0 0 0 0 0 0 (.slice none 0 0), .int .i64 1]) (by simp [results, Tryz.results19, go_sem, q0, q1, q2, q3, q4, q5, q6]) rfl ?_
    rw [HE.out.1, HE.out.2]
    exact HD.out.1
  exfalso
  rcases hno with hno | hno
  · rw [HG.out] at hno
    cases hno
  · unfold DevS.slotB at hno
    rw [HN.out] at hno
    simp at hno
    omega
end Go.Proofs.YthmpimjmajoimaaGreatDoor
namespace Go.Proofs.YthmpimjmajoimaaGreatDoor
open Go.RowKit

/-- What an iterator promises of a body that always goes on: x comes behind pre only where G pre x; E is what it leans on; behind all rounds S of what has come, and of the world. -/
def SeqSeenG {α : Type} (F : Fence) (n : Nat) (P : Program) (g : Nat) (lb : Array Value) (encs : α → Array Value) (Kp : World → World → Prop) (E : List α → World → Prop) (G : List α → α → Prop) (S : List α → World → Prop) (w : World) : Prop :=
  ∀ (l : Nat) (J : List α → World → Prop) (W : World), Below w.heap.size w W → OwnFrom W.heap.size J → (∀ pre W1, J pre W1 → E pre W1) →
    (∀ pre x W1, J pre W1 → G pre x → YieldAt F (n - 1) P l (encs x) W1 fun e W' => e = .returned (.bool true) ∧ J (pre ++ [x]) W' ∧ Kp W1 W' ∧ KeepsOthers W1 W') → J [] W →
    CallsIn F n P g (#[.func (.yield l) #[] #[]] ++ lb) W fun e W' => (∃ v, e = .returned v) ∧ ∃ xs, S xs W' ∧ J xs W'

variable {F : Fence} {n : Nat} {P : Program}
theorem OwnFrom.step {β : Type} {B : Nat} {J : β → World → Prop} (h : OwnFrom B J) {s : β} {A C : World} (hj : J s A) (hb : Below A.heap.size A C) : J s C :=
  h s A C none hj ⟨hb.os, hb.tape, hb.output, hb.size, fun k hk _ => hb.block k hk⟩ (fun r e => by cases e)
theorem OwnFrom.mono {β : Type} {B B' : Nat} {J : β → World → Prop} (h : OwnFrom B J) (hB : B ≤ B') : OwnFrom B' J := fun s W W' row hs hg hr => h s W W' row hs hg (fun r e => ⟨Nat.le_trans hB (hr r e).1, (hr r e).2⟩)

theorem range_seenG {α : Type} {g : Operand} {ps : Array Tmp} {assign body : Code} {Q : Exit → Act → World → Prop} {a : Act} {w : World}
    (hro : F.round = none) (h1 : 1 ≤ n) {gf : Nat} {lb : Array Value} (hg : a.eval g = .func (.func gf) #[] lb) (hFg : F.fn gf) (eg : ∀ args w, (callFunc gf args).run P w = .ok (.enter gf args) w)
    {encs : α → Array Value} {Kp : World → World → Prop} {E : List α → World → Prop} {G : List α → α → Prop} {S : List α → World → Prop} (hseq : SeqSeenG F (n - 1) P gf lb encs Kp E G S w)
    (hKt : ∀ {A B C : World}, Kp A B → Kp B C → Kp A C) (hKb : ∀ (W : World) (l : Nat) (o o' : Obj), w.heap.size ≤ l → W.heap[l]? = some o → o.isCells = false → Kp W (W.putObj l o'))
    (hS : ∀ (xs : List α) (W : World) (l : Nat) (o o' : Obj), w.heap.size ≤ l → S xs W → W.heap[l]? = some o → o.isCells = false → S xs (W.putObj l o'))
    (hps : ∀ x, (encs x).size = ps.size) (I : List α → World → Prop) (hI : OwnFrom w.heap.size I) (hIE : ∀ pre W, I pre W → E pre W) (h0 : I [] w) (a₁ : α → Act)
    (hassign : ∀ (l : Nat) (x : α) (W : World) (K : Act → World → Prop), K (a₁ x) W →
      assign.wpIn (F.inRound l) (n - 1 - 1) P (Exit.then K (fun _ _ _ => False)) { tmps := (ps.zip (encs x)).foldl (fun t (p, v) => t.setIfInBounds p v) a.tmps, defers := [] } W)
    (hbody : ∀ (l : Nat) (pre : List α) (x : α) (W : World), I pre W → G pre x → body.wpIn (F.inRound l) (n - 1 - 1) P (fun e _ W' => e = .normal ∧ KeepsOthers W W' ∧ Kp W W' ∧ I (pre ++ [x]) W') (a₁ x) W)
    (hdone : ∀ (D : Nat) (xs : List α) (W : World), w.heap.size ≤ D → S xs W → I xs W → W.heap[D]? = some (.deferred (some [])) → Q .normal { a with defers := { target := .collected D, args := #[] } :: a.defers } W) :
    (Code.rangeFunc g ps assign body).wpIn F n P Q a w := by
  refine wpIn_rangeFunc ?_
  intro fn hfn
  rw [hro]
  have hsz : (w.alloc (.deferred (some []))).heap.size = w.heap.size + 1 := World.size_alloc _ _
  obtain ⟨W1, hW1⟩ : ∃ W1, (w.alloc (.deferred (some []))).alloc (.loop (recOf fn a.tmps ps assign body w.heap.size .ready)) = W1 := ⟨_, rfl⟩
  have hL1 : W1.heap[w.heap.size + 1]? = some (.loop (recOf fn a.tmps ps assign body w.heap.size .ready)) := by
    have := World.alloc_heap_new (w.alloc (.deferred (some []))) (.loop (recOf fn a.tmps ps assign body w.heap.size .ready))
    rwa [hsz, hW1] at this
  have hD1 : W1.heap[w.heap.size]? = some (.deferred (some [])) := by
    rw [← hW1]
    exact (Below.heap_alloc _ _ _ (by rw [hsz]; omega)).trans (World.alloc_heap_new w _)
  have hI1 : I [] W1 := by
    rw [← hW1]
    exact hI.alloc _ (hI.alloc _ h0)
  have hb1 : Below w.heap.size w W1 := by
    rw [← hW1]
    exact ((Below.refl _ w).alloc (Nat.le_refl _) _).alloc (by rw [hsz]; omega) _
  have hs1 : W1.heap.size = w.heap.size + 2 := by
    rw [← hW1, World.size_alloc, hsz]
  refine ⟨w.heap.size + 1, [{ target := .collected w.heap.size, args := #[] }], W1, { target := .fn (.func gf) lb, args := #[.func (.yield (w.heap.size + 1)) #[] #[]] }, W1, gf,
    #[.func (.yield (w.heap.size + 1)) #[] #[]] ++ lb, W1, ?_, ?_, ?_, ?_, fun _ => h1, ?_⟩
  · rw [← hW1]
    exact run_enterLoop_outer _ _ _ _ _
  · simp only [resolve, hg]
    simp [go_sem]
  · intro f' hf'
    simp [Target.leads] at hf'
    subst hf'
    exact hFg
  · simp [invoke, go_sem, eg]
  · have hJ : OwnFrom W1.heap.size (fun pre W => I pre W ∧ W.heap[w.heap.size + 1]? = some (.loop (recOf fn a.tmps ps assign body w.heap.size .ready)) ∧ W.heap[w.heap.size]? = some (.deferred (some []))) := by
      intro s A B row hs hgr hrow
      refine ⟨hI s A B row hs.1 hgr (fun r e => ⟨by have := (hrow r e).1; omega, (hrow r e).2⟩), ?_, ?_⟩
      · exact (hgr.block _ (Array.getElem?_eq_some_iff.1 hs.2.1).1 (fun e => by have := (hrow _ e.symm).1; omega)).trans hs.2.1
      · exact (hgr.block _ (Array.getElem?_eq_some_iff.1 hs.2.2).1 (fun e => by have := (hrow _ e.symm).1; omega)).trans hs.2.2
    refine (hseq (w.heap.size + 1) _ W1 hb1 hJ (fun pre W h => hIE pre W h.1) ?_ ⟨hI1, hL1, hD1⟩).mono ?_
    · rintro pre x W ⟨hi, hl, hd⟩ hG
      have hlt : w.heap.size + 1 < W.heap.size := (Array.getElem?_eq_some_iff.1 hl).1
      refine ⟨fn, _, assign, body, run_yield hl (hps x), roundIn_of_wpIn hfn (hassign _ x W _ ⟨_, run_beginRound hl rfl, ?_⟩)⟩
      obtain ⟨W2, hW2⟩ : ∃ W2, W.putObj (w.heap.size + 1) (.loop (recOf fn a.tmps ps assign body w.heap.size .busy)) = W2 := ⟨_, rfl⟩
      have hl2 : W2.heap[w.heap.size + 1]? = some (.loop (recOf fn a.tmps ps assign body w.heap.size .busy)) := by
        rw [← hW2]
        exact World.putObj_heap_same hlt
      have hd2 : W2.heap[w.heap.size]? = some (.deferred (some [])) := by
        rw [← hW2]
        exact (World.putObj_heap_other (by omega)).trans hd
      have hi2 : I pre W2 := by
        rw [← hW2]
        exact hI.putObj _ hi (by omega) hl rfl
      have hk2 : Kp W W2 := by
        rw [← hW2]
        exact hKb _ _ _ _ (by omega) hl rfl
      have hz2 : W.heap.size = W2.heap.size := by rw [← hW2]; simp
      have ho2 : ∀ k, k ≠ w.heap.size + 1 → W2.heap[k]? = W.heap[k]? := fun k hk => by
        rw [← hW2]
        exact World.putObj_heap_other hk
      show body.wpIn _ _ _ _ _ (W.putObj (w.heap.size + 1) (.loop (recOf fn a.tmps ps assign body w.heap.size .busy)))
      rw [hW2]
      refine wpIn_mono (hbody _ pre x W2 hi2 hG) ?_
      rintro e a3 W3 ⟨rfl, hko, hkp, hi3⟩
      have hl3 := hko.same _ _ hl2 rfl
      have hd3 := hko.same _ _ hd2 rfl
      have hlt3 := (Array.getElem?_eq_some_iff.1 hl3).1
      refine ⟨_, _, run_endRound none hl3, rfl, ⟨hI.putObj _ hi3 (by omega) hl3 rfl, World.putObj_heap_same hlt3, (World.putObj_heap_other (by omega)).trans hd3⟩, hKt (hKt hk2 hkp) (hKb _ _ _ _ (by omega) hl3 rfl), ?_⟩
      refine ⟨by have := hko.size; simp; omega, fun k o hk ho => ?_⟩
      by_cases e : k = w.heap.size + 1
      · subst e
        rw [hl] at hk
        rw [← hk]
        exact World.putObj_heap_same hlt3
      · exact (World.putObj_heap_other e).trans (hko.same _ _ ((ho2 k e).trans hk) ho)
    · rintro e W2 ⟨⟨v, rfl⟩, xs, hs, hi, hl, hd⟩
      exact ⟨none, _, run_endLoop hl (by simp [recOf]), hdone _ xs _ (Nat.le_refl _) (hS _ _ _ _ _ (by omega) hs hl rfl) (hI.putObj _ hi (by omega) hl rfl) ((World.putObj_heap_other (by omega)).trans hd)⟩

/-- A yield of another loop, within a round. -/
theorem YieldAt.inRound {l m l' m' : Nat} {args : Array Value} {W : World} {R : Ending → World → Prop} (h : YieldAt Fence.wide m P l args W R) : YieldAt (Fence.wide.inRound l') m' P l args W R := by
  obtain ⟨fn, t, asg, bo, hy, hR⟩ := h
  exact ⟨fn, t, asg, bo, hy, hR.1, fun c cs _ => hR.2 c cs (room_wide _)⟩

/-- What draws its order goes into a round as it is. -/
theorem opIn_of_op {l m : Nat} {o : Oper} {a : Act} {w : World} {K : Act → World → Prop} {Q : Exit → Act → World → Prop} (hd : ∀ c, o.op ≠ .defer c) (h : o.wp P a w K Q) : o.wpIn (Fence.wide.inRound l) m P a w K Q := by
  refine ⟨fun _ _ => trivial, ?_⟩
  have e : o.semAt (Fence.wide.inRound l).round a.eval = execOp a.eval o := Oper.semAt_plain _ _ _ hd
  rw [e]
  unfold Oper.wp at h
  generalize (execOp a.eval o).run P w = r at *
  cases r with
  | ok x w' =>
    cases x with
    | value v => exact h
    | skip => exact h
    | defer d => exact h
    | enter f args => exact ⟨fun h0 => by simp [Fence.wide, Fence.inRound] at h0, callsIn_wide (n := m - 1) |>.2 h⟩
    | row row args =>
      refine ⟨fun h0 => by simp [Fence.wide, Fence.inRound] at h0, fun c cs _ => ?_⟩
      obtain ⟨v, w2, hr, hs⟩ := h c cs
      exact ⟨v, w2, hr, stepsIn_wide.2 hs⟩
    | _ => exact h.elim
  | halt x w' => cases x <;> exact h
theorem anyIn_of_any {l m : Nat} {md : Region.Mode} {ops : Array Oper} {Q : Exit → Act → World → Prop} (hd : ∀ (i : Nat) (o : Oper), ops[i]? = some o → ∀ c, o.op ≠ .defer c) (hQ : ¬ LetsOut Q) : ∀ (fuel : Nat) (listed : Array Bool) (a : Act) (w : World), wpAny P md ops Q fuel listed a w → wpAnyIn (Fence.wide.inRound l) m P md ops Q fuel listed a w
  | 0, _, _, _, h => h
  | fuel + 1, listed, a, w, h => by
    refine ⟨h.1, fun i hi => ?_⟩
    have h2 := h.2 i hi
    unfold wpOp at h2
    unfold wpOpIn
    cases ho : ops[i]? with
    | none =>
      rw [ho] at h2
      exact anyIn_of_any hd hQ fuel _ _ _ h2
    | some o =>
      rw [ho] at h2
      simp only at h2 ⊢
      split at h2
      · rename_i hw
        rw [if_pos hw]
        rcases h2 with h2 | h2
        · exact Oper.wpIn_mono (fun a' w' h' => anyIn_of_any hd hQ fuel _ _ _ h') (opIn_of_op (hd i o ho) h2)
        · exact absurd h2.2 hQ
      · rename_i hw
        rw [if_neg hw]
        exact ⟨fun _ _ => trivial, anyIn_of_any hd hQ fuel _ _ _ h2⟩
theorem wpIn_region_lift {l m id : Nat} {ops : Array Oper} {Q : Exit → Act → World → Prop} {a : Act} {w : World} (hm : P.follows .mixedOrders = true) (hd : ∀ o ∈ ops.toList, ∀ c, o.op ≠ .defer c) (hQ : ¬ LetsOut Q)
    (h : wpAny P .any ops Q ops.size (Array.replicate ops.size false) a w.drew) : (Code.region id ops true).wpIn (Fence.wide.inRound l) m P Q a w :=
  wpIn_region_any hm (anyIn_of_any (fun i o ho => hd o (by rw [Array.mem_toList_iff]; exact Array.mem_of_getElem? ho)) hQ _ _ _ _ h)
theorem wpIn_region_parts {lp n0 : Nat} {ops : Array Oper} {Q : Exit → Act → World → Prop} {S : World → Prop} {id : Nat} {a : Act} {w : World} (k m : Nat) (l1 : List Oper) (hm : P.follows .mixedOrders = true) (hp : inParts .any ops k = true) (hs : ops.size = k + m) (h1 : ops.toList.take k = l1) (hd : ∀ o ∈ ops.toList, ∀ c, o.op ≠ .defer c) (hQ : ¬ LetsOut Q) (hS : S w.drew)
    (h : S w.drew → wpAnyH P .any l1.toArray (upto (fun a w => wpAny P .any ops Q m (marks k (k + m)) a w) Q) S k (Array.replicate k false) a w.drew) : (Code.region id ops true).wpIn (Fence.wide.inRound lp) n0 P Q a w := by
  refine wpIn_region_lift hm hd hQ ?_
  have hs1 : l1.toArray.size = k := by rw [← h1, List.size_toArray, List.length_take, Array.length_toList]; omega
  have hops : ∀ j, j < k → l1.toArray[j]? = ops[j]? := fun j hj => by
    rw [← Array.getElem?_toList, ← Array.getElem?_toList, ← h1, List.toList_toArray, List.getElem?_take]
    simp [hj]
  have h2 := wpAny_of_held _ _ _ _ (h hS)
  rw [← hs] at h2
  have H : Halves ops k (Array.replicate ops.size false) (Array.replicate k false) := by
    refine ⟨by simp, by simp, fun j hj => ?_, fun j _ hj => ?_⟩
    · rw [Array.getElem?_replicate, Array.getElem?_replicate]
      simp [hj, show j < ops.size by omega]
    · rw [Array.getElem?_replicate]
      simp [hj]
  have := wpAny_parts hp hops hs1 (by omega) k _ _ a _ H h2
  rw [← hs] at this
  exact this
theorem KeepsOthers.drew' (W : World) : KeepsOthers W W.drew := ⟨Nat.le_refl _, fun _ _ h _ => h⟩
theorem letsOut_no {p : Act → World → Prop} : ¬ LetsOut (fun e a w => e = .normal ∧ p a w) := fun ⟨_, _, h⟩ => by cases h.1
end Go.Proofs.YthmpimjmajoimaaGreatDoor
