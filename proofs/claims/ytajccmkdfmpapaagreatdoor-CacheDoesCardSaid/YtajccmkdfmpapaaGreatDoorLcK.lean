/-
  The cache in memory: Dirty.
-/
import Derived.Test.YtajccmkdfmpapaaGreatDoorLcJ
namespace Go.Proofs.YtajccmkdfmpapaaGreatDoor
open Go.RowKit
attribute [local go_sem] Oper.semAt_some

section
variable {w : World} {cb kb ib eb : Nat} {σ : Nat → Nat} {S : CaS}
set_option maxHeartbeats 4000000 in
set_option maxRecDepth 100000 in
theorem lcdirty_at (t : Int) (h : LcC w cb kb ib eb σ S) : Calls Tryz.prog 14 #[.pointer (some ⟨cb, 0, none⟩), .int .i64 t] w (EntsIs (S.dirtyL t) w) := by
  have HH := Lib.hid h
  have hlt := h.lt
  have hne := h.ne
  have hn64 : (S.dirtyL t).length ≤ 64 := Nat.le_trans (List.length_filter_le _ _) (Nat.le_trans h.wf.le h.wf.n64)
  have HN64 := Lib.hid hn64
  have HNE := Lib.hid hne
  have HLT := Lib.hid hlt
  clear h hlt hne hn64
  refine (callsIn_wide (n := 6)).1 ?_
  refine callsIn_of_wp_marks Tryz.func14 rfl trivial ?_ rfl
  simp only [Tryz.ntmps14, List.size_toArray, List.length_cons, List.length_nil, Nat.reduceAdd, Nat.reduceSub, Array.replicate_succ, Array.replicate_zero, List.push_toArray, List.append_toArray, List.nil_append, List.cons_append]
  refine wpIn_wide.2 ?_
  go_wp2_with (first
    | (go_at_call 39; refine (lcdirtyI_at cb t _).mono ?_; rintro r w11 ⟨rfl, rfl⟩)
    | fail)
  obtain ⟨L, hL⟩ : ∃ L, w.heap.size = L := ⟨_, rfl⟩
  obtain ⟨W0, hW0⟩ : ∃ W0 : World, W0 = ((w.alloc (.cells #[.slice none 0 0] 49)).alloc (.cells #[.pointer (some ⟨cb, 0, none⟩)] 24)).alloc (.cells #[.int .i64 t] 3) := ⟨_, rfl⟩
  have hs0 : W0.heap.size = L + 3 := by rw [hW0]; simp [hL]
  obtain ⟨X, hX⟩ : ∃ X : Nat → Prop, X = (fun k => k = L ∨ k = eb) := ⟨_, rfl⟩
  have HBX0 : Hid (Boxed W0 L 49 (.slice none 0 0)) := Lib.hid (by
    rw [hW0, ← hL]
    exact ((Boxed.new w 49 (.slice none 0 0)).alloc _).alloc _)
  have HPB0 : Hid (Boxed W0 (L + 1) 24 (.pointer (some ⟨cb, 0, none⟩))) := Lib.hid (by
    have := Boxed.new (w.alloc (.cells #[.slice none 0 0] 49)) 24 (.pointer (some ⟨cb, 0, none⟩))
    rw [World.size_alloc, hL] at this
    rw [hW0]
    exact this.alloc _)
  have HTB0 : Hid (Blk W0 (L + 2) 3 [.int .i64 t]) := Lib.hid (by
    have := Boxed.new ((w.alloc (.cells #[.slice none 0 0] 49)).alloc (.cells #[.pointer (some ⟨cb, 0, none⟩)] 24)) 3 (.int .i64 t)
    rw [World.size_alloc, World.size_alloc, hL] at this
    rw [hW0]
    exact this)
  have HBW0 : Hid (Below w.heap.size w W0) := Lib.hid (by
    rw [hW0]
    exact (((Below.refl w.heap.size w).alloc (Nat.le_refl _) _).alloc (by rw [World.size_alloc]; omega) _).alloc (by rw [World.size_alloc, World.size_alloc]; omega) _)
  have HLN := Lib.hid hL
  rw [← hW0, hL]
  clear hW0
  refine (wpIn_wide (n := 3)).1 ?_
  refine range_seenG (α := CE) (gf := 62) (lb := #[.pointer (some ⟨L + 1, 0, none⟩), .pointer (some ⟨L + 2, 0, none⟩)]) rfl (by omega) rfl trivial (enters_of Tryz.func62 (by kernel_rfl) rfl) (encs := fun (e : CE) => #[Value.pointer (some ⟨eb, σ e.b * 3, none⟩)]) (Kp := KeepT (L + 3) X) (E := fun pre W1 => ∀ e ∈ S.E, e ∉ pre → W1.cell? ⟨eb, σ e.b * 3, none⟩ = some (.int .i64 (e.b : Int)) ∧ W1.cell? ⟨eb, σ e.b * 3 + 2, none⟩ = some (.bool e.d)) (G := Nxt (S.dirtyL t)) (S := fun ys _ => ys = S.dirtyL t) ?seq (fun h k => h.trans k)
    (fun W q o o' hq ho hc => KeepT.putObj o' (by omega) ho hc) (fun ys W q o o' _ hs _ _ => hs) (fun _ => rfl)
    (fun ys W => (∃ v, Boxed W L 49 v ∧ W.ownsRow (L + 3) 56 3 v ys.length (cesC ys) ∧ True) ∧ (Below w.heap.size w W ∧ W0.heap.size ≤ W.heap.size))
    (OwnFrom.and (Own.from (holdsRow_own (L + 3) L 49 56 3 (fun (ys : List CE) => ys.length) (fun (ys : List CE) => cesC ys) (fun _ _ => True)) _) (OwnFrom.and (ownFrom_below (Nat.le_refl _) (by rw [hs0]; omega)) (fun _ _ _ _ hs hg _ => Nat.le_trans hs hg.size)))
    (fun pre W1 hI e he _ => by have hq := (HH.out.up hI.2.1).slot he; exact ⟨hq.2.1, hq.2.2.2⟩) ⟨⟨_, HBX0.out, World.ownsRow_nil _ _ _ _, trivial⟩, HBW0.out, Nat.le_refl _⟩
    (fun x => { tmps := #[.pointer (some ⟨cb, 0, none⟩), .int .i64 t, undef, undef, .slice none 0 0, .pointer (some ⟨L, 0, none⟩), .pointer (some ⟨eb, σ x.b * 3, none⟩), .pointer (some ⟨cb, 0, none⟩), .int .i64 t, .func (Fn.func 62) #[] #[.pointer (some ⟨L + 1, 0, none⟩), .pointer (some ⟨L + 2, 0, none⟩)], .pointer (some ⟨eb, σ x.b * 3, none⟩), undef, undef, undef, undef, undef, undef, undef], defers := [] }) ?assign ?body ?done
  case seq =>
    intro ly J W hbW hJ hE hY h0
    refine callsIn_wide.2 ?_
    have h2 := HH.out.up HBW0.out
    have h3 := h2.up hbW
    exact ldirtyA_in (NB := L + 3) (X := X) (TB := L + 2) (fun e he => (HH.out.slot he).1) HH.out.wf (by have := HLT.out; omega) (by rw [hX]; have := HNE.out; have := HLT.out; omega) (by have := HNE.out; have := HLT.out; omega) (by rw [hX]; have := HNE.out; have := HLT.out; omega) (by omega) (by rw [hX]; have := HNE.out; have := HLT.out; omega) ly J W (by have := hbW.size; omega) hJ hE hY h0 ⟨h3.b, h3.x, (hbW.block (L + 1) (by omega)).trans HPB0.out⟩ ((hbW.block (L + 2) (by omega)).trans HTB0.out)
  case assign =>
    intro ly x W K hK
    gi_wp2
    exact hK
  case body =>
    rintro ly pre x W ⟨⟨v, hv, hrow, _⟩, hB, hWs⟩ hG
    have HV : Hid (Blk W L 49 [v]) := Lib.hid hv
    have HO : Hid (OwnK W (L + 3) 56 3 v pre.length (cesC pre)) := Lib.hid hrow
    have HB := Lib.hid hB
    have HWS : Hid (L + 3 ≤ W.heap.size) := Lib.hid (by omega)
    have HMX : Hid (x ∈ S.E ∧ pre.length < (S.dirtyL t).length) := Lib.hid ⟨(List.mem_filter.1 (nxt_mem hG).1).1, (nxt_mem hG).2⟩
    have HPL : Hid (pre.length ≤ 64) := Lib.hid (by have := HMX.out.2; have := HN64.out; omega)
    have hslot := (HH.out.up hB).slot HMX.out.1
    obtain ⟨_, q0, q1, q2⟩ := hslot
    obtain ⟨s, hs⟩ : ∃ s, σ x.b = s := ⟨_, rfl⟩
    obtain ⟨xb, hxb⟩ : ∃ y, x.b = y := ⟨_, rfl⟩
    obtain ⟨xa, hxa⟩ : ∃ y, x.a = y := ⟨_, rfl⟩
    obtain ⟨xd, hxd⟩ : ∃ y, x.d = y := ⟨_, rfl⟩
    have HCX : Hid (cesC (pre ++ [x]) = cesC pre ++ [.int .i64 (xb : Int), .int .u32 (xa : Int), .bool xd]) := Lib.hid (by rw [cesC_app, ← hxb, ← hxa, ← hxd]; rfl)
    rw [hs] at q0 q1 q2 ⊢
    rw [hxb] at q0
    rw [hxa] at q1
    rw [hxd] at q2
    have HXL : Hid (X L) := Lib.hid (by rw [hX]; exact .inl rfl)
    have hel : eb < L := by have := HNE.out; have := HLT.out; omega
    have HSS : Hid (∀ u, Kept (fun k => L + 3 ≤ k) W u → u.cell? ⟨L, 0, none⟩ = some v ∧ u.cell? ⟨eb, s * 3, none⟩ = some (.int .i64 (xb : Int)) ∧ u.cell? ⟨eb, s * 3 + 1, none⟩ = some (.int .u32 (xa : Int)) ∧ u.cell? ⟨eb, s * 3 + 2, none⟩ = some (.bool xd)) := Lib.hid (fun u hu => ⟨by simpa using (hu.blk HV.out (by omega)).cell 0 (by simp), hu.cell q0 (show ¬ L + 3 ≤ eb by omega), hu.cell q1 (show ¬ L + 3 ≤ eb by omega), hu.cell q2 (show ¬ L + 3 ≤ eb by omega)⟩)
    clear hv hrow hB hWs hG q0 q1 q2 hs hxb hxa hxd
    gi_wp2
    refine wpIn_region_parts (S := fun u => u.cell? ⟨L, 0, none⟩ = some v ∧ u.cell? ⟨eb, s * 3, none⟩ = some (.int .i64 (xb : Int)) ∧ u.cell? ⟨eb, s * 3 + 1, none⟩ = some (.int .u32 (xa : Int)) ∧ u.cell? ⟨eb, s * 3 + 2, none⟩ = some (.bool xd)) 6 1 _ (by kernel_rfl) (by kernel_rfl) (by rfl) (by simp only [List.take_succ_cons, List.take_zero]; rfl) (by simp) letsOut_no ?_ (fun hHeld => ?_)
    · exact HSS.out _ (Kept.refl _ _).drew
    refine wpAnyH_take (i := 0) (v := ?_) rfl (by kernel_rfl) (by kernel_rfl) (by kernel_rfl) (fun _ _ _ h => h) (Or.inl ⟨by rfl, ?_⟩) hHeld ?_
    rotate_left
    · intro u hSu
      obtain ⟨x0, x1, x2, x3⟩ := hSu
      go_simp
      try with_reducible rfl
    try simp only [Act.put, List.setIfInBounds_toArray, List.set_cons_zero, List.set_cons_succ, List.getElem_toArray, List.getElem_cons_zero, List.getElem_cons_succ]
    refine wpAnyH_take (i := 1) (v := ?_) rfl (by kernel_rfl) (by kernel_rfl) (by kernel_rfl) (fun _ _ _ h => h) (Or.inl ⟨by rfl, ?_⟩) hHeld ?_
    rotate_left
    · intro u hSu
      obtain ⟨x0, x1, x2, x3⟩ := hSu
      go_simp
      try with_reducible rfl
    try simp only [Act.put, List.setIfInBounds_toArray, List.set_cons_zero, List.set_cons_succ, List.getElem_toArray, List.getElem_cons_zero, List.getElem_cons_succ]
    refine wpAnyH_take (i := 2) (v := ?_) rfl (by kernel_rfl) (by kernel_rfl) (by kernel_rfl) (fun _ _ _ h => h) (Or.inl ⟨by rfl, ?_⟩) hHeld ?_
    rotate_left
    · intro u hSu
      obtain ⟨x0, x1, x2, x3⟩ := hSu
      go_simp
      try with_reducible rfl
    try simp only [Act.put, List.setIfInBounds_toArray, List.set_cons_zero, List.set_cons_succ, List.getElem_toArray, List.getElem_cons_zero, List.getElem_cons_succ]
    refine wpAnyH_take (i := 3) (v := ?_) rfl (by kernel_rfl) (by kernel_rfl) (by kernel_rfl) (fun _ _ _ h => h) (Or.inl ⟨by rfl, ?_⟩) hHeld ?_
    rotate_left
    · intro u hSu
      obtain ⟨x0, x1, x2, x3⟩ := hSu
      go_simp
      try with_reducible rfl
    try simp only [Act.put, List.setIfInBounds_toArray, List.set_cons_zero, List.set_cons_succ, List.getElem_toArray, List.getElem_cons_zero, List.getElem_cons_succ]
    obtain ⟨w6, hw6⟩ : ∃ w6, W.drew = w6 := ⟨_, rfl⟩
    have HB6 : Hid (Below W.heap.size W w6) := Lib.hid (by rw [← hw6]; exact (Below.refl _ _).drew)
    have HKO6 : Hid (KeepsOthers W w6) := Lib.hid (by rw [← hw6]; exact KeepsOthers.drew' W)
    rw [hw6] at hHeld ⊢
    clear hw6
    obtain ⟨w7, hw7⟩ : ∃ w7, w6.alloc (.cells #[.int .i64 (xb : Int), .int .u32 (xa : Int), .bool xd] 56) = w7 := ⟨_, rfl⟩
    have hb7 : Below w6.heap.size w6 w7 := by rw [← hw7]; exact (Below.refl _ _).alloc (Nat.le_refl _) _
    have HB7 : Hid (Below W.heap.size W w7) := Lib.hid (below_all HB6.out hb7)
    have HKO7 : Hid (KeepsOthers W w7) := Lib.hid (by rw [← hw7]; exact HKO6.out.trans (KeepsOthers.alloc _ _))
    have HO7 := Lib.hid (HO.out.up HB7.out)
    have HR7 : Hid (RdV w7 w7.heap.size (some ⟨w6.heap.size, 0, none⟩) [.int .i64 (xb : Int), .int .u32 (xa : Int), .bool xd]) := Lib.hid (fun _ => ⟨w6.heap.size, 0, rfl, by rw [← hw7]; simp, fun i hi => by rw [Nat.zero_add, ← hw7]; exact Blk.cell (T := 56) (heap_alloc_new w6 _) i hi⟩)
    clear hb7 HB6 HKO6
    refine wpAnyH_ready (rs := [4]) (by kernel_rfl) (by simp) ?_
    refine (AllReadyH.cons rfl (fun K hK => ?_) AllReadyH.nil)
    go_simp
    try rw [hw7]
    refine hK.out _ _ ?_ (fun hHeld2 => ?_)
    · exact HSS.out _ (Kept.of_below HB7.out)
    clear hK K hHeld
    have hHeld := hHeld2
    clear hHeld2
    try simp only [Act.put, List.setIfInBounds_toArray, List.set_cons_zero, List.set_cons_succ, List.getElem_toArray, List.getElem_cons_zero, List.getElem_cons_succ]
    refine wpAnyH_ready (rs := [5]) (by kernel_rfl) (by simp) ?_
    refine (AllReadyH.cons rfl (fun K hK => ?_) AllReadyH.nil)
    (refine stepP w7 (by rfl) (.tmp 11) (.tmp 15) 49 56 (.agg #[.int .i64 0, .int .u32 0, .bool false]) 3 16 (by rfl) Tryz.underlying49 caInfo rfl (by decide) (by decide) (L + 3) pre.length 1 1 v (cesC pre) [.int .i64 (xb : Int), .int .u32 (xa : Int), .bool xd] (some ⟨w6.heap.size, 0, none⟩) (by rfl) HO7.out (by rfl) rfl HR7.out (fun e => by cases e) (fun u hu => by simp only [List.mem_cons, List.not_mem_nil, or_false] at hu; rcases hu with rfl | rfl | rfl <;> rfl) (by have := HPL.out; omega) (by have := HB7.out.size; have := HWS.out; omega) ?_; intro v8 w8 ho hg; have HO8 : Hid (OwnK w8 (L + 3) 56 3 v8 (pre.length + 1) (cesC pre ++ [.int .i64 (xb : Int), .int .u32 (xa : Int), .bool xd])) := Lib.hid ho; have HG8 := Lib.hid (rowEnt (NB := L + 3) (X := X) HO7.out HB7.out HKO7.out HWS.out hg); clear ho hg)
    refine hK.out _ _ ?_ (fun hHeld2 => ?_)
    · exact HSS.out _ (HG8.out.1)
    clear hK K hHeld
    have hHeld := hHeld2
    clear hHeld2
    try simp only [Act.put, List.setIfInBounds_toArray, List.set_cons_zero, List.set_cons_succ, List.getElem_toArray, List.getElem_cons_zero, List.getElem_cons_succ]
    refine wpAnyH_done (by kernel_rfl) ?_ _
    show wpAny _ _ _ _ 1 _ _ _
    clear hHeld
    have HFIN := Lib.hid (rowFin (X := X) HO8.out HG8.out HV.out HWS.out (by omega) HXL.out)
    obtain ⟨A8, c8, rfl, _, _, _⟩ := HO8.out.form
    have f8 := HFIN.out.1
    have k8 := HFIN.out.2.1
    refine wpAny_ready (rs := [6]) (by kernel_rfl) (by simp) ?_
    refine AllReady.cons rfl (fun K hK => ?_) AllReady.nil
    go_simp
    refine hK _ _ ?_
    clear hK K
    refine wpAny_done (by kernel_rfl) ?_ _
    have hF := HFIN.out
    obtain ⟨_, _, b1, b2, b3, b4, b5⟩ := hF
    refine ⟨rfl, b5, b4, ⟨_, b1, ?_, trivial⟩, HB.out.trans (b3.below HB.out.size (fun k e => by have := HLN.out; omega)), by have := b3.size; have := HWS.out; omega⟩
    rw [HCX.out, List.length_append]
    exact b2
  case done =>
    rintro D ys W hD hys ⟨⟨v, hv, hrow, _⟩, hB, hWs⟩ hK
    subst hys
    have hc := hv.cell
    have HO : Hid (OwnK W (L + 3) 56 3 v (S.dirtyL t).length (cesC (S.dirtyL t))) := Lib.hid hrow
    obtain ⟨A, c, rfl, _, _, _⟩ := HO.out.form
    go_wp2_with fail
    refine ⟨by simp, .inl ⟨_, _, rfl, run_takeDeferred hK, ?_⟩⟩
    have hr2 := ownsRow_putObj HO.out (.deferred none) hK rfl
    exact ⟨.slice A (S.dirtyL t).length c, by simp [results, Tryz.results14, go_sem], _, rfl, OwnK.le hr2 (by omega), hB.trans (belowK_b (w := w) (Nat.le_refl _) W D _ _ (by have := HBW0.out.size; omega) hK rfl rfl)⟩
end
end Go.Proofs.YtajccmkdfmpapaaGreatDoor
