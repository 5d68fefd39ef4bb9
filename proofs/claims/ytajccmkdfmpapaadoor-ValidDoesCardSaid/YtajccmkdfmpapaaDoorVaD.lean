/-
  A set in memory: New, Count, counts, Total, Bare, Of.
-/
import Derived.Test.YtajccmkdfmpapaaDoorVaB
import Derived.Test.YtajccmkdfmpapaaDoorRowK
namespace Go.Proofs.YtajccmkdfmpapaaDoor
open Go.RowKit

/-- What New answers. -/
def VaNew (z p b : Int) (w : World) (r : Ending) (w' : World) : Prop :=
  Below w.heap.size w w' ∧ if rightB z p b = true then ∃ sb rb, w.heap.size ≤ rb ∧ r = .returned (.tuple #[.pointer (some ⟨sb, 0, none⟩), .nilIface]) ∧ VaM w' sb rb ⟨z, p, b, []⟩ else r = .returned (.tuple #[.pointer none, .iface 33 (.int .i64 1)])
set_option maxHeartbeats 1000000 in
set_option maxRecDepth 100000 in
theorem vanew_at (z p b : Int) (w : World) : Calls Tryd.prog 5 #[.agg #[.int .i64 z, .int .i64 p, .int .i64 b]] w (VaNew z p b w) := by
  have HB1 : Hid (Below w.heap.size w (w.alloc (.cells #[.int .i64 z, .int .i64 p, .int .i64 b] 23))) := Lib.hid (below_box w _)
  have HCB : Hid (∀ u, Below (w.alloc (.cells #[.int .i64 z, .int .i64 p, .int .i64 b] 23)).heap.size (w.alloc (.cells #[.int .i64 z, .int .i64 p, .int .i64 b] 23)) u → u.cell? ⟨w.heap.size, 0, none⟩ = some (.int .i64 z) ∧ u.cell? ⟨w.heap.size, 1, none⟩ = some (.int .i64 p) ∧ u.cell? ⟨w.heap.size, 2, none⟩ = some (.int .i64 b)) := Lib.hid (fun u hu => cell_box hu)
  by_cases hr : rightB z p b = true
  · obtain ⟨hi, _⟩ := right_in hr
    obtain ⟨g1, g2, g3, g4⟩ := insB_iff.1 hi
    have hbd := VaS.bd (S := ⟨z, p, b, []⟩) hi
    obtain ⟨m, hm⟩ : ∃ m, (⟨z, p, b, []⟩ : VaS).m = m := ⟨_, rfl⟩
    have HM : Hid (z - 2 = (m : Int)) := Lib.hid (by have := hbd.1; rw [hm] at this; simp only at this; omega)
    have hm22 : m ≤ 22 := by have := hbd.2.2.2.1; rw [hm] at this; exact this
    have HE : Hid (∀ w4 w5 : World, w.heap.size ≤ w4.heap.size → w5.heap.size = w4.heap.size + 1 → Below w.heap.size w w5 → Blk w5 w4.heap.size 65 (zC (fun _ => 0) m) → VaNew z p b w (.returned (.tuple #[.pointer (some ⟨w4.heap.size + 1, 0, none⟩), .nilIface])) (w5.alloc (.cells #[.int .i64 z, .int .i64 p, .int .i64 b, .slice (some ⟨w4.heap.size, 0, none⟩) m m] 56))) := Lib.hid (fun w4 w5 h1 h2 h3 h4 => by
      have h5 : Below w5.heap.size w5 (w5.alloc (.cells #[.int .i64 z, .int .i64 p, .int .i64 b, .slice (some ⟨w4.heap.size, 0, none⟩) m m] 56)) := (Below.refl _ _).alloc (Nat.le_refl _) _
      refine ⟨below_all h3 h5, ?_⟩
      rw [if_pos hr]
      refine ⟨_, _, h1, rfl, ⟨fun _ => 0, ?_, ?_, VaS.Bits.zero _ rfl, by omega⟩, ⟨hi, List.nodup_nil, fun a ha => (by cases ha)⟩⟩
      · have := heap_alloc_new w5 (.cells #[.int .i64 z, .int .i64 p, .int .i64 b, .slice (some ⟨w4.heap.size, 0, none⟩) m m] 56)
        rw [h2] at this
        rw [hm]
        exact this
      · rw [hm]
        exact h4.up h5 (by omega))
    clear hi hbd
    have HR : Hid (∀ u, Calls Tryd.prog 22 #[.agg #[.int .i64 z, .int .i64 p, .int .i64 b]] u (BoolB true u)) := Lib.hid (fun u => by have := right_is z p b u; rwa [hr] at this)
    clear hr hm
    go_enter Tryd.func5, Tryd.ntmps5
    go_wp2_with fail
    refine (HR.out _).mono ?_
    rintro r w2 ⟨rfl, hb⟩
    have HX2 := Lib.hid (HCB.out _ hb)
    have HB2 := Lib.hid (below_all HB1.out hb)
    have hX2 := HX2.out
    obtain ⟨x0, x1, x2⟩ := hX2
    have HCB' := Lib.hid (fun u (hu : Below w2.heap.size w2 u) => HCB.out u (below_all hb hu))
    clear hb HCB
    have HCB := HCB'
    clear HCB' HB1 HR
    have HLG := Lib.hid (log_is z p b w2.drew (by omega) (by omega))
    go_wp2_with fail
    refine wp_region_held_drew (S := fun u => u.cell? ⟨w.heap.size, 0, none⟩ = some (.int .i64 z) ∧ u.cell? ⟨w.heap.size, 1, none⟩ = some (.int .i64 p) ∧ u.cell? ⟨w.heap.size, 2, none⟩ = some (.int .i64 b)) (by kernel_rfl) (HX2.out) (fun hHeld => ?_)
    show wpAnyH _ _ _ _ _ 8 _ _ _
    refine wpAnyH_take (i := 0) (v := ?_) rfl (by kernel_rfl) (by kernel_rfl) (by kernel_rfl) (fun _ _ _ h => h) (Or.inl ⟨by rfl, ?_⟩) hHeld ?_
    rotate_left
    · intro u hSu
      obtain ⟨x0, x1, x2⟩ := hSu
      go_simp
      try with_reducible rfl
    try simp only [Act.put, List.setIfInBounds_toArray, List.set_cons_zero, List.set_cons_succ, List.getElem_toArray, List.getElem_cons_zero, List.getElem_cons_succ]
    refine wpAnyH_take (i := 1) (v := ?_) rfl (by kernel_rfl) (by kernel_rfl) (by kernel_rfl) (fun _ _ _ h => h) (Or.inl ⟨by rfl, ?_⟩) hHeld ?_
    rotate_left
    · intro u hSu
      obtain ⟨x0, x1, x2⟩ := hSu
      go_simp
      try with_reducible rfl
    try simp only [Act.put, List.setIfInBounds_toArray, List.set_cons_zero, List.set_cons_succ, List.getElem_toArray, List.getElem_cons_zero, List.getElem_cons_succ]
    refine wpAnyH_ready (rs := [2]) (by kernel_rfl) (by simp) ?_
    refine (AllReadyH.cons rfl (fun K hK => ?_) AllReadyH.nil)
    go_simp
    refine HLG.out.mono ?_
    rintro r w4 ⟨rfl, hb⟩
    rw [HM.out]
    have HX4 := Lib.hid (HCB.out _ (below_all (Below.refl w2.heap.size w2).drew hb))
    have HB4 := Lib.hid (below_all HB2.out (below_all (Below.refl w2.heap.size w2).drew hb))
    have hmk := make_zones m (by omega) w4
    rw [zerosZ_is] at hmk
    obtain ⟨w5, hw5⟩ : ∃ u, w4.alloc (.cells (zC (fun _ => 0) m).toArray 65) = u := ⟨_, rfl⟩
    have hb5 : Below w4.heap.size w4 w5 := by rw [← hw5]; exact (Below.refl _ _).alloc (Nat.le_refl _) _
    have HX5 := Lib.hid (HCB.out _ (below_all (below_all (Below.refl w2.heap.size w2).drew hb) hb5))
    have HZ5 : Hid (Blk w5 w4.heap.size 65 (zC (fun _ => 0) m)) := Lib.hid (by rw [← hw5]; exact heap_alloc_new w4 _)
    have hs5 : w5.heap.size = w4.heap.size + 1 := by rw [← hw5]; simp
    have HB25 := Lib.hid (below_all (below_all (Below.refl w2.heap.size w2).drew hb) hb5)
    have HB5 := Lib.hid (below_all HB4.out hb5)
    have hge : w.heap.size ≤ w4.heap.size := HB4.out.size
    rw [hw5] at hmk
    clear hb hb5 hw5
    refine hK.out _ _ ?_ (fun hHeld2 => ?_)
    · exact HX4.out
    clear hK K hHeld
    have hHeld := hHeld2
    clear hHeld2
    try simp only [Act.put, List.setIfInBounds_toArray, List.set_cons_zero, List.set_cons_succ, List.getElem_toArray, List.getElem_cons_zero, List.getElem_cons_succ]
    refine wpAnyH_ready (rs := [3]) (by kernel_rfl) (by simp) ?_
    refine (AllReadyH.cons rfl (fun K hK => ?_) AllReadyH.nil)
    go_simp
    refine hK.out _ _ ?_ (fun hHeld2 => ?_)
    · exact HX5.out
    clear hK K hHeld
    have hHeld := hHeld2
    clear hHeld2
    try simp only [Act.put, List.setIfInBounds_toArray, List.set_cons_zero, List.set_cons_succ, List.getElem_toArray, List.getElem_cons_zero, List.getElem_cons_succ]
    refine wpAnyH_take (i := 4) (v := ?_) rfl (by kernel_rfl) (by kernel_rfl) (by kernel_rfl) (fun _ _ _ h => h) (Or.inl ⟨by rfl, ?_⟩) hHeld ?_
    rotate_left
    · intro u hSu
      obtain ⟨x0, x1, x2⟩ := hSu
      go_simp
      try with_reducible rfl
    try simp only [Act.put, List.setIfInBounds_toArray, List.set_cons_zero, List.set_cons_succ, List.getElem_toArray, List.getElem_cons_zero, List.getElem_cons_succ]
    have HX6 := Lib.hid (HCB.out _ (below_all HB25.out ((Below.refl w5.heap.size w5).alloc (Nat.le_refl _) (.cells #[.int .i64 z, .int .i64 p, .int .i64 b, .slice (some ⟨w4.heap.size, 0, none⟩) m m] 56))))
    refine wpAnyH_ready (rs := [5]) (by kernel_rfl) (by simp) ?_
    refine (AllReadyH.cons rfl (fun K hK => ?_) AllReadyH.nil)
    go_simp
    refine hK.out _ _ ?_ (fun hHeld2 => ?_)
    · exact HX6.out
    clear hK K hHeld
    have hHeld := hHeld2
    clear hHeld2
    try simp only [Act.put, List.setIfInBounds_toArray, List.set_cons_zero, List.set_cons_succ, List.getElem_toArray, List.getElem_cons_zero, List.getElem_cons_succ]
    refine wpAnyH_take (i := 6) (v := ?_) rfl (by kernel_rfl) (by kernel_rfl) (by kernel_rfl) (fun _ _ _ h => h) (Or.inl ⟨by rfl, ?_⟩) hHeld ?_
    rotate_left
    · intro u hSu
      obtain ⟨x0, x1, x2⟩ := hSu
      go_simp
      try with_reducible rfl
    try simp only [Act.put, List.setIfInBounds_toArray, List.set_cons_zero, List.set_cons_succ, List.getElem_toArray, List.getElem_cons_zero, List.getElem_cons_succ]
    refine wpAnyH_take (i := 7) (v := ?_) rfl (by kernel_rfl) (by kernel_rfl) (by kernel_rfl) (fun _ _ _ h => h) (Or.inl ⟨by rfl, ?_⟩) hHeld ?_
    rotate_left
    · intro u hSu
      obtain ⟨x0, x1, x2⟩ := hSu
      go_simp
      try with_reducible rfl
    try simp only [Act.put, List.setIfInBounds_toArray, List.set_cons_zero, List.set_cons_succ, List.getElem_toArray, List.getElem_cons_zero, List.getElem_cons_succ]
    refine wpAnyH_done (by kernel_rfl) ?_ _
    go_wp2_with fail
    go_ret2
    exact HE.out _ _ hge hs5 HB5.out HZ5.out
  · have HE : Hid (∀ u, Below w.heap.size w u → VaNew z p b w (.returned (.tuple #[.pointer none, .iface 33 (.int .i64 1)])) u) := Lib.hid (fun u hu => ⟨hu, by rw [if_neg hr]⟩)
    have hr' : rightB z p b = false := by simpa using hr
    have HR : Hid (∀ u, Calls Tryd.prog 22 #[.agg #[.int .i64 z, .int .i64 p, .int .i64 b]] u (BoolB false u)) := Lib.hid (fun u => by have := right_is z p b u; rwa [hr'] at this)
    clear hr hr' HCB
    go_enter Tryd.func5, Tryd.ntmps5
    go_wp2_with fail
    refine (HR.out _).mono ?_
    rintro r w2 ⟨rfl, hb⟩
    have HB2 := Lib.hid (below_all HB1.out hb)
    clear hb
    go_wp2_with fail
    go_ret2
    exact HE.out _ HB2.out
section
variable {w : World} {sb rb : Nat} {S : VaS}
set_option maxHeartbeats 1000000 in
theorem vacount_at (zone : Int) (h : VaM w sb rb S) : Calls Tryd.prog 15 #[.pointer (some ⟨sb, 0, none⟩), .int .i64 zone] w (IntB (S.cnt zone : Int) w) := by
  obtain ⟨⟨N, hc⟩, hw⟩ := h
  obtain ⟨z0, z1, z2, z3⟩ := hc.cells
  obtain ⟨e1, e2, m1, m2, p1, p2, e3, _, _⟩ := VaS.bd hw.i
  clear z0 z1 z2
  by_cases h0 : zone < 0
  · have HE : Hid (S.cnt zone = 0) := Lib.hid (by unfold VaS.cnt; rw [VaS.ofL_out hw (.inl h0)]; rfl)
    have hd : decide (zone < 0) = true := by simpa using h0
    clear hc hw e1 e2 e3 h0
    go_enter Tryd.func15, Tryd.ntmps15
    go_wp2_with fail
    go_ret
    exact ⟨ret_int (by rw [HE.out]; rfl), Below.refl _ _⟩
  · have hd : decide (zone < 0) = false := by simpa using h0
    by_cases h1 : zone < (S.m : Int)
    · obtain ⟨i, rfl⟩ := Int.eq_ofNat_of_zero_le (show 0 ≤ zone by omega)
      have hi : i < S.m := by omega
      have z4 := hc.zone hi
      have HO := Lib.hid (ones_is (N i) (hc.n i hi).1 w)
      rw [hc.n.count hw.i hi] at HO
      have hd2 : decide ((S.m : Int) ≤ (i : Int)) = false := by simp; omega
      clear hc hw e1 e2 e3 h0 h1
      generalize S.cnt (i : Int) = n at *
      generalize N i = x at *
      generalize S.m = m at *
      go_enter Tryd.func15, Tryd.ntmps15
      go_wp2_with fail
      refine HO.out.mono ?_
      rintro r w' ⟨rfl, hb⟩
      have HB := Lib.hid hb
      clear hb
      go_wp2_with fail
      go_ret
      exact ⟨rfl, HB.out⟩
    · have HE : Hid (S.cnt zone = 0) := Lib.hid (by unfold VaS.cnt; rw [VaS.ofL_out hw (.inr (by omega))]; rfl)
      have hd2 : decide ((S.m : Int) ≤ zone) = true := by simp; omega
      clear hc hw e1 e2 e3 h0 h1
      generalize S.m = m at *
      go_enter Tryd.func15, Tryd.ntmps15
      go_wp2_with fail
      go_ret
      exact ⟨ret_int (by rw [HE.out]; rfl), Below.refl _ _⟩
/-- A row of numbers by places. -/
def iC (f : Nat → Int) (m : Nat) : List Value := (List.range m).map (fun i => Value.int .i64 (f i))
theorem iC_len (f : Nat → Int) (m : Nat) : (iC f m).length = m := by simp [iC]
theorem iC_at (f : Nat → Int) {m i : Nat} (h : i < m) : (iC f m)[i]? = some (.int .i64 (f i)) := by
  unfold iC
  simp [h]
def upI (f : Nat → Int) (i : Nat) (x : Int) : Nat → Int := fun k => if k = i then x else f k
theorem iC_set (f : Nat → Int) (m i : Nat) (x : Int) : (iC f m).set i (.int .i64 x) = iC (upI f i x) m := by
  refine List.ext_getElem (by simp [iC_len]) fun k h1 h2 => ?_
  simp only [List.getElem_set, iC, List.getElem_map, List.getElem_range, upI]
  by_cases e : i = k
  · subst e
    simp
  · have : ¬ k = i := fun h => e h.symm
    simp [e, this]
def cutI (f : Nat → Int) (k : Nat) : Nat → Int := fun i => if i < k then f i else 0
theorem cutI_up (f : Nat → Int) (k : Nat) : upI (cutI f k) k (f k) = cutI f (k + 1) := by
  funext i
  unfold upI cutI
  by_cases e : i = k
  · subst e
    rw [if_pos rfl, if_pos (by omega)]
  · rw [if_neg e]
    by_cases h : i < k
    · rw [if_pos h, if_pos (by omega)]
    · rw [if_neg h, if_neg (by omega)]
theorem cutI_all (f : Nat → Int) (m : Nat) : iC (cutI f m) m = iC f m := by
  refine List.ext_getElem (by simp [iC_len]) fun k h1 h2 => ?_
  simp only [iC_len] at h1
  simp [iC, cutI, h1]
def zerosI (k : Nat) : Obj := .cells (madeCells (Value.int .i64 0).cells (k * 1)) 3
theorem make_ints (k : Nat) (hk : k ≤ 1000) (w : World) : (Instr.makeSlice 49 (.int .i64 (k : Int)) (.int .i64 (k : Int))).run Tryd.prog w = .ok (.slice (some ⟨w.heap.size, 0, none⟩) k k) (w.alloc (zerosI k)) := by
  obtain ⟨i0, hi, hz0, hz1, hz2⟩ := info_parts intInfo
  have := run_make (P := Tryd.prog) w 49 3 i0 (.int .i64 0) Tryd.underlying49 hi hz0 .i64 .i64 (k : Int) (k : Int) (by omega) (Int.le_refl _) (by rw [hz2]; omega) (by omega)
  rw [hz1] at this
  simpa [zerosI] using this
theorem zerosI_is (f : Nat → Int) (k : Nat) : zerosI k = .cells (iC (cutI f 0) k).toArray 3 := by
  unfold zerosI
  congr 1
  refine Array.ext (by rw [size_madeCells]; simp [iC_len]) fun i h1 h2 => ?_
  simp [madeCells, Value.cells, Nat.mod_one, iC, cutI]
def cntI (S : VaS) : Nat → Int := fun i => (S.cnt (i : Int) : Int)
/-- All zones' counts. -/
def CntsIs (m : Nat) (S : VaS) (w : World) (r : Ending) (w' : World) : Prop := ∃ g, r = .returned (.slice (some ⟨g, 0, none⟩) m m) ∧ Blk w' g 3 (iC (cntI S) m) ∧ Below w.heap.size w w'
set_option maxHeartbeats 1000000 in
theorem vacounts_at (h : VaM w sb rb S) : Calls Tryd.prog 30 #[.int .i64 (S.m : Int), .func (.func 15) #[.pointer (some ⟨sb, 0, none⟩)] #[]] w (CntsIs S.m S w) := by
  have HV := Lib.hid h
  have hm22 : S.m ≤ 22 := (VaS.bd h.2.i).2.2.2.1
  have hmk := make_ints S.m (by omega) w
  rw [zerosI_is (cntI S)] at hmk
  obtain ⟨m, hm⟩ : ∃ m, S.m = m := ⟨_, rfl⟩
  rw [hm] at hmk hm22 ⊢
  obtain ⟨w1, hw1⟩ : ∃ u, w.alloc (.cells (iC (cutI (cntI S) 0) m).toArray 3) = u := ⟨_, rfl⟩
  have HB1 : Hid (Below w.heap.size w w1) := Lib.hid (by rw [← hw1]; exact (Below.refl _ _).alloc (Nat.le_refl _) _)
  have HI1 : Hid (Blk w1 w.heap.size 3 (iC (cutI (cntI S) 0) m)) := Lib.hid (by rw [← hw1]; exact heap_alloc_new w _)
  rw [hw1] at hmk
  have HCA := Lib.hid (cutI_all (cntI S) m)
  clear h hw1 hm
  go_enter Tryd.func30, Tryd.ntmps30
  go_wp2_with fail
  go_loopg [6, 11] m (fun q y0 y wr => ∃ (k : Nat), k ≤ m ∧ q = m - k ∧ y = .int .i64 (k : Int) ∧ Blk wr w.heap.size 3 (iC (cutI (cntI S) k) m) ∧ Below w.heap.size w wr)
  case atStart => exact ⟨0, by omega, by omega, rfl, HI1.out, HB1.out⟩
  case round =>
    clear HB1 HI1
    obtain ⟨k, hk, hq, rfl, hi, hb⟩ := hrel
    have HQ := Lib.hid hq
    have HI := Lib.hid hi
    have HB := Lib.hid hb
    have HC := Lib.hid (vacount_at (k : Int) (HV.out.up hb))
    clear hq hi hb
    by_cases hlt : k < m
    · have HU := Lib.hid (cutI_up (cntI S) k)
      obtain ⟨n, hn⟩ : ∃ n, S.cnt (k : Int) = n := ⟨_, rfl⟩
      have hn2 : cntI S k = (n : Int) := by unfold cntI; rw [hn]
      rw [hn] at HC
      rw [hn2] at HU
      clear hn hn2
      go_wp2_with fail
      refine HC.out.mono ?_
      rintro r w5 ⟨rfl, hb⟩
      have HI5 := Lib.hid (HI.out.up hb (lt_of_block HI.out))
      have HB5 := Lib.hid (below_all HB.out hb)
      have y5 := HI5.out.at (iC_at (cutI (cntI S) k) hlt)
      have f5 := HI5.out.free k
      have HI6 : Hid (Blk (w5.setCell ⟨w.heap.size, k, none⟩ (.int .i64 (n : Int))) w.heap.size 3 (iC (cutI (cntI S) (k + 1)) m)) := Lib.hid (by
        have := HI5.out.put k (.int .i64 (n : Int))
        rw [iC_set, HU.out] at this
        exact this)
      have HB6 : Hid (Below w.heap.size w (w5.setCell ⟨w.heap.size, k, none⟩ (.int .i64 (n : Int)))) := Lib.hid (HB5.out.setCell (Nat.le_refl _) _)
      clear hb HC HI HB HU
      generalize cutI (cntI S) k k = xx at *
      go_wp2_with fail
      go_roundg (m - (k + 1))
      case rel => exact ⟨k + 1, by omega, rfl, by go_num, HI6.out, HB6.out⟩
      case measure => have := HQ.out; omega
    · obtain rfl : k = m := by omega
      have HE : Hid (CntsIs k S w (.returned (.slice (some ⟨w.heap.size, 0, none⟩) k k)) wr) := Lib.hid ⟨_, rfl, by rw [← HCA.out]; exact HI.out, HB.out⟩
      clear HC
      go_wp2_with fail
      go_ret
      exact HE.out
end
end Go.Proofs.YtajccmkdfmpapaaDoor
