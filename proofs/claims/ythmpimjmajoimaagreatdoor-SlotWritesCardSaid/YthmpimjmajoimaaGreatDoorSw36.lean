/-
  The landed slots' held: the checkpoint that a slot holds.
-/
import Derived.Test.YthmpimjmajoimaaGreatDoorSw35
namespace Go.Proofs.YthmpimjmajoimaaGreatDoor
open Go.RowKit

/-- A checkpoint that is told, and whether. -/
def HeldIs (c : ChkS) (b : Bool) (w : World) (r : Ending) (w' : World) : Prop := ∃ sv, r = .returned (.tuple #[ckV c sv, .bool b]) ∧ RowF (newB w w') w' sv (u32s c.dir) ∧ Below w.heap.size w w'
theorem HeldIs.no {w u : World} (h : Below w.heap.size w u) (a b c d f g k : Value) : HeldIs ChkS.zero false w (.returned (.tuple #[ckV ChkS.zero (.slice none 0 0), .bool false])) (((((((u.setCell ⟨w.heap.size, 0, none⟩ a).setCell ⟨w.heap.size, 1, none⟩ b).setCell ⟨w.heap.size, 2, none⟩ c).setCell ⟨w.heap.size, 3, none⟩ d).setCell ⟨w.heap.size, 4, none⟩ f).setCell ⟨w.heap.size, 5, none⟩ g).setCell ⟨w.heap.size, 6, none⟩ k) :=
  ⟨_, rfl, ⟨none, 0, rfl, by simp [ChkS.zero, u32s], RdV.nil, (InF.none _).n, fun _ => rfl⟩, below_seven h (Nat.le_refl _) _ _ _ _ _ _ _⟩
/-- What a slot holds. -/
def heldC (n P : Nat) (zi : Int) (l : List (List Int)) : ChkS := if holdB n P zi l = true then chkOf l else ChkS.zero
theorem readGE_two {l : List (List Int)} (h : readGE l = 0) : 2 ≤ l.length := by
  unfold readGE at h
  split at h
  · omega
  · rename_i hh
    simp at hh
    exact hh.1
theorem kept_seven (u : World) (g : Nat) (v0 v1 v2 v3 v4 v5 v6 : Value) : Kept (fun k => k = g) u (((((((u.setCell ⟨g, 0, none⟩ v0).setCell ⟨g, 1, none⟩ v1).setCell ⟨g, 2, none⟩ v2).setCell ⟨g, 3, none⟩ v3).setCell ⟨g, 4, none⟩ v4).setCell ⟨g, 5, none⟩ v5).setCell ⟨g, 6, none⟩ v6) :=
  (((((((Kept.refl (fun k => k = g) u).put (g := g) (.inl rfl) 0 v0).put (g := g) (.inl rfl) 1 v1).put (g := g) (.inl rfl) 2 v2).put (g := g) (.inl rfl) 3 v3).put (g := g) (.inl rfl) 4 v4).put (g := g) (.inl rfl) 5 v5).put (g := g) (.inl rfl) 6 v6
set_option maxHeartbeats 2000000 in
set_option maxRecDepth 100000 in
theorem slheld_at (Z : ZBas) {F : Nat → Prop} {w : World} {db m n P : Nat} {S : DevS} {zi : Int} {l : List (List Int)} (h : Z.D F w db S) (hp : S.point zi = m) (hl : l.length = m) (hm : m ≤ 1000) (hbr : Bridge S zi l) (hby : ∀ b ∈ l, Byt b) (hn : S.zones.length = n) (hP : S.P = P) :
    Calls Tryz.prog 53 #[.pointer (some ⟨db, 0, none⟩), .int .i64 zi] w (HeldIs (heldC n P zi l) (holdB n P zi l) w) := by
  have HH := Lib.hid h
  have HP := Lib.hid hp
  have HL := Lib.hid hl
  have HBR := Lib.hid hbr
  have HBY := Lib.hid hby
  have HNP := Lib.hid (And.intro hn hP)
  obtain ⟨bo, hhb⟩ : ∃ x, holdB n P zi l = x := ⟨_, rfl⟩
  obtain ⟨co, hhc⟩ : ∃ x, heldC n P zi l = x := ⟨_, rfl⟩
  have HHB := Lib.hid hhb
  have HHC := Lib.hid hhc
  rw [hhb, hhc]
  clear h hp hl hbr hby hn hP hhb hhc
  have HK0 := Lib.hid (KeptK.new w 40 zList)
  go_enter Tryz.func53, Tryz.ntmps53
  go_wp2_with fail
  refine (slgather_at Z (Z.up HH.out HK0.out.1) HP.out HL.out hm HBR.out).mono ?_
  rintro r w1 (⟨hok, A, c, vs, base, rfl, hg, hbs, hb⟩ | ⟨hbad, rfl, hb⟩)
  · rw [HL.out]
    rw [HL.out] at hg
    have hbl : ∀ x ∈ blk17 l, Byt x := by
      intro x hx
      obtain ⟨y, hy, rfl⟩ := List.mem_map.1 hx
      exact (HBY.out y hy).drop 17
    obtain ⟨T0, hT0⟩ : ∃ x, topK l m = x := ⟨_, rfl⟩
    obtain ⟨T1, hT1⟩ : ∃ x, topN l m 1 = x := ⟨_, rfl⟩
    obtain ⟨T3, hT3⟩ : ∃ x, topN l m 9 = x := ⟨_, rfl⟩
    rw [hT0, hT1, hT3]
    have HT := Lib.hid (And.intro hT0 (And.intro hT1 hT3))
    obtain ⟨w2, hw2⟩ : ∃ u, w1.alloc (.cells #[.int .u8 T0, .int .u32 T1, .int .u32 0, .int .u32 T3] 159) = u := ⟨_, rfl⟩
    have hb2 : Below w1.heap.size w1 w2 := by rw [← hw2]; exact (Below.refl _ _).alloc (Nat.le_refl _) _
    obtain ⟨TB, hTB⟩ : ∃ x, w1.heap.size = x := ⟨_, rfl⟩
    have HX2 : Hid (Blk w2 TB 159 [.int .u8 T0, .int .u32 T1, .int .u32 0, .int .u32 T3]) := Lib.hid (by rw [← hw2, ← hTB]; exact heap_alloc_new w1 _)
    have HK2 := Lib.hid ((HK0.out.up hb).up hb2)
    have HG2 := Lib.hid (hg.rise hb2)
    have HOK := Lib.hid hok
    obtain ⟨A', c', he, hcc, hrd, _⟩ := HG2.out.row.out
    rw [HG2.out.len] at he hcc
    injection he with he1 _ he3
    subst he1 he3
    have HRD := Lib.hid (And.intro hcc hrd)
    have HRR : Hid (RdR w2 vs (blk17 l)) := Lib.hid (by
      have hg3 := HG2.out
      rw [← HL.out] at hg3
      exact hg3.fin.2)
    have HBL := Lib.hid hbl
    have HBL2 : Hid ((blk17 l).length = m) := Lib.hid (by rw [← HL.out]; simp [blk17])
    clear hT0 hT1 hT3 hok hg hb hcc hrd hbl
    go_wp2_with fail
    refine (kread_n HBL2.out HRD.out.1 HRD.out.2 HRR.out HBL.out (by omega)).mono ?_
    rintro r w3 ⟨sv, rfl, hsv, hb3⟩
    obtain ⟨x0, hx0⟩ : ∃ x, rdN (blk17 l) 0 = x := ⟨_, rfl⟩
    obtain ⟨x1, hx1⟩ : ∃ x, rdN (blk17 l) 1 = x := ⟨_, rfl⟩
    obtain ⟨x2, hx2⟩ : ∃ x, rdN (blk17 l) 2 = x := ⟨_, rfl⟩
    obtain ⟨x3, hx3⟩ : ∃ x, rdN (blk17 l) 3 = x := ⟨_, rfl⟩
    obtain ⟨x4, hx4⟩ : ∃ x, rdN (blk17 l) 4 = x := ⟨_, rfl⟩
    obtain ⟨x5, hx5⟩ : ∃ x, rdN (blk17 l) 5 = x := ⟨_, rfl⟩
    obtain ⟨dd, hdd⟩ : ∃ x, rdD (blk17 l) = x := ⟨_, rfl⟩
    obtain ⟨ge, hge⟩ : ∃ x, readGE (blk17 l) = x := ⟨_, rfl⟩
    rw [hx0, hx1, hx2, hx3, hx4, hx5, hge]
    rw [hdd] at hsv
    have HXS := Lib.hid (And.intro hx0 (And.intro hx1 (And.intro hx2 (And.intro hx3 (And.intro hx4 (And.intro hx5 (And.intro hdd hge)))))))
    have HSV := Lib.hid hsv
    obtain ⟨A2, c2, rfl, _⟩ := hsv
    obtain ⟨n2, hn2⟩ : ∃ x, (u32s dd).length = x := ⟨_, rfl⟩
    rw [hn2] at HSV ⊢
    obtain ⟨w4, hw4⟩ : ∃ u, w3.alloc (.cells #[.int .u32 x0, .int .u32 x1, .int .u32 x2, .int .i64 x3, .int .i64 x4, .int .i64 x5, .slice A2 n2 c2] 40) = u := ⟨_, rfl⟩
    have hb4 : Below w3.heap.size w3 w4 := by rw [← hw4]; exact (Below.refl _ _).alloc (Nat.le_refl _) _
    obtain ⟨CB, hCB⟩ : ∃ x, w3.heap.size = x := ⟨_, rfl⟩
    have HX4 : Hid (Blk w4 CB 40 [.int .u32 x0, .int .u32 x1, .int .u32 x2, .int .i64 x3, .int .i64 x4, .int .i64 x5, .slice A2 n2 c2]) := Lib.hid (by rw [← hw4, ← hCB]; exact heap_alloc_new w3 _)
    have HTP : Hid (Blk w4 TB 159 [.int .u8 T0, .int .u32 T1, .int .u32 0, .int .u32 T3]) := Lib.hid ((HX2.out.up hb3 (lt_of_block HX2.out)).up hb4 (Nat.lt_of_lt_of_le (lt_of_block HX2.out) hb3.size))
    have HKR := Lib.hid ((HK2.out.up hb3).up hb4)
    have HSV4 : Hid (RowF (newB w2 w3) w4 (.slice A2 n2 c2) (u32s dd)) := Lib.hid (HSV.out.up hb4)
    have HS2 : Hid (w.heap.size < w2.heap.size ∧ w3.heap.size ≤ w4.heap.size) := Lib.hid ⟨lt_of_block HK2.out.2, hb4.size⟩
    clear hx0 hx1 hx2 hx3 hx4 hx5 hdd hge hb2 hb3 hb4 hn2
    by_cases hg0 : ge = 0
    · subst hg0
      rw [show errV 0 = .nilIface from if_pos rfl]
      go_wp2_with fail
      have HL2 : Hid (2 ≤ l.length) := Lib.hid (by
        have h := readGE_two HXS.out.2.2.2.2.2.2.2
        rw [HBL2.out, ← HL.out] at h
        exact h)
      have HTE : Hid (T0 = 5 ∧ T1 = bk (l.getD 0 []) 1 ∧ T3 = bk (l.getD 0 []) 9) := Lib.hid (by
        obtain ⟨h0, h1, h3⟩ := HT.out
        have hne : ¬ m = 0 := by have := HL2.out; rw [HL.out] at this; omega
        unfold topK at h0
        unfold topN at h1 h3
        rw [if_neg hne] at h0 h1 h3
        exact ⟨h0.symm, h1.symm, h3.symm⟩)
      have HNU : Hid (∀ i, rdN (blk17 l) i = numAt (blk17 l).flatten i) := Lib.hid (fun i => by unfold rdN; rw [if_pos HXS.out.2.2.2.2.2.2.2])
      have hx0w : 0 ≤ x0 ∧ x0 ≤ 4294967295 := by
        have h := numAt_word (xs := (blk17 l).flatten) 0 (fun y hy => by
          obtain ⟨x, hx, hy⟩ := List.mem_flatten.1 hy
          exact HBL.out x hx y hy)
        rw [← HNU.out, HXS.out.1] at h
        exact h
      have HCO : Hid (bo = (decide (T3 = x0) && decide (T1 = x1) && decide (x3 = (n : Int)) && decide (x4 = (P : Int)) && decide (whereN n x0 = zi))) := Lib.hid (by
        rw [← HHB.out]
        obtain ⟨h0, h1, h2, h3, h4, h5, h6, h7⟩ := HXS.out
        rw [HNU.out] at h0 h1 h2 h3 h4 h5
        unfold holdB chkOf
        simp only
        rw [HOK.out, h7, h0, h1, h3, h4, HTE.out.2.1, HTE.out.2.2, decide_eq_true (rfl : (0 : Int) = 0), Bool.true_and, Bool.true_and]
        simp only [Bool.and_assoc, eq_comm])
      obtain ⟨B1, hB1⟩ : ∃ B, (!(decide (T0 = 5) && decide (T1 = x1) && decide ((0 : Int) = 0) && decide (T3 = x0))) = B := ⟨_, rfl⟩
      have hneq := fun u : World => neq_head T0 T1 0 T3 5 x1 0 x0 u
      rw [hB1] at hneq
      have hgd := guard_head .neq (.inr rfl)
      have hwm : whereN S.zones.length x0 = whereN n x0 := by rw [HNP.out.1]
      have lc := lt_of_block HX4.out
      have lt := lt_of_block HTP.out
      have c0 := HX4.out.cell 0 (by simp)
      have c1 := HX4.out.cell 1 (by simp)
      have c3 := HX4.out.cell 3 (by simp)
      have c4 := HX4.out.cell 4 (by simp)
      have c5 := HX4.out.cell 5 (by simp)
      have t0 := HTP.out.cell 0 (by simp)
      have t1 := HTP.out.cell 1 (by simp)
      have t2 := HTP.out.cell 2 (by simp)
      have t3 := HTP.out.cell 3 (by simp)
      simp only [List.getElem_cons_zero, List.getElem_cons_succ] at c0 c1 c3 c4 c5 t0 t1 t2 t3
      have HC4 := Lib.hid (And.intro c0 (And.intro c1 (And.intro c3 (And.intro c4 c5))))
      have HT4 := Lib.hid (And.intro t0 (And.intro t1 (And.intro t2 t3)))
      clear c0 c1 c3 c4 c5 t0 t1 t2 t3
      by_cases k1 : T1 = x1 ∧ T3 = x0
      · obtain rfl : B1 = false := by
          rw [← hB1, HTE.out.1, k1.1, k1.2]
          simp
        have HK1 := Lib.hid k1
        clear k1 hB1
        by_cases k2 : x3 = (n : Int) ∧ x4 = (P : Int)
        · have HK2' := Lib.hid k2
          clear k2
          obtain ⟨B3, hB3⟩ : ∃ B, (zi != whereN n x0) = B := ⟨_, rfl⟩
          by_cases k3 : whereN n x0 = zi
          · obtain rfl : B3 = false := by rw [← hB3, k3]; simp
            have HK3 := Lib.hid k3
            clear k3
            refine wp_region_in (fun u => Below w4.heap.size w4 u) (Below.refl _ _).drew (by kernel_rfl) (by kernel_rfl) (fun ne => ?_)
            have oD := fun q : In (fun u => Below w4.heap.size w4 u) => slof_at x1 x0 0 q.w (by omega) (by omega)
            have rc0 := fun q : In (fun u => Below w4.heap.size w4 u) => (q.ok.cell (p := ⟨CB, 0, none⟩) lc).trans HC4.out.1
            have rc1 := fun q : In (fun u => Below w4.heap.size w4 u) => (q.ok.cell (p := ⟨CB, 1, none⟩) lc).trans HC4.out.2.1
            have rc3 := fun q : In (fun u => Below w4.heap.size w4 u) => (q.ok.cell (p := ⟨CB, 3, none⟩) lc).trans HC4.out.2.2.1
            have rc4 := fun q : In (fun u => Below w4.heap.size w4 u) => (q.ok.cell (p := ⟨CB, 4, none⟩) lc).trans HC4.out.2.2.2.1
            have rc5 := fun q : In (fun u => Below w4.heap.size w4 u) => (q.ok.cell (p := ⟨CB, 5, none⟩) lc).trans HC4.out.2.2.2.2
            have rt0 := fun q : In (fun u => Below w4.heap.size w4 u) => (q.ok.cell (p := ⟨TB, 0, none⟩) lt).trans HT4.out.1
            have rt1 := fun q : In (fun u => Below w4.heap.size w4 u) => (q.ok.cell (p := ⟨TB, 1, none⟩) lt).trans HT4.out.2.1
            have rt2 := fun q : In (fun u => Below w4.heap.size w4 u) => (q.ok.cell (p := ⟨TB, 2, none⟩) lt).trans HT4.out.2.2.1
            have rt3 := fun q : In (fun u => Below w4.heap.size w4 u) => (q.ok.cell (p := ⟨TB, 3, none⟩) lt).trans HT4.out.2.2.2
            have fD := fun q : In (fun u => Below w4.heap.size w4 u) => slfits_at Z x3 x4 x5 (Z.up HH.out (below_all HKR.out.1 q.ok))
            rw [HNP.out.1, HNP.out.2] at fD
            rw [decide_eq_true HK2'.out.1, decide_eq_true HK2'.out.2, Bool.true_and] at fD
            have wD := fun q : In (fun u => Below w4.heap.size w4 u) => slwhere_at Z x0 (Z.up HH.out (below_all HKR.out.1 q.ok)) hx0w.1 hx0w.2
            rw [hwm] at wD
            repeat (go_big_quiet_step (first
              | (go_at_call 90; with_reducible exact In.more (fun h1 h2 => below_all h1 h2) (oD _))
              | (go_at_call 37; with_reducible exact In.more (fun h1 h2 => below_all h1 h2) (fD _))
              | (go_at_call 23; with_reducible exact In.more (fun h1 h2 => below_all h1 h2) (wD _))))
            refine wpQuiet_nil ?_
            intro nq
            obtain ⟨Wn, hWn⟩ : ∃ x, nq.w = x := ⟨_, rfl⟩
            have HBN := Lib.hid nq.ok
            rw [hWn] at HBN ⊢
            have HKN := Lib.hid (HKR.out.up HBN.out)
            clear rc0 rc1 rc3 rc4 rc5 rt0 rt1 rt2 rt3 oD fD wD hWn nq
            have HXN := Lib.hid (HX4.out.up HBN.out (lt_of_block HX4.out))
            have e0 := HKN.out.2.cell 0 (by simp)
            have e1 := HKN.out.2.cell 1 (by simp)
            have e2 := HKN.out.2.cell 2 (by simp)
            have e3 := HKN.out.2.cell 3 (by simp)
            have e4 := HKN.out.2.cell 4 (by simp)
            have e5 := HKN.out.2.cell 5 (by simp)
            have e6 := HKN.out.2.cell 6 (by simp)
            have ef := fun k => HKN.out.2.free k
            simp only [List.getElem_cons_zero, List.getElem_cons_succ] at e0 e1 e2 e3 e4 e5 e6
            have y0 := HXN.out.cell 0 (by simp)
            have y1 := HXN.out.cell 1 (by simp)
            have y2 := HXN.out.cell 2 (by simp)
            have y3 := HXN.out.cell 3 (by simp)
            have y4 := HXN.out.cell 4 (by simp)
            have y5 := HXN.out.cell 5 (by simp)
            have y6 := HXN.out.cell 6 (by simp)
            simp only [List.getElem_cons_zero, List.getElem_cons_succ] at y0 y1 y2 y3 y4 y5 y6
            go_wp2_with fail
            refine bodyPost_ret (v := .tuple #[kV x0 x1 x2 x3 x4 x5 (.slice A2 n2 c2), .bool true]) (by simp [results, Tryz.results53, go_sem, e0, e1, e2, e3, e4, e5, e6]) rfl ?_
            have hbo : bo = true := by
              rw [HCO.out, HK1.out.1, HK1.out.2, HK2'.out.1, HK2'.out.2, HK3.out]
              simp
            have hco : co = ⟨x0, x1, x2, x3, x4, x5, dd⟩ := by
              rw [← HHC.out]
              unfold heldC
              rw [HHB.out, hbo, if_pos rfl]
              obtain ⟨h0, h1, h2, h3, h4, h5, h6, h7⟩ := HXS.out
              rw [HNU.out] at h0 h1 h2 h3 h4 h5
              unfold rdD at h6
              rw [if_pos h7] at h6
              unfold chkOf
              rw [h0, h1, h2, h3, h4, h5, h6]
            rw [hbo, hco]
            have hk7 := kept_seven Wn w.heap.size (.int .u32 x0) (.int .u32 x1) (.int .u32 x2) (.int .i64 x3) (.int .i64 x4) (.int .i64 x5) (.slice A2 n2 c2)
            refine ⟨_, rfl, ?_, below_seven HKN.out.1 (Nat.le_refl _) _ _ _ _ _ _ _⟩
            refine ((HSV4.out.up HBN.out).keep hk7 (fun j h e => ?_)).mono (fun j h => ⟨?_, ?_⟩)
            · have := HS2.out.1
              have := h.1
              omega
            · have := HS2.out.1
              have := h.1
              omega
            · have := HS2.out.2
              have := HBN.out.size
              have := hk7.size
              have := h.2
              omega
          · obtain rfl : B3 = true := by
              rw [← hB3]
              simpa using fun e => k3 e.symm
            have HNO : Hid (co = ChkS.zero ∧ bo = false) := Lib.hid (by
              have hbo : bo = false := by
                rw [HCO.out, decide_eq_false k3, Bool.and_false]
              exact ⟨by rw [← HHC.out]; unfold heldC; rw [HHB.out, hbo]; rfl, hbo⟩)
            clear k3
            refine wp_region_in (fun u => Below w4.heap.size w4 u) (Below.refl _ _).drew (by kernel_rfl) (by kernel_rfl) (fun ne => ?_)
            have oD := fun q : In (fun u => Below w4.heap.size w4 u) => slof_at x1 x0 0 q.w (by omega) (by omega)
            have rc0 := fun q : In (fun u => Below w4.heap.size w4 u) => (q.ok.cell (p := ⟨CB, 0, none⟩) lc).trans HC4.out.1
            have rc1 := fun q : In (fun u => Below w4.heap.size w4 u) => (q.ok.cell (p := ⟨CB, 1, none⟩) lc).trans HC4.out.2.1
            have rc3 := fun q : In (fun u => Below w4.heap.size w4 u) => (q.ok.cell (p := ⟨CB, 3, none⟩) lc).trans HC4.out.2.2.1
            have rc4 := fun q : In (fun u => Below w4.heap.size w4 u) => (q.ok.cell (p := ⟨CB, 4, none⟩) lc).trans HC4.out.2.2.2.1
            have rc5 := fun q : In (fun u => Below w4.heap.size w4 u) => (q.ok.cell (p := ⟨CB, 5, none⟩) lc).trans HC4.out.2.2.2.2
            have rt0 := fun q : In (fun u => Below w4.heap.size w4 u) => (q.ok.cell (p := ⟨TB, 0, none⟩) lt).trans HT4.out.1
            have rt1 := fun q : In (fun u => Below w4.heap.size w4 u) => (q.ok.cell (p := ⟨TB, 1, none⟩) lt).trans HT4.out.2.1
            have rt2 := fun q : In (fun u => Below w4.heap.size w4 u) => (q.ok.cell (p := ⟨TB, 2, none⟩) lt).trans HT4.out.2.2.1
            have rt3 := fun q : In (fun u => Below w4.heap.size w4 u) => (q.ok.cell (p := ⟨TB, 3, none⟩) lt).trans HT4.out.2.2.2
            have fD := fun q : In (fun u => Below w4.heap.size w4 u) => slfits_at Z x3 x4 x5 (Z.up HH.out (below_all HKR.out.1 q.ok))
            rw [HNP.out.1, HNP.out.2] at fD
            rw [decide_eq_true HK2'.out.1, decide_eq_true HK2'.out.2, Bool.true_and] at fD
            have wD := fun q : In (fun u => Below w4.heap.size w4 u) => slwhere_at Z x0 (Z.up HH.out (below_all HKR.out.1 q.ok)) hx0w.1 hx0w.2
            rw [hwm] at wD
            repeat (go_big_quiet_step (first
              | (go_at_call 90; with_reducible exact In.more (fun h1 h2 => below_all h1 h2) (oD _))
              | (go_at_call 37; with_reducible exact In.more (fun h1 h2 => below_all h1 h2) (fD _))
              | (go_at_call 23; with_reducible exact In.more (fun h1 h2 => below_all h1 h2) (wD _))))
            refine wpQuiet_nil ?_
            intro nq
            obtain ⟨Wn, hWn⟩ : ∃ x, nq.w = x := ⟨_, rfl⟩
            have HBN := Lib.hid nq.ok
            rw [hWn] at HBN ⊢
            have HKN := Lib.hid (HKR.out.up HBN.out)
            clear rc0 rc1 rc3 rc4 rc5 rt0 rt1 rt2 rt3 oD fD wD hWn nq
            have e0 := HKN.out.2.cell 0 (by simp)
            have e1 := HKN.out.2.cell 1 (by simp)
            have e2 := HKN.out.2.cell 2 (by simp)
            have e3 := HKN.out.2.cell 3 (by simp)
            have e4 := HKN.out.2.cell 4 (by simp)
            have e5 := HKN.out.2.cell 5 (by simp)
            have e6 := HKN.out.2.cell 6 (by simp)
            have ef := fun k => HKN.out.2.free k
            simp only [List.getElem_cons_zero, List.getElem_cons_succ] at e0 e1 e2 e3 e4 e5 e6
            go_wp2_with fail
            refine bodyPost_ret (v := .tuple #[kV 0 0 0 0 0 0 (.slice none 0 0), .bool false]) (by simp [results, Tryz.results53, go_sem, e0, e1, e2, e3, e4, e5, e6]) rfl ?_
            rw [HNO.out.1, HNO.out.2]
            exact HeldIs.no HKN.out.1 _ _ _ _ _ _ _
        · have HNO : Hid (co = ChkS.zero ∧ bo = false) := Lib.hid (by
            have hbo : bo = false := by
              rw [HCO.out, Bool.eq_false_iff]
              intro h
              simp only [Bool.and_eq_true, decide_eq_true_eq] at h
              exact k2 ⟨h.1.1.2, h.1.2⟩
            exact ⟨by rw [← HHC.out]; unfold heldC; rw [HHB.out, hbo]; rfl, hbo⟩)
          obtain ⟨B2, hB2⟩ : ∃ B, (decide (x3 = (n : Int)) && decide (x4 = (P : Int))) = B := ⟨_, rfl⟩
          obtain rfl : B2 = false := by
            rw [← hB2, Bool.eq_false_iff]
            intro h
            rw [Bool.and_eq_true, decide_eq_true_eq, decide_eq_true_eq] at h
            exact k2 h
          clear k2
          refine wp_region_in (fun u => Below w4.heap.size w4 u) (Below.refl _ _).drew (by kernel_rfl) (by kernel_rfl) (fun ne => ?_)
          have oD := fun q : In (fun u => Below w4.heap.size w4 u) => slof_at x1 x0 0 q.w (by omega) (by omega)
          have rc0 := fun q : In (fun u => Below w4.heap.size w4 u) => (q.ok.cell (p := ⟨CB, 0, none⟩) lc).trans HC4.out.1
          have rc1 := fun q : In (fun u => Below w4.heap.size w4 u) => (q.ok.cell (p := ⟨CB, 1, none⟩) lc).trans HC4.out.2.1
          have rc3 := fun q : In (fun u => Below w4.heap.size w4 u) => (q.ok.cell (p := ⟨CB, 3, none⟩) lc).trans HC4.out.2.2.1
          have rc4 := fun q : In (fun u => Below w4.heap.size w4 u) => (q.ok.cell (p := ⟨CB, 4, none⟩) lc).trans HC4.out.2.2.2.1
          have rc5 := fun q : In (fun u => Below w4.heap.size w4 u) => (q.ok.cell (p := ⟨CB, 5, none⟩) lc).trans HC4.out.2.2.2.2
          have rt0 := fun q : In (fun u => Below w4.heap.size w4 u) => (q.ok.cell (p := ⟨TB, 0, none⟩) lt).trans HT4.out.1
          have rt1 := fun q : In (fun u => Below w4.heap.size w4 u) => (q.ok.cell (p := ⟨TB, 1, none⟩) lt).trans HT4.out.2.1
          have rt2 := fun q : In (fun u => Below w4.heap.size w4 u) => (q.ok.cell (p := ⟨TB, 2, none⟩) lt).trans HT4.out.2.2.1
          have rt3 := fun q : In (fun u => Below w4.heap.size w4 u) => (q.ok.cell (p := ⟨TB, 3, none⟩) lt).trans HT4.out.2.2.2
          have fD := fun q : In (fun u => Below w4.heap.size w4 u) => slfits_at Z x3 x4 x5 (Z.up HH.out (below_all HKR.out.1 q.ok))
          rw [HNP.out.1, HNP.out.2] at fD
          rw [hB2] at fD
          repeat (go_big_quiet_step (first
            | (go_at_call 90; with_reducible exact In.more (fun h1 h2 => below_all h1 h2) (oD _))
            | (go_at_call 37; with_reducible exact In.more (fun h1 h2 => below_all h1 h2) (fD _))))
          refine wpQuiet_nil ?_
          intro nq
          obtain ⟨Wn, hWn⟩ : ∃ x, nq.w = x := ⟨_, rfl⟩
          have HBN := Lib.hid nq.ok
          rw [hWn] at HBN ⊢
          have HKN := Lib.hid (HKR.out.up HBN.out)
          clear rc0 rc1 rc3 rc4 rc5 rt0 rt1 rt2 rt3 oD fD hWn nq
          have e0 := HKN.out.2.cell 0 (by simp)
          have e1 := HKN.out.2.cell 1 (by simp)
          have e2 := HKN.out.2.cell 2 (by simp)
          have e3 := HKN.out.2.cell 3 (by simp)
          have e4 := HKN.out.2.cell 4 (by simp)
          have e5 := HKN.out.2.cell 5 (by simp)
          have e6 := HKN.out.2.cell 6 (by simp)
          have ef := fun k => HKN.out.2.free k
          simp only [List.getElem_cons_zero, List.getElem_cons_succ] at e0 e1 e2 e3 e4 e5 e6
          go_wp2_with fail
          refine bodyPost_ret (v := .tuple #[kV 0 0 0 0 0 0 (.slice none 0 0), .bool false]) (by simp [results, Tryz.results53, go_sem, e0, e1, e2, e3, e4, e5, e6]) rfl ?_
          rw [HNO.out.1, HNO.out.2]
          exact HeldIs.no HKN.out.1 _ _ _ _ _ _ _
      · have HNO : Hid (co = ChkS.zero ∧ bo = false) := Lib.hid (by
          have hbo : bo = false := by
            rw [HCO.out, Bool.eq_false_iff]
            intro h
            simp only [Bool.and_eq_true, decide_eq_true_eq] at h
            exact k1 ⟨h.1.1.1.2, h.1.1.1.1⟩
          exact ⟨by rw [← HHC.out]; unfold heldC; rw [HHB.out, hbo]; rfl, hbo⟩)
        obtain rfl : B1 = true := by
          rw [← hB1, HTE.out.1]
          have hf : (decide ((5 : Int) = 5) && decide (T1 = x1) && decide ((0 : Int) = 0) && decide (T3 = x0)) = false := by
            rw [Bool.eq_false_iff]
            intro h
            rw [Bool.and_eq_true, Bool.and_eq_true, Bool.and_eq_true] at h
            exact k1 ⟨of_decide_eq_true h.1.1.2, of_decide_eq_true h.2⟩
          rw [hf]
          rfl
        clear k1 hB1
        refine wp_region_in (fun u => Below w4.heap.size w4 u) (Below.refl _ _).drew (by kernel_rfl) (by kernel_rfl) (fun ne => ?_)
        have oD := fun q : In (fun u => Below w4.heap.size w4 u) => slof_at x1 x0 0 q.w (by omega) (by omega)
        have rc0 := fun q : In (fun u => Below w4.heap.size w4 u) => (q.ok.cell (p := ⟨CB, 0, none⟩) lc).trans HC4.out.1
        have rc1 := fun q : In (fun u => Below w4.heap.size w4 u) => (q.ok.cell (p := ⟨CB, 1, none⟩) lc).trans HC4.out.2.1
        have rc3 := fun q : In (fun u => Below w4.heap.size w4 u) => (q.ok.cell (p := ⟨CB, 3, none⟩) lc).trans HC4.out.2.2.1
        have rc4 := fun q : In (fun u => Below w4.heap.size w4 u) => (q.ok.cell (p := ⟨CB, 4, none⟩) lc).trans HC4.out.2.2.2.1
        have rc5 := fun q : In (fun u => Below w4.heap.size w4 u) => (q.ok.cell (p := ⟨CB, 5, none⟩) lc).trans HC4.out.2.2.2.2
        have rt0 := fun q : In (fun u => Below w4.heap.size w4 u) => (q.ok.cell (p := ⟨TB, 0, none⟩) lt).trans HT4.out.1
        have rt1 := fun q : In (fun u => Below w4.heap.size w4 u) => (q.ok.cell (p := ⟨TB, 1, none⟩) lt).trans HT4.out.2.1
        have rt2 := fun q : In (fun u => Below w4.heap.size w4 u) => (q.ok.cell (p := ⟨TB, 2, none⟩) lt).trans HT4.out.2.2.1
        have rt3 := fun q : In (fun u => Below w4.heap.size w4 u) => (q.ok.cell (p := ⟨TB, 3, none⟩) lt).trans HT4.out.2.2.2
        repeat (go_big_quiet_step (first
          | (go_at_call 90; with_reducible exact In.more (fun h1 h2 => below_all h1 h2) (oD _))))
        refine wpQuiet_nil ?_
        intro nq
        obtain ⟨Wn, hWn⟩ : ∃ x, nq.w = x := ⟨_, rfl⟩
        have HBN := Lib.hid nq.ok
        rw [hWn] at HBN ⊢
        have HKN := Lib.hid (HKR.out.up HBN.out)
        clear rc0 rc1 rc3 rc4 rc5 rt0 rt1 rt2 rt3 oD hWn nq
        have e0 := HKN.out.2.cell 0 (by simp)
        have e1 := HKN.out.2.cell 1 (by simp)
        have e2 := HKN.out.2.cell 2 (by simp)
        have e3 := HKN.out.2.cell 3 (by simp)
        have e4 := HKN.out.2.cell 4 (by simp)
        have e5 := HKN.out.2.cell 5 (by simp)
        have e6 := HKN.out.2.cell 6 (by simp)
        have ef := fun k => HKN.out.2.free k
        simp only [List.getElem_cons_zero, List.getElem_cons_succ] at e0 e1 e2 e3 e4 e5 e6
        go_wp2_with fail
        refine bodyPost_ret (v := .tuple #[kV 0 0 0 0 0 0 (.slice none 0 0), .bool false]) (by simp [results, Tryz.results53, go_sem, e0, e1, e2, e3, e4, e5, e6]) rfl ?_
        rw [HNO.out.1, HNO.out.2]
        exact HeldIs.no HKN.out.1 _ _ _ _ _ _ _
    · rw [show errV ge = .iface 31 (.int .i64 ge) from if_neg hg0]
      have HNO : Hid (co = ChkS.zero ∧ bo = false) := Lib.hid (by
        have hbo : holdB n P zi l = false := by
          unfold holdB
          rw [HXS.out.2.2.2.2.2.2.2, decide_eq_false hg0]
          simp
        exact ⟨by rw [← HHC.out]; unfold heldC; rw [hbo]; rfl, by rw [← HHB.out]; exact hbo⟩)
      have e0 := HKR.out.2.cell 0 (by simp)
      have e1 := HKR.out.2.cell 1 (by simp)
      have e2 := HKR.out.2.cell 2 (by simp)
      have e3 := HKR.out.2.cell 3 (by simp)
      have e4 := HKR.out.2.cell 4 (by simp)
      have e5 := HKR.out.2.cell 5 (by simp)
      have e6 := HKR.out.2.cell 6 (by simp)
      have ef := fun k => HKR.out.2.free k
      simp only [List.getElem_cons_zero, List.getElem_cons_succ] at e0 e1 e2 e3 e4 e5 e6
      go_wp2_with fail
      refine bodyPost_ret (v := .tuple #[kV 0 0 0 0 0 0 (.slice none 0 0), .bool false]) (by simp [results, Tryz.results53, go_sem, e0, e1, e2, e3, e4, e5, e6]) rfl ?_
      rw [HNO.out.1, HNO.out.2]
      exact HeldIs.no HKR.out.1 _ _ _ _ _ _ _
  · have HKR : Hid (KeptK w 40 zList (w1.alloc (.cells #[.int .u8 0, .int .u32 0, .int .u32 0, .int .u32 0] 159))) := Lib.hid ((HK0.out.up hb).up ((Below.refl _ _).alloc (Nat.le_refl _) _))
    have HNO : Hid (co = ChkS.zero ∧ bo = false) := Lib.hid (by
      have hbo : holdB n P zi l = false := hold_bad hbad
      exact ⟨by rw [← HHC.out]; unfold heldC; rw [hbo]; rfl, by rw [← HHB.out]; exact hbo⟩)
    clear hb hbad
    have e0 := HKR.out.2.cell 0 (by simp)
    have e1 := HKR.out.2.cell 1 (by simp)
    have e2 := HKR.out.2.cell 2 (by simp)
    have e3 := HKR.out.2.cell 3 (by simp)
    have e4 := HKR.out.2.cell 4 (by simp)
    have e5 := HKR.out.2.cell 5 (by simp)
    have e6 := HKR.out.2.cell 6 (by simp)
    have ef := fun k => HKR.out.2.free k
    simp only [List.getElem_cons_zero, List.getElem_cons_succ] at e0 e1 e2 e3 e4 e5 e6
    go_wp2_with fail
    refine bodyPost_ret (v := .tuple #[kV 0 0 0 0 0 0 (.slice none 0 0), .bool false]) (by simp [results, Tryz.results53, go_sem, e0, e1, e2, e3, e4, e5, e6]) rfl ?_
    rw [HNO.out.1, HNO.out.2]
    exact HeldIs.no HKR.out.1 _ _ _ _ _ _ _

theorem bridge_of {S : DevS} {zi : Int} (hwf : S.WF) (hg : S.gone = false) (hi : S.is zi = true) : Bridge S zi (S.zone zi).pages := by
  intro i hl
  have hz := hwf.pages (S.zone zi) (by
    rw [DevS.zone_out hi]
    exact List.getElem_mem _)
  have hre : S.readE zi (i : Int) = if ((S.zone zi).pages[i]).length = 0 then 6 else 0 := by
    unfold DevS.readE
    rw [if_neg (by rw [hg]; decide), hi]
    have h1 : (!true || decide ((i : Int) < 0) || decide ((S.P : Int) ≤ (i : Int))) = false := by
      simp
      omega
    rw [h1, if_neg (by decide), if_neg (by omega), Int.toNat_natCast, List.getD_eq_getElem?_getD, List.getElem?_eq_getElem hl, Option.getD_some]
  have hrb : ((S.zone zi).pages[i]).length ≠ 0 → S.readB zi (i : Int) = (S.zone zi).pages[i] := by
    intro h0
    unfold DevS.readB
    rw [hre, if_neg h0, if_pos rfl, Int.toNat_natCast, List.getD_eq_getElem?_getD, List.getElem?_eq_getElem hl, Option.getD_some]
  unfold pageE
  rw [hre]
  by_cases h0 : ((S.zone zi).pages[i]).length = 0
  · rw [if_pos h0]
    refine ⟨fun h => ?_, fun _ h => ?_⟩
    · rw [if_pos (by decide)] at h
      cases h
    · unfold pgE at h
      rw [if_pos (by omega)] at h
      cases h
  · rw [if_neg h0, if_neg (by decide), hrb h0]
    exact ⟨fun h => ⟨rfl, h⟩, fun h => h⟩
end Go.Proofs.YthmpimjmajoimaaGreatDoor
