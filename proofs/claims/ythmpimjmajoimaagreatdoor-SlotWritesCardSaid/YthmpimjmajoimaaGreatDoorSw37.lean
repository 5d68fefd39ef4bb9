/-
  The landed slots' Read.
-/
import Derived.Test.YthmpimjmajoimaaGreatDoorSw36
namespace Go.Proofs.YthmpimjmajoimaaGreatDoor
open Go.RowKit

theorem slwrapK_at (op : ByteArray) (n k : Int) (hk : k ≠ 0) (w : World) : Calls Tryz.prog 38 #[.string op, .int .i64 n, .iface 31 (.int .i64 k)] w (WrapIs k w) := by
  have h := slwrap_at op n k w
  rw [show errV k = .iface 31 (.int .i64 k) from if_neg hk] at h
  exact h
theorem told_no {w a u : World} {e : Int} {ev : Value} (hb : Below w.heap.size w u) (hlt : w.heap.size < a.heap.size) (he : slEr (newB a u) u e ev) (v0 v1 v2 v3 v4 v5 v6 : Value) : ChkTold slX ChkS.zero e w (.returned (.tuple #[ckV ChkS.zero (.slice none 0 0), ev])) (((((((u.setCell ⟨w.heap.size, 0, none⟩ v0).setCell ⟨w.heap.size, 1, none⟩ v1).setCell ⟨w.heap.size, 2, none⟩ v2).setCell ⟨w.heap.size, 3, none⟩ v3).setCell ⟨w.heap.size, 4, none⟩ v4).setCell ⟨w.heap.size, 5, none⟩ v5).setCell ⟨w.heap.size, 6, none⟩ v6) := by
  have hk := kept_seven u w.heap.size v0 v1 v2 v3 v4 v5 v6
  refine ⟨_, ev, rfl, ⟨none, 0, rfl, by simp [ChkS.zero, u32s], RdV.nil, (InF.none _).n, fun _ => rfl⟩, ?_, below_seven hb (Nat.le_refl _) _ _ _ _ _ _ _⟩
  exact (he.keep hk (fun j h e => by have := h.1; omega)).mono (fun j h => ⟨by have := h.1; omega, by have := h.2; have := hk.size; omega⟩)
theorem told_yes {w a u : World} {c : ChkS} {sv : Value} (hb : Below w.heap.size w u) (hlt : w.heap.size < a.heap.size) (hs : RowF (newB a u) u sv (u32s c.dir)) (v0 v1 v2 v3 v4 v5 v6 : Value) : ChkTold slX c 0 w (.returned (.tuple #[ckV c sv, .nilIface])) (((((((u.setCell ⟨w.heap.size, 0, none⟩ v0).setCell ⟨w.heap.size, 1, none⟩ v1).setCell ⟨w.heap.size, 2, none⟩ v2).setCell ⟨w.heap.size, 3, none⟩ v3).setCell ⟨w.heap.size, 4, none⟩ v4).setCell ⟨w.heap.size, 5, none⟩ v5).setCell ⟨w.heap.size, 6, none⟩ v6) := by
  have hk := kept_seven u w.heap.size v0 v1 v2 v3 v4 v5 v6
  refine ⟨_, _, rfl, ?_, slEr.no, below_seven hb (Nat.le_refl _) _ _ _ _ _ _ _⟩
  exact (hs.keep hk (fun j h e => by have := h.1; omega)).mono (fun j h => ⟨by have := h.1; omega, by have := h.2; have := hk.size; omega⟩)
set_option maxHeartbeats 2000000 in
set_option maxRecDepth 100000 in
theorem slRead_at (Z : ZBas) {F : Nat → Prop} {w : World} {db : Nat} {S : DevS} (zi : Int) (h : Z.D F w db S) : Calls Tryz.prog 18 #[.pointer (some ⟨db, 0, none⟩), .int .i64 zi] w (ChkTold slX (S.slC zi) (S.slE zi) w) := by
  have HH := Lib.hid h
  have HWF := Lib.hid (Z.wf h)
  have hz1 := (Z.wf h).z1
  have hp1 := (Z.wf h).p1
  obtain ⟨n, hn⟩ : ∃ n, S.zones.length = n := ⟨_, rfl⟩
  obtain ⟨P, hP⟩ : ∃ P, S.P = P := ⟨_, rfl⟩
  have HN := Lib.hid (And.intro hn hP)
  rw [hn] at hz1
  rw [hP] at hp1
  have HK0 := Lib.hid (KeptK.new w 40 zList)
  clear h hn hP
  go_enter Tryz.func18, Tryz.ntmps18
  go_wp2_with fail
  refine (Z.down (Z.up HH.out HK0.out.1)).mono ?_
  rintro r w1 ⟨rfl, hb⟩
  have HK1 := Lib.hid (HK0.out.up hb)
  clear hb
  by_cases hg : S.gone = true
  · have HE : Hid (S.slC zi = ChkS.zero ∧ S.slE zi = 7) := Lib.hid (by
      have h1 : S.slE zi = 7 := by unfold DevS.slE; rw [if_pos hg]
      exact ⟨by unfold DevS.slC; rw [h1]; rfl, h1⟩)
    rw [hg]
    clear hg
    go_wp2_with fail
    refine (slwrapK_at _ _ 7 (by decide) _).mono ?_
    rintro r wW ⟨ev, rfl, hev, hbW⟩
    have HKW := Lib.hid (HK1.out.up hbW)
    have HEV := Lib.hid hev
    have HLT := Lib.hid (lt_of_block HK1.out.2)
    obtain ⟨eb, rfl⟩ := hev.some (by decide)
    clear hev hbW
    have e0 := HKW.out.2.cell 0 (by simp)
    have e1 := HKW.out.2.cell 1 (by simp)
    have e2 := HKW.out.2.cell 2 (by simp)
    have e3 := HKW.out.2.cell 3 (by simp)
    have e4 := HKW.out.2.cell 4 (by simp)
    have e5 := HKW.out.2.cell 5 (by simp)
    have e6 := HKW.out.2.cell 6 (by simp)
    have ef := fun k => HKW.out.2.free k
    simp only [List.getElem_cons_zero, List.getElem_cons_succ] at e0 e1 e2 e3 e4 e5 e6
    go_wp2_with fail
    refine bodyPost_ret (v := .tuple #[kV 0 0 0 0 0 0 (.slice none 0 0), .iface 143 (.pointer (some ⟨eb, 0, none⟩))]) (by simp [results, Tryz.results18, go_sem, e0, e1, e2, e3, e4, e5, e6]) rfl ?_
    rw [HE.out.1, HE.out.2]
    exact told_no HKW.out.1 HLT.out HEV.out _ _ _ _ _ _ _
  · have hg2 : S.gone = false := by simpa using hg
    rw [hg2]
    have HG := Lib.hid hg2
    have HARG : Hid (n < 2 ∨ zi < (n : Int) - 2 ∨ (n : Int) ≤ zi → S.slC zi = ChkS.zero ∧ S.slE zi = 1) := Lib.hid (fun h => by
      have h1 : S.slE zi = 1 := by
        unfold DevS.slE DevS.slotB
        rw [HN.out.1, if_neg (by rw [HG.out]; decide), if_pos (by simp; omega)]
      exact ⟨by unfold DevS.slC; rw [h1]; rfl, h1⟩)
    clear hg hg2
    go_wp2_with fail
    refine (Z.zones (Z.up HH.out HK1.out.1)).mono ?_
    rintro r w2 ⟨rfl, hb⟩
    have HK2 := Lib.hid (HK1.out.up hb)
    rw [HN.out.1]
    clear hb
    by_cases h2 : (n : Int) < 2
    · have HE : Hid (S.slC zi = ChkS.zero ∧ S.slE zi = 1) := Lib.hid (HARG.out (.inl (by omega)))
      go_wp2_with fail
      refine (slwrapK_at _ _ 1 (by decide) _).mono ?_
      rintro r wW ⟨ev, rfl, hev, hbW⟩
      have HKW := Lib.hid (HK2.out.up hbW)
      have HEV := Lib.hid hev
      have HLT := Lib.hid (lt_of_block HK2.out.2)
      obtain ⟨eb, rfl⟩ := hev.some (by decide)
      clear hev hbW
      have e0 := HKW.out.2.cell 0 (by simp)
      have e1 := HKW.out.2.cell 1 (by simp)
      have e2 := HKW.out.2.cell 2 (by simp)
      have e3 := HKW.out.2.cell 3 (by simp)
      have e4 := HKW.out.2.cell 4 (by simp)
      have e5 := HKW.out.2.cell 5 (by simp)
      have e6 := HKW.out.2.cell 6 (by simp)
      have ef := fun k => HKW.out.2.free k
      simp only [List.getElem_cons_zero, List.getElem_cons_succ] at e0 e1 e2 e3 e4 e5 e6
      go_wp2_with fail
      refine bodyPost_ret (v := .tuple #[kV 0 0 0 0 0 0 (.slice none 0 0), .iface 143 (.pointer (some ⟨eb, 0, none⟩))]) (by simp [results, Tryz.results18, go_sem, e0, e1, e2, e3, e4, e5, e6]) rfl ?_
      rw [HE.out.1, HE.out.2]
      exact told_no HKW.out.1 HLT.out HEV.out _ _ _ _ _ _ _
    · go_wp2_with fail
      refine (slfirst_at Z (Z.up HH.out HK2.out.1)).mono ?_
      rintro r w3 ⟨rfl, hb⟩
      have HK3 := Lib.hid (HK2.out.up hb)
      rw [HN.out.1]
      clear hb
      by_cases h3 : zi < (n : Int) - 2
      · have HE : Hid (S.slC zi = ChkS.zero ∧ S.slE zi = 1) := Lib.hid (HARG.out (.inr (.inl h3)))
        go_wp2_with fail
        refine (slwrapK_at _ _ 1 (by decide) _).mono ?_
        rintro r wW ⟨ev, rfl, hev, hbW⟩
        have HKW := Lib.hid (HK3.out.up hbW)
        have HEV := Lib.hid hev
        have HLT := Lib.hid (lt_of_block HK3.out.2)
        obtain ⟨eb, rfl⟩ := hev.some (by decide)
        clear hev hbW
        have e0 := HKW.out.2.cell 0 (by simp)
        have e1 := HKW.out.2.cell 1 (by simp)
        have e2 := HKW.out.2.cell 2 (by simp)
        have e3 := HKW.out.2.cell 3 (by simp)
        have e4 := HKW.out.2.cell 4 (by simp)
        have e5 := HKW.out.2.cell 5 (by simp)
        have e6 := HKW.out.2.cell 6 (by simp)
        have ef := fun k => HKW.out.2.free k
        simp only [List.getElem_cons_zero, List.getElem_cons_succ] at e0 e1 e2 e3 e4 e5 e6
        go_wp2_with fail
        refine bodyPost_ret (v := .tuple #[kV 0 0 0 0 0 0 (.slice none 0 0), .iface 143 (.pointer (some ⟨eb, 0, none⟩))]) (by simp [results, Tryz.results18, go_sem, e0, e1, e2, e3, e4, e5, e6]) rfl ?_
        rw [HE.out.1, HE.out.2]
        exact told_no HKW.out.1 HLT.out HEV.out _ _ _ _ _ _ _
      · go_wp2_with fail
        refine (Z.zones (Z.up HH.out HK3.out.1)).mono ?_
        rintro r w4 ⟨rfl, hb⟩
        have HK4 := Lib.hid (HK3.out.up hb)
        rw [HN.out.1]
        clear hb
        by_cases h4 : (n : Int) ≤ zi
        · have q4 : zi ≥ (n : Int) := h4
          have HE : Hid (S.slC zi = ChkS.zero ∧ S.slE zi = 1) := Lib.hid (HARG.out (.inr (.inr h4)))
          go_wp2_with fail
          refine (slwrapK_at _ _ 1 (by decide) _).mono ?_
          rintro r wW ⟨ev, rfl, hev, hbW⟩
          have HKW := Lib.hid (HK4.out.up hbW)
          have HEV := Lib.hid hev
          have HLT := Lib.hid (lt_of_block HK4.out.2)
          obtain ⟨eb, rfl⟩ := hev.some (by decide)
          clear hev hbW
          have e0 := HKW.out.2.cell 0 (by simp)
          have e1 := HKW.out.2.cell 1 (by simp)
          have e2 := HKW.out.2.cell 2 (by simp)
          have e3 := HKW.out.2.cell 3 (by simp)
          have e4 := HKW.out.2.cell 4 (by simp)
          have e5 := HKW.out.2.cell 5 (by simp)
          have e6 := HKW.out.2.cell 6 (by simp)
          have ef := fun k => HKW.out.2.free k
          simp only [List.getElem_cons_zero, List.getElem_cons_succ] at e0 e1 e2 e3 e4 e5 e6
          go_wp2_with fail
          refine bodyPost_ret (v := .tuple #[kV 0 0 0 0 0 0 (.slice none 0 0), .iface 143 (.pointer (some ⟨eb, 0, none⟩))]) (by simp [results, Tryz.results18, go_sem, e0, e1, e2, e3, e4, e5, e6]) rfl ?_
          rw [HE.out.1, HE.out.2]
          exact told_no HKW.out.1 HLT.out HEV.out _ _ _ _ _ _ _
        · have hi : S.is zi = true := DevS.is_iff.2 (by rw [HN.out.1]; omega)
          have HSB : Hid (S.slotB zi = true) := Lib.hid (by
            unfold DevS.slotB
            rw [HN.out.1]
            simp
            omega)
          have hpt : S.point zi = (S.zone zi).pages.length := by unfold DevS.point; rw [if_pos hi]
          have HPL : Hid ((S.zone zi).pages.length ≤ 16) := Lib.hid (by
            have := (HWF.out.pages _ (DevS.zone_mem hi)).1
            rw [HN.out.2] at this
            omega)
          have HIS := Lib.hid hi
          obtain ⟨l, hl⟩ : ∃ l, (S.zone zi).pages = l := ⟨_, rfl⟩
          rw [hl] at hpt HPL
          have HPT := Lib.hid hpt
          have HLL := Lib.hid hl
          have HBR : Hid (Bridge S zi l) := Lib.hid (by rw [← HLL.out]; exact bridge_of HWF.out HG.out HIS.out)
          have HBY : Hid (∀ b ∈ l, Byt b) := Lib.hid (by rw [← HLL.out]; exact zone_byt HWF.out zi)
          have q4 : ¬ zi ≥ (n : Int) := h4
          clear hpt hl hi
          go_wp2_with fail
          refine (slheld_at Z (Z.up HH.out HK4.out.1) HPT.out rfl (by have := HPL.out; omega) HBR.out HBY.out HN.out.1 HN.out.2).mono ?_
          rintro r w5 ⟨sv, rfl, hsv, hb⟩
          have HK5 := Lib.hid (HK4.out.up hb)
          have HSV := Lib.hid hsv
          have HL4 := Lib.hid (lt_of_block HK4.out.2)
          obtain ⟨A, c, rfl, _⟩ := hsv
          obtain ⟨k, hk⟩ : ∃ x, (u32s (heldC n P zi l).dir).length = x := ⟨_, rfl⟩
          obtain ⟨co, hco⟩ : ∃ x, heldC n P zi l = x := ⟨_, rfl⟩
          rw [hk] at HSV ⊢
          rw [hco] at HSV ⊢
          clear hk hb
          have HCO := Lib.hid hco
          clear hco
          by_cases ho : holdB n P zi l = true
          · rw [ho]
            have HE : Hid (S.slC zi = co ∧ S.slE zi = 0) := Lib.hid (by
              have h1 : S.slE zi = 0 := by
                unfold DevS.slE
                rw [HN.out.1, HN.out.2, HLL.out, if_neg (by rw [HG.out]; decide), if_neg (by rw [HSB.out]; decide), if_pos ho]
              refine ⟨?_, h1⟩
              unfold DevS.slC
              rw [h1, if_pos rfl, ← HCO.out, HLL.out]
              unfold heldC
              rw [if_pos ho])
            clear ho
            obtain ⟨x0, x1, x2, x3, x4, x5, dd⟩ := co
            rw [show ckV ⟨x0, x1, x2, x3, x4, x5, dd⟩ (.slice A k c) = kV x0 x1 x2 x3 x4 x5 (.slice A k c) from rfl]
            obtain ⟨w6, hw6⟩ : ∃ u, w5.alloc (.cells #[.int .u32 x0, .int .u32 x1, .int .u32 x2, .int .i64 x3, .int .i64 x4, .int .i64 x5, .slice A k c] 40) = u := ⟨_, rfl⟩
            have hb6 : Below w5.heap.size w5 w6 := by rw [← hw6]; exact (Below.refl _ _).alloc (Nat.le_refl _) _
            obtain ⟨CB, hCB⟩ : ∃ x, w5.heap.size = x := ⟨_, rfl⟩
            have HX6 : Hid (Blk w6 CB 40 [.int .u32 x0, .int .u32 x1, .int .u32 x2, .int .i64 x3, .int .i64 x4, .int .i64 x5, .slice A k c]) := Lib.hid (by rw [← hw6, ← hCB]; exact heap_alloc_new w5 _)
            have HK6 := Lib.hid (HK5.out.up hb6)
            have HSV6 : Hid (RowF (newB w4 w6) w6 (.slice A k c) (u32s dd)) := Lib.hid ((HSV.out.up hb6).mono (fun j h => ⟨h.1, Nat.lt_of_lt_of_le h.2 hb6.size⟩))
            clear hb6
            have y0 := HX6.out.cell 0 (by simp)
            have y1 := HX6.out.cell 1 (by simp)
            have y2 := HX6.out.cell 2 (by simp)
            have y3 := HX6.out.cell 3 (by simp)
            have y4 := HX6.out.cell 4 (by simp)
            have y5 := HX6.out.cell 5 (by simp)
            have y6 := HX6.out.cell 6 (by simp)
            simp only [List.getElem_cons_zero, List.getElem_cons_succ] at y0 y1 y2 y3 y4 y5 y6
            have e0 := HK6.out.2.cell 0 (by simp)
            have e1 := HK6.out.2.cell 1 (by simp)
            have e2 := HK6.out.2.cell 2 (by simp)
            have e3 := HK6.out.2.cell 3 (by simp)
            have e4 := HK6.out.2.cell 4 (by simp)
            have e5 := HK6.out.2.cell 5 (by simp)
            have e6 := HK6.out.2.cell 6 (by simp)
            have ef := fun k => HK6.out.2.free k
            simp only [List.getElem_cons_zero, List.getElem_cons_succ] at e0 e1 e2 e3 e4 e5 e6
            go_wp2_with fail
            refine bodyPost_ret (v := .tuple #[kV x0 x1 x2 x3 x4 x5 (.slice A k c), .nilIface]) (by simp [results, Tryz.results18, go_sem, e0, e1, e2, e3, e4, e5, e6]) rfl ?_
            rw [HE.out.1, HE.out.2]
            exact told_yes HK6.out.1 HL4.out HSV6.out _ _ _ _ _ _ _
          · have ho2 : holdB n P zi l = false := by simpa using ho
            rw [ho2]
            have HE : Hid (S.slC zi = ChkS.zero ∧ S.slE zi = 10) := Lib.hid (slot_ten HG.out HSB.out (by rw [HN.out.1, HN.out.2, HLL.out]; exact ho2))
            clear ho ho2
            obtain ⟨x0, x1, x2, x3, x4, x5, dd⟩ := co
            rw [show ckV ⟨x0, x1, x2, x3, x4, x5, dd⟩ (.slice A k c) = kV x0 x1 x2 x3 x4 x5 (.slice A k c) from rfl]
            obtain ⟨w6, hw6⟩ : ∃ u, w5.alloc (.cells #[.int .u32 x0, .int .u32 x1, .int .u32 x2, .int .i64 x3, .int .i64 x4, .int .i64 x5, .slice A k c] 40) = u := ⟨_, rfl⟩
            have hb6 : Below w5.heap.size w5 w6 := by rw [← hw6]; exact (Below.refl _ _).alloc (Nat.le_refl _) _
            obtain ⟨CB, hCB⟩ : ∃ x, w5.heap.size = x := ⟨_, rfl⟩
            have HX6 : Hid (Blk w6 CB 40 [.int .u32 x0, .int .u32 x1, .int .u32 x2, .int .i64 x3, .int .i64 x4, .int .i64 x5, .slice A k c]) := Lib.hid (by rw [← hw6, ← hCB]; exact heap_alloc_new w5 _)
            have HK6 := Lib.hid (HK5.out.up hb6)
            clear hb6
            go_wp2_with fail
            refine (slwrapK_at _ _ 10 (by decide) _).mono ?_
            rintro r wW ⟨ev, rfl, hev, hbW⟩
            have HKW := Lib.hid (HK6.out.up hbW)
            have HEV := Lib.hid hev
            have HLT := Lib.hid (lt_of_block HK6.out.2)
            obtain ⟨eb, rfl⟩ := hev.some (by decide)
            clear hev hbW
            have e0 := HKW.out.2.cell 0 (by simp)
            have e1 := HKW.out.2.cell 1 (by simp)
            have e2 := HKW.out.2.cell 2 (by simp)
            have e3 := HKW.out.2.cell 3 (by simp)
            have e4 := HKW.out.2.cell 4 (by simp)
            have e5 := HKW.out.2.cell 5 (by simp)
            have e6 := HKW.out.2.cell 6 (by simp)
            have ef := fun k => HKW.out.2.free k
            simp only [List.getElem_cons_zero, List.getElem_cons_succ] at e0 e1 e2 e3 e4 e5 e6
            go_wp2_with fail
            refine bodyPost_ret (v := .tuple #[kV 0 0 0 0 0 0 (.slice none 0 0), .iface 143 (.pointer (some ⟨eb, 0, none⟩))]) (by simp [results, Tryz.results18, go_sem, e0, e1, e2, e3, e4, e5, e6]) rfl ?_
            rw [HE.out.1, HE.out.2]
            exact told_no HKW.out.1 HLT.out HEV.out _ _ _ _ _ _ _
end Go.Proofs.YthmpimjmajoimaaGreatDoor
