/-
  The document's Read of a slot as one contract; its Newest.
  SlotReads: the law's walk.
-/
import Derived.Test.YthmpimjmajoimaaGreatDoorSw41
import Derived.Test.YthmpimjmajoimaaGreatDoorSw42
import Derived.Test.YthmpimjmajoimaaGreatDoorSw38
import Derived.Test.YthmpimjmajoimaaGreatDoorSw33
namespace Go.Proofs.YthmpimjmajoimaaGreatDoor
open Go.RowKit

theorem rsread_at {F : Nat → Prop} {w : World} {db zb cap : Nat} {zs : List Value} {S : DevS} (zi : Int) (h : RD F w db zb cap zs S) : Calls Tryz.prog 19 #[.pointer (some ⟨db, 0, none⟩), .int .i64 zi] w (RChkN (S.slC zi) (S.slE zi) w) := by
  cases hg : S.gone with
  | true => exact rsreadN_out zi h (.inl hg)
  | false =>
    cases hs : S.slotB zi with
    | false => exact rsreadN_out zi h (.inr hs)
    | true =>
      unfold DevS.slotB at hs
      simp only [Bool.and_eq_true, Bool.or_eq_true, decide_eq_true_eq] at hs
      obtain ⟨h2, hz⟩ := hs
      rcases hz with hz | hz
      · obtain ⟨k, rfl⟩ : ∃ k : Nat, zi = (k : Int) := ⟨S.zones.length - 1, by omega⟩
        exact rsread_last k h hg ⟨by omega, h2⟩
      · obtain ⟨k, rfl⟩ : ∃ k : Nat, zi = (k : Int) := ⟨S.zones.length - 2, by omega⟩
        exact rsread_but k h hg ⟨by omega, h2⟩
theorem rnew_cases (S : DevS) (hg : S.gone = false) (h2 : 2 ≤ S.zones.length) : (S.slE ((S.zones.length : Int) - 2) ≠ 0 → S.newC = S.slC ((S.zones.length : Int) - 1) ∧ S.newE = S.slE ((S.zones.length : Int) - 1)) ∧
    (S.slE ((S.zones.length : Int) - 2) = 0 → S.newE = 0 ∧ S.newC = if S.slE ((S.zones.length : Int) - 1) ≠ 0 then S.slC ((S.zones.length : Int) - 2)
      else if (S.slC ((S.zones.length : Int) - 2)).nu = ((S.slC ((S.zones.length : Int) - 1)).nu + 1) % 4294967296 then S.slC ((S.zones.length : Int) - 2)
      else if (S.slC ((S.zones.length : Int) - 1)).nu = ((S.slC ((S.zones.length : Int) - 2)).nu + 1) % 4294967296 ∨ (S.slC ((S.zones.length : Int) - 2)).nu < (S.slC ((S.zones.length : Int) - 1)).nu then S.slC ((S.zones.length : Int) - 1) else S.slC ((S.zones.length : Int) - 2)) := by
  have hb := slE_cases S ((S.zones.length : Int) - 1) (.inr rfl)
  have zB : S.slE ((S.zones.length : Int) - 1) ≠ 0 → S.slC ((S.zones.length : Int) - 1) = ChkS.zero := fun h => by unfold DevS.slC; rw [if_neg h]
  have hE : S.newE = if S.slE ((S.zones.length : Int) - 2) = 0 ∨ S.slE ((S.zones.length : Int) - 1) = 0 then 0 else 10 := by
    unfold DevS.newE
    rw [if_neg (by rw [hg]; decide), if_neg (by omega)]
  have hC : S.newC = if S.newE ≠ 0 then ChkS.zero
    else if S.slE ((S.zones.length : Int) - 2) ≠ 0 then S.slC ((S.zones.length : Int) - 1)
    else if S.slE ((S.zones.length : Int) - 1) ≠ 0 then S.slC ((S.zones.length : Int) - 2)
    else if (S.slC ((S.zones.length : Int) - 2)).nu = ((S.slC ((S.zones.length : Int) - 1)).nu + 1) % 4294967296 then S.slC ((S.zones.length : Int) - 2)
    else if (S.slC ((S.zones.length : Int) - 1)).nu = ((S.slC ((S.zones.length : Int) - 2)).nu + 1) % 4294967296 ∨ (S.slC ((S.zones.length : Int) - 2)).nu < (S.slC ((S.zones.length : Int) - 1)).nu then S.slC ((S.zones.length : Int) - 1)
    else S.slC ((S.zones.length : Int) - 2) := rfl
  refine ⟨fun h => ?_, fun h => ?_⟩
  · rcases hb with ⟨g, _⟩ | ⟨_, n2, _⟩ | ⟨_, _, e⟩
    · rw [hg] at g
      cases g
    · omega
    · rcases e with ⟨e, _⟩ | e
      · have hEE : S.newE = 0 := by rw [hE, if_pos (.inr e)]
        exact ⟨by rw [hC, hEE, if_neg (by omega), if_pos h], by rw [hEE, e]⟩
      · have hEE : S.newE = 10 := by rw [hE, if_neg (by omega)]
        exact ⟨by rw [hC, hEE, if_pos (by omega), zB (by omega)], by rw [hEE, e]⟩
  · have hEE : S.newE = 0 := by rw [hE, if_pos (.inl h)]
    refine ⟨hEE, ?_⟩
    rw [hC, hEE, if_neg (by omega), if_neg (by omega)]
theorem rnew_any {w a u : World} {c : ChkS} {sv : Value} {e : Int} (hb : Below w.heap.size w u) (hlt : w.heap.size < a.heap.size) (hs : RowF (newB a u) u sv (u32s c.dir)) (v0 v1 v2 v3 v4 v5 v6 : Value) : RChkN c e w (.returned (.tuple #[ckV c sv, .int .i64 e])) (((((((u.setCell ⟨w.heap.size, 0, none⟩ v0).setCell ⟨w.heap.size, 1, none⟩ v1).setCell ⟨w.heap.size, 2, none⟩ v2).setCell ⟨w.heap.size, 3, none⟩ v3).setCell ⟨w.heap.size, 4, none⟩ v4).setCell ⟨w.heap.size, 5, none⟩ v5).setCell ⟨w.heap.size, 6, none⟩ v6) := by
  have hk := kept_seven u w.heap.size v0 v1 v2 v3 v4 v5 v6
  exact ⟨_, rfl, (hs.keep hk (fun j h e => by have := h.1; omega)).mono (fun j h => ⟨by have := h.1; omega, by have := h.2; have := hk.size; omega⟩), below_seven hb (Nat.le_refl _) _ _ _ _ _ _ _⟩
set_option maxHeartbeats 2000000 in
set_option maxRecDepth 100000 in
theorem rsnewest_at {F : Nat → Prop} {w : World} {db zb cap : Nat} {zs : List Value} {S : DevS} (h : RD F w db zb cap zs S) : Calls Tryz.prog 22 #[.pointer (some ⟨db, 0, none⟩)] w (RChkN S.newC S.newE w) := by
  have HC0 : Hid (S.gone = false → 2 ≤ S.zones.length → _) := Lib.hid (rnew_cases S)
  obtain ⟨n, hn⟩ : ∃ n, S.zones.length = n := ⟨_, rfl⟩
  have HN := Lib.hid hn
  have hz1 := h.wf.z1
  rw [hn] at hz1
  have HK0 := Lib.hid (KeptK.new w 46 zList)
  have HD0 := Lib.hid (h.up HK0.out.1)
  have zC : Hid (S.newE ≠ 0 → S.newC = ChkS.zero) := Lib.hid (fun h => by unfold DevS.newC; rw [if_pos h])
  have hw1 : IntKind.i64.wrap ((n : Int) - 2) = (n : Int) - 2 := IntWalk.i64_in _ (by omega)
  have hw2 : IntKind.i64.wrap ((n : Int) - 1) = (n : Int) - 1 := IntWalk.i64_in _ (by omega)
  clear h hn
  have u0 := HD0.out.dev.cell 0 (by simp)
  have u4 := HD0.out.dev.cell 4 (by simp)
  simp only [List.getElem_cons_zero, List.getElem_cons_succ] at u0 u4
  rw [HN.out] at u0
  by_cases hg : S.gone = true
  · rw [hg] at u4
    have HE : Hid (S.newC = ChkS.zero ∧ S.newE = 7) := Lib.hid (by
      have h1 : S.newE = 7 := by unfold DevS.newE; rw [if_pos hg]
      exact ⟨zC.out (by omega), h1⟩)
    clear hg
    go_enter Tryz.func22, Tryz.ntmps22
    have e0 := HK0.out.2.cell 0 (by simp)
    have e1 := HK0.out.2.cell 1 (by simp)
    have e2 := HK0.out.2.cell 2 (by simp)
    have e3 := HK0.out.2.cell 3 (by simp)
    have e4 := HK0.out.2.cell 4 (by simp)
    have e5 := HK0.out.2.cell 5 (by simp)
    have e6 := HK0.out.2.cell 6 (by simp)
    have ef := fun k => HK0.out.2.free k
    simp only [List.getElem_cons_zero, List.getElem_cons_succ] at e0 e1 e2 e3 e4 e5 e6
    go_wp2_with fail
    refine bodyPost_ret (v := .tuple #[kV 0 0 0 0 0 0 (.slice none 0 0), .int .i64 7]) (by simp [results, Tryz.results22, go_sem, e0, e1, e2, e3, e4, e5, e6]) rfl ?_
    rw [HE.out.1, HE.out.2]
    exact RChkN.zero HK0.out.1
  · have hg2 : S.gone = false := by simpa using hg
    rw [hg2] at u4
    have HG := Lib.hid hg2
    clear hg hg2
    by_cases h2 : (n : Int) < 2
    · have HE : Hid (S.newC = ChkS.zero ∧ S.newE = 1) := Lib.hid (by
        have h1 : S.newE = 1 := by unfold DevS.newE; rw [if_neg (by rw [HG.out]; decide), if_pos (by rw [HN.out]; omega)]
        exact ⟨zC.out (by omega), h1⟩)
      go_enter Tryz.func22, Tryz.ntmps22
      have e0 := HK0.out.2.cell 0 (by simp)
      have e1 := HK0.out.2.cell 1 (by simp)
      have e2 := HK0.out.2.cell 2 (by simp)
      have e3 := HK0.out.2.cell 3 (by simp)
      have e4 := HK0.out.2.cell 4 (by simp)
      have e5 := HK0.out.2.cell 5 (by simp)
      have e6 := HK0.out.2.cell 6 (by simp)
      have ef := fun k => HK0.out.2.free k
      simp only [List.getElem_cons_zero, List.getElem_cons_succ] at e0 e1 e2 e3 e4 e5 e6
      go_wp2_with fail
      refine bodyPost_ret (v := .tuple #[kV 0 0 0 0 0 0 (.slice none 0 0), .int .i64 1]) (by simp [results, Tryz.results22, go_sem, e0, e1, e2, e3, e4, e5, e6]) rfl ?_
      rw [HE.out.1, HE.out.2]
      exact RChkN.zero HK0.out.1
    · have HNC := Lib.hid (HC0.out HG.out (by rw [HN.out]; omega))
      rw [HN.out] at HNC
      go_enter Tryz.func22, Tryz.ntmps22
      go_wp2_with fail
      obtain ⟨wa1, hwa1⟩ : ∃ x, w.alloc (.cells #[.int .u32 0, .int .u32 0, .int .u32 0, .int .i64 0, .int .i64 0, .int .i64 0, .slice none 0 0] 46) = x := ⟨_, rfl⟩
      have HLT : Hid (w.heap.size < wa1.heap.size) := Lib.hid (by rw [← hwa1]; simp)
      have HKA : Hid (KeptK w 46 zList wa1) := Lib.hid (by rw [← hwa1]; exact HK0.out)
      have HDA : Hid (RD F wa1 db zb cap zs S) := Lib.hid (by rw [← hwa1]; exact HD0.out)
      rw [hwa1]
      clear u0 u4 HK0 HD0
      refine (rsread_at ((n : Int) - 2) (HDA.out)).mono ?_
      rintro r wa2 ⟨sv, rfl, hs, hb⟩
      have HKa2 := Lib.hid (HKA.out.up hb)
      obtain ⟨co, hco⟩ : ∃ x, S.slC ((n : Int) - 2) = x := ⟨_, rfl⟩
      obtain ⟨qa, hq⟩ : ∃ x, S.slE ((n : Int) - 2) = x := ⟨_, rfl⟩
      rw [hco] at hs ⊢
      rw [hq]
      have HCEa := Lib.hid (And.intro hco hq)
      obtain ⟨Aa, ca, rfl, hrow⟩ := hs
      obtain ⟨ka, hk⟩ : ∃ x, (u32s co.dir).length = x := ⟨_, rfl⟩
      obtain ⟨a0, a1, a2, a3, a4, a5, ad⟩ := co
      rw [hk] at hrow ⊢
      have hs : RowF (newB wa1 wa2) wa2 (.slice Aa ka ca) (u32s ad) := ⟨Aa, ca, by rw [show (u32s ad).length = ka from hk], by rw [show (u32s ad).length = ka from hk]; exact hrow.1, hrow.2.1, by rw [show (u32s ad).length = ka from hk]; exact hrow.2.2.1, hrow.2.2.2⟩
      rw [show ckV ⟨a0, a1, a2, a3, a4, a5, ad⟩ (.slice Aa ka ca) = kV a0 a1 a2 a3 a4 a5 (.slice Aa ka ca) from rfl]
      obtain ⟨wa, hw⟩ : ∃ u, wa2.alloc (.cells #[.int .u32 a0, .int .u32 a1, .int .u32 a2, .int .i64 a3, .int .i64 a4, .int .i64 a5, .slice Aa ka ca] 46) = u := ⟨_, rfl⟩
      have hb6 : Below wa2.heap.size wa2 wa := by rw [← hw]; exact (Below.refl _ _).alloc (Nat.le_refl _) _
      obtain ⟨Ba, hBa⟩ : ∃ x, wa2.heap.size = x := ⟨_, rfl⟩
      have HXa : Hid (Blk wa Ba 46 [.int .u32 a0, .int .u32 a1, .int .u32 a2, .int .i64 a3, .int .i64 a4, .int .i64 a5, .slice Aa ka ca]) := Lib.hid (by rw [← hw, ← hBa]; exact heap_alloc_new wa2 _)
      have HKa3 := Lib.hid (HKa2.out.up hb6)
      have HSa : Hid (RowF (newB wa1 wa) wa (.slice Aa ka ca) (u32s ad)) := Lib.hid ((hs.up hb6).mono (fun j h => ⟨h.1, Nat.lt_of_lt_of_le h.2 hb6.size⟩))
      have HBa := Lib.hid (below_all hb hb6)
      have HDa := Lib.hid (HDA.out.up (below_all hb hb6))
      clear hb hs hrow hk hb6 hco hq
      have u0 := HDa.out.dev.cell 0 (by simp)
      have u4 := HDa.out.dev.cell 4 (by simp)
      simp only [List.getElem_cons_zero, List.getElem_cons_succ] at u0 u4
      rw [HN.out] at u0
      go_wp2_with fail
      refine (rsread_at ((n : Int) - 1) (HDa.out)).mono ?_
      rintro r wb2 ⟨sv, rfl, hs, hb⟩
      have HKb2 := Lib.hid (HKa3.out.up hb)
      obtain ⟨co, hco⟩ : ∃ x, S.slC ((n : Int) - 1) = x := ⟨_, rfl⟩
      obtain ⟨qb, hq⟩ : ∃ x, S.slE ((n : Int) - 1) = x := ⟨_, rfl⟩
      rw [hco] at hs ⊢
      rw [hq]
      have HCEb := Lib.hid (And.intro hco hq)
      obtain ⟨Ab, cb, rfl, hrow⟩ := hs
      obtain ⟨kb, hk⟩ : ∃ x, (u32s co.dir).length = x := ⟨_, rfl⟩
      obtain ⟨b0, b1, b2, b3, b4, b5, bd⟩ := co
      rw [hk] at hrow ⊢
      have hs : RowF (newB wa wb2) wb2 (.slice Ab kb cb) (u32s bd) := ⟨Ab, cb, by rw [show (u32s bd).length = kb from hk], by rw [show (u32s bd).length = kb from hk]; exact hrow.1, hrow.2.1, by rw [show (u32s bd).length = kb from hk]; exact hrow.2.2.1, hrow.2.2.2⟩
      rw [show ckV ⟨b0, b1, b2, b3, b4, b5, bd⟩ (.slice Ab kb cb) = kV b0 b1 b2 b3 b4 b5 (.slice Ab kb cb) from rfl]
      obtain ⟨wb, hw⟩ : ∃ u, wb2.alloc (.cells #[.int .u32 b0, .int .u32 b1, .int .u32 b2, .int .i64 b3, .int .i64 b4, .int .i64 b5, .slice Ab kb cb] 46) = u := ⟨_, rfl⟩
      have hb6 : Below wb2.heap.size wb2 wb := by rw [← hw]; exact (Below.refl _ _).alloc (Nat.le_refl _) _
      obtain ⟨Bb, hBb⟩ : ∃ x, wb2.heap.size = x := ⟨_, rfl⟩
      have HXb : Hid (Blk wb Bb 46 [.int .u32 b0, .int .u32 b1, .int .u32 b2, .int .i64 b3, .int .i64 b4, .int .i64 b5, .slice Ab kb cb]) := Lib.hid (by rw [← hw, ← hBb]; exact heap_alloc_new wb2 _)
      have HKb3 := Lib.hid (HKb2.out.up hb6)
      have HSb : Hid (RowF (newB wa wb) wb (.slice Ab kb cb) (u32s bd)) := Lib.hid ((hs.up hb6).mono (fun j h => ⟨h.1, Nat.lt_of_lt_of_le h.2 hb6.size⟩))
      have HBb := Lib.hid (below_all hb hb6)
      clear hb hs hrow hk hb6 hco hq
      have HXc := Lib.hid (HXa.out.up HBb.out (lt_of_block HXa.out))
      have HSc : Hid (RowF (newB wa1 wb) wb (.slice Aa ka ca) (u32s ad)) := Lib.hid ((HSa.out.up HBb.out).mono (fun j h => ⟨h.1, Nat.lt_of_lt_of_le h.2 HBb.out.size⟩))
      have HLTb : Hid (w.heap.size < wa.heap.size) := Lib.hid (Nat.lt_of_lt_of_le HLT.out HBa.out.size)
      clear HXa HSa u0 u4
      have y0 := HXc.out.cell 0 (by simp)
      have y1 := HXc.out.cell 1 (by simp)
      have y2 := HXc.out.cell 2 (by simp)
      have y3 := HXc.out.cell 3 (by simp)
      have y4 := HXc.out.cell 4 (by simp)
      have y5 := HXc.out.cell 5 (by simp)
      have y6 := HXc.out.cell 6 (by simp)
      simp only [List.getElem_cons_zero, List.getElem_cons_succ] at y0 y1 y2 y3 y4 y5 y6
      have z0 := HXb.out.cell 0 (by simp)
      have z1 := HXb.out.cell 1 (by simp)
      have z2 := HXb.out.cell 2 (by simp)
      have z3 := HXb.out.cell 3 (by simp)
      have z4 := HXb.out.cell 4 (by simp)
      have z5 := HXb.out.cell 5 (by simp)
      have z6 := HXb.out.cell 6 (by simp)
      simp only [List.getElem_cons_zero, List.getElem_cons_succ] at z0 z1 z2 z3 z4 z5 z6
      have e0 := HKb3.out.2.cell 0 (by simp)
      have e1 := HKb3.out.2.cell 1 (by simp)
      have e2 := HKb3.out.2.cell 2 (by simp)
      have e3 := HKb3.out.2.cell 3 (by simp)
      have e4 := HKb3.out.2.cell 4 (by simp)
      have e5 := HKb3.out.2.cell 5 (by simp)
      have e6 := HKb3.out.2.cell 6 (by simp)
      have ef := fun k => HKb3.out.2.free k
      simp only [List.getElem_cons_zero, List.getElem_cons_succ] at e0 e1 e2 e3 e4 e5 e6
      have hv1 : IntKind.u32.wrap (b0 + 1) = (b0 + 1) % 4294967296 := by simp [IntKind.wrap, IntKind.signed, IntKind.bits]
      have hv2 : IntKind.u32.wrap (a0 + 1) = (a0 + 1) % 4294967296 := by simp [IntKind.wrap, IntKind.signed, IntKind.bits]
      obtain ⟨t1, ht1⟩ : ∃ y, (b0 + 1) % 4294967296 = y := ⟨_, rfl⟩
      obtain ⟨t2, ht2⟩ : ∃ y, (a0 + 1) % 4294967296 = y := ⟨_, rfl⟩
      rw [ht1] at hv1
      rw [ht2] at hv2
      have HTT := Lib.hid (And.intro ht1 ht2)
      clear ht1 ht2
      by_cases k1 : qa = 0
      · have p1 : (qa != 0) = false := by simpa using k1
        have HR := Lib.hid (HNC.out.2 (by rw [HCEa.out.2]; exact k1))
        rw [HCEa.out.1, HCEb.out.1, HCEb.out.2] at HR
        simp only at HR
        rw [HTT.out.1, HTT.out.2] at HR
        clear k1
        by_cases k2 : qb = 0
        · have p2 : (qb != 0) = false := by simpa using k2
          by_cases j1 : a0 = t1
          · have o1 : (a0 == t1) = true := by simpa using j1
            have HR2 : Hid (S.newC = ⟨a0, a1, a2, a3, a4, a5, ad⟩) := Lib.hid (by rw [HR.out.2, if_neg (by simpa using k2), if_pos j1])
            clear j1 k2
            go_wp2_with fail
            refine bodyPost_ret (v := .tuple #[kV a0 a1 a2 a3 a4 a5 (.slice Aa ka ca), .int .i64 0]) (by simp [results, Tryz.results22, go_sem, e0, e1, e2, e3, e4, e5, e6]) rfl ?_
            rw [HR2.out, HR.out.1]
            exact rnew_any HKb3.out.1 HLT.out HSc.out _ _ _ _ _ _ _
          · have o1 : (a0 == t1) = false := by simpa using j1
            by_cases j2 : b0 = t2
            · have o2 : (b0 == t2) = true := by simpa using j2
              have HR2 : Hid (S.newC = ⟨b0, b1, b2, b3, b4, b5, bd⟩) := Lib.hid (by rw [HR.out.2, if_neg (by simpa using k2), if_neg j1, if_pos (.inl j2)])
              clear j1 k2 j2
              go_wp2_with fail
              refine bodyPost_ret (v := .tuple #[kV b0 b1 b2 b3 b4 b5 (.slice Ab kb cb), .int .i64 0]) (by simp [results, Tryz.results22, go_sem, e0, e1, e2, e3, e4, e5, e6]) rfl ?_
              rw [HR2.out, HR.out.1]
              exact rnew_any HKb3.out.1 HLTb.out HSb.out _ _ _ _ _ _ _
            · have o2 : (b0 == t2) = false := by simpa using j2
              by_cases j3 : a0 < b0
              · have HR2 : Hid (S.newC = ⟨b0, b1, b2, b3, b4, b5, bd⟩) := Lib.hid (by rw [HR.out.2, if_neg (by simpa using k2), if_neg j1, if_pos (.inr j3)])
                have j3' : b0 > a0 := j3
                clear j1 k2 j2
                go_wp2_with fail
                refine bodyPost_ret (v := .tuple #[kV b0 b1 b2 b3 b4 b5 (.slice Ab kb cb), .int .i64 0]) (by simp [results, Tryz.results22, go_sem, e0, e1, e2, e3, e4, e5, e6]) rfl ?_
                rw [HR2.out, HR.out.1]
                exact rnew_any HKb3.out.1 HLTb.out HSb.out _ _ _ _ _ _ _
              · have HR2 : Hid (S.newC = ⟨a0, a1, a2, a3, a4, a5, ad⟩) := Lib.hid (by rw [HR.out.2, if_neg (by simpa using k2), if_neg j1, if_neg (by intro h; exact h.elim j2 j3)])
                have j3' : ¬ b0 > a0 := j3
                clear j1 k2 j2
                go_wp2_with fail
                refine bodyPost_ret (v := .tuple #[kV a0 a1 a2 a3 a4 a5 (.slice Aa ka ca), .int .i64 0]) (by simp [results, Tryz.results22, go_sem, e0, e1, e2, e3, e4, e5, e6]) rfl ?_
                rw [HR2.out, HR.out.1]
                exact rnew_any HKb3.out.1 HLT.out HSc.out _ _ _ _ _ _ _
        · have p2 : (qb != 0) = true := by simpa using k2
          have HR2 : Hid (S.newC = ⟨a0, a1, a2, a3, a4, a5, ad⟩) := Lib.hid (by rw [HR.out.2, if_pos (by simpa using k2)])
          clear k2
          go_wp2_with fail
          refine bodyPost_ret (v := .tuple #[kV a0 a1 a2 a3 a4 a5 (.slice Aa ka ca), .int .i64 0]) (by simp [results, Tryz.results22, go_sem, e0, e1, e2, e3, e4, e5, e6]) rfl ?_
          rw [HR2.out, HR.out.1]
          exact rnew_any HKb3.out.1 HLT.out HSc.out _ _ _ _ _ _ _
      · have p1 : (qa != 0) = true := by simpa using k1
        have HR := Lib.hid (HNC.out.1 (by rw [HCEa.out.2]; exact k1))
        rw [HCEb.out.1, HCEb.out.2] at HR
        clear k1
        go_wp2_with fail
        refine bodyPost_ret (v := .tuple #[kV b0 b1 b2 b3 b4 b5 (.slice Ab kb cb), .int .i64 qb]) (by simp [results, Tryz.results22, go_sem, e0, e1, e2, e3, e4, e5, e6]) rfl ?_
        rw [HR.out.1, HR.out.2]
        exact rnew_any HKb3.out.1 HLTb.out HSb.out _ _ _ _ _ _ _
end Go.Proofs.YthmpimjmajoimaaGreatDoor
namespace Go.Proofs.YthmpimjmajoimaaGreatDoor
open Go.RowKit

theorem chk_dir {l : List (List Int)} (h : readGE (blk17 l) = 0) : (chkOf l).dir.length ≤ 16 := by
  have hr : rightB (numAt (blk17 l).flatten 3) (numAt (blk17 l).flatten 4) (numAt (blk17 l).flatten 5) = true := by
    unfold readGE at h
    split at h
    · cases h
    · split at h
      · cases h
      · rename_i h2
        simpa using h2
  unfold rightB at hr
  simp only [decide_eq_true_eq] at hr
  have hb := (bnd_bd (numAt (blk17 l).flatten 3) (numAt (blk17 l).flatten 4)).2
  have ht := tab_le hr.1 (by omega)
  show (readDir (blk17 l)).length ≤ 16
  unfold readDir
  rw [List.length_map, List.length_range]
  omega
theorem slC_dir (S : DevS) (zi : Int) : (S.slC zi).dir.length ≤ 16 := by
  unfold DevS.slC
  split
  · rename_i h
    refine chk_dir ?_
    unfold DevS.slE at h
    split at h
    · cases h
    · split at h
      · cases h
      · split at h
        · rename_i h2
          unfold holdB at h2
          simp only [Bool.and_eq_true, decide_eq_true_eq] at h2
          exact h2.2.1
        · cases h
  · simp [ChkS.zero]
theorem newC_dir (S : DevS) : S.newC.dir.length ≤ 16 := by
  unfold DevS.newC
  split
  · simp [ChkS.zero]
  · split
    · exact slC_dir S _
    · split
      · exact slC_dir S _
      · split
        · exact slC_dir S _
        · split
          · exact slC_dir S _
          · exact slC_dir S _
/-- Both devices, of one state, apart from what lay there. -/
structure TwoS (Z : ZBas) (w0 w : World) (db rb zb cap : Nat) (zs : List Value) (S : DevS) (F1 F2 : Nat → Prop) : Prop where
  d : Z.D F1 w db S
  r : RD F2 w rb zb cap zs S
  old : Below w0.heap.size w0 w
theorem TwoS.up {Z : ZBas} {w0 w w' : World} {db rb zb cap : Nat} {zs : List Value} {S : DevS} {F1 F2 : Nat → Prop} (h : TwoS Z w0 w db rb zb cap zs S F1 F2) (hb : Below w.heap.size w w') : TwoS Z w0 w' db rb zb cap zs S F1 F2 :=
  ⟨Z.up h.d hb, h.r.up hb, below_all h.old hb⟩
end Go.Proofs.YthmpimjmajoimaaGreatDoor
