/-
  The landed slots' Newest.
  The landed slots' pages (of a checkpoint that may be).
-/
import Derived.Test.YthmpimjmajoimaaGreatDoorSm46
namespace Go.Proofs.YthmpimjmajoimaaGreatDoor
open Go.RowKit

theorem told_any {w a u : World} {c : ChkS} {sv : Value} {e : Int} {ev : Value} (hb : Below w.heap.size w u) (hlt : w.heap.size < a.heap.size) (hs : RowF (newB a u) u sv (u32s c.dir)) (he : slEr (newB a u) u e ev) (v0 v1 v2 v3 v4 v5 v6 : Value) : ChkTold slX c e w (.returned (.tuple #[ckV c sv, ev])) (((((((u.setCell ⟨w.heap.size, 0, none⟩ v0).setCell ⟨w.heap.size, 1, none⟩ v1).setCell ⟨w.heap.size, 2, none⟩ v2).setCell ⟨w.heap.size, 3, none⟩ v3).setCell ⟨w.heap.size, 4, none⟩ v4).setCell ⟨w.heap.size, 5, none⟩ v5).setCell ⟨w.heap.size, 6, none⟩ v6) := by
  have hk := kept_seven u w.heap.size v0 v1 v2 v3 v4 v5 v6
  refine ⟨_, _, rfl, ?_, ?_, below_seven hb (Nat.le_refl _) _ _ _ _ _ _ _⟩
  · exact (hs.keep hk (fun j h e => by have := h.1; omega)).mono (fun j h => ⟨by have := h.1; omega, by have := h.2; have := hk.size; omega⟩)
  · exact (he.keep hk (fun j h e => by have := h.1; omega)).mono (fun j h => ⟨by have := h.1; omega, by have := h.2; have := hk.size; omega⟩)
/-- What a slot's answer may be. -/
theorem slE_cases (S : DevS) (zi : Int) (hz : zi = (S.zones.length : Int) - 2 ∨ zi = (S.zones.length : Int) - 1) : (S.gone = true ∧ S.slE zi = 7) ∨ (S.gone = false ∧ S.zones.length < 2 ∧ S.slE zi = 1) ∨ (S.gone = false ∧ 2 ≤ S.zones.length ∧ (S.slE zi = 0 ∧ whereN S.zones.length (S.slC zi).nu = zi ∨ S.slE zi = 10)) := by
  cases hg : S.gone with
  | true => exact .inl ⟨rfl, by unfold DevS.slE; rw [hg]; rfl⟩
  | false =>
    refine .inr ?_
    by_cases h2 : S.zones.length < 2
    · exact .inl ⟨rfl, h2, by unfold DevS.slE DevS.slotB; rw [hg, if_neg (by decide), if_pos (by simp; omega)]⟩
    · refine .inr ⟨rfl, by omega, ?_⟩
      have hs : S.slotB zi = true := by
        unfold DevS.slotB
        simp
        omega
      by_cases hh : holdB S.zones.length S.P zi (S.zone zi).pages = true
      · have h1 : S.slE zi = 0 := by unfold DevS.slE; rw [hg, hs, hh]; rfl
        refine .inl ⟨h1, ?_⟩
        unfold DevS.slC
        rw [if_pos h1]
        unfold holdB at hh
        simp only [Bool.and_eq_true, decide_eq_true_eq] at hh
        exact hh.2.2.2.2.2.2
      · exact .inr (slot_ten hg hs (by simpa using hh)).2
theorem new_cases (S : DevS) : (S.slE ((S.zones.length : Int) - 1) = 10 → S.newC = S.slC ((S.zones.length : Int) - 2) ∧ S.newE = S.slE ((S.zones.length : Int) - 2)) ∧
    (S.slE ((S.zones.length : Int) - 1) ≠ 10 → S.slE ((S.zones.length : Int) - 2) = 10 → S.newC = S.slC ((S.zones.length : Int) - 1) ∧ S.newE = S.slE ((S.zones.length : Int) - 1)) ∧
    (S.slE ((S.zones.length : Int) - 1) ≠ 10 → S.slE ((S.zones.length : Int) - 2) ≠ 10 → S.slE ((S.zones.length : Int) - 2) ≠ 0 → S.newC = ChkS.zero ∧ S.newE = S.slE ((S.zones.length : Int) - 2)) ∧
    (S.slE ((S.zones.length : Int) - 1) ≠ 10 → S.slE ((S.zones.length : Int) - 2) = 0 → S.newE = 0 ∧ S.newC = if newerC (S.slC ((S.zones.length : Int) - 2)) (S.slC ((S.zones.length : Int) - 1)) = true then S.slC ((S.zones.length : Int) - 2) else S.slC ((S.zones.length : Int) - 1)) := by
  have ha := slE_cases S ((S.zones.length : Int) - 2) (.inl rfl)
  have hb := slE_cases S ((S.zones.length : Int) - 1) (.inr rfl)
  have zC : ∀ zi, S.slE zi ≠ 0 → S.slC zi = ChkS.zero := fun zi h => by unfold DevS.slC; rw [if_neg h]
  have hE : S.newE = if S.gone = true then 7 else if S.zones.length < 2 then 1 else if S.slE ((S.zones.length : Int) - 2) = 0 ∨ S.slE ((S.zones.length : Int) - 1) = 0 then 0 else 10 := rfl
  have hC : S.newC = if S.newE ≠ 0 then ChkS.zero
    else if S.slE ((S.zones.length : Int) - 2) ≠ 0 then S.slC ((S.zones.length : Int) - 1)
    else if S.slE ((S.zones.length : Int) - 1) ≠ 0 then S.slC ((S.zones.length : Int) - 2)
    else if (S.slC ((S.zones.length : Int) - 2)).nu = ((S.slC ((S.zones.length : Int) - 1)).nu + 1) % 4294967296 then S.slC ((S.zones.length : Int) - 2)
    else if (S.slC ((S.zones.length : Int) - 1)).nu = ((S.slC ((S.zones.length : Int) - 2)).nu + 1) % 4294967296 ∨ (S.slC ((S.zones.length : Int) - 2)).nu < (S.slC ((S.zones.length : Int) - 1)).nu then S.slC ((S.zones.length : Int) - 1)
    else S.slC ((S.zones.length : Int) - 2) := rfl
  have zA := zC ((S.zones.length : Int) - 2)
  have zB := zC ((S.zones.length : Int) - 1)
  obtain ⟨a, hca⟩ : ∃ a, S.slC ((S.zones.length : Int) - 2) = a := ⟨_, rfl⟩
  obtain ⟨b, hcb⟩ : ∃ b, S.slC ((S.zones.length : Int) - 1) = b := ⟨_, rfl⟩
  obtain ⟨ea, hea⟩ : ∃ e, S.slE ((S.zones.length : Int) - 2) = e := ⟨_, rfl⟩
  obtain ⟨eb, heb⟩ : ∃ e, S.slE ((S.zones.length : Int) - 1) = e := ⟨_, rfl⟩
  rw [hca, hcb, hea, heb] at hC
  rw [hea, heb] at hE
  rw [hea, hca] at ha zA
  rw [heb, hcb] at hb zB
  rw [hca, hcb, hea, heb]
  unfold whereN at ha hb
  clear hca hcb hea heb zC
  refine ⟨fun h => ?_, fun h1 h2 => ?_, fun h1 h2 h3 => ?_, fun h1 h2 => ?_⟩
  · rcases hb with ⟨g', e'⟩ | ⟨g', n2', e'⟩ | ⟨g', n2', _⟩
    · omega
    · omega
    rcases ha with ⟨g, e⟩ | ⟨g, n2, e⟩ | ⟨g, n2, e⟩
    · rw [g'] at g
      cases g
    · omega
    · have hEE : S.newE = ea := by
        rw [hE, if_neg (by rw [g]; decide), if_neg (by omega)]
        rcases e with ⟨e, _⟩ | e
        · rw [if_pos (.inl e), e]
        · rw [if_neg (by omega), e]
      refine ⟨?_, hEE⟩
      rw [hC, hEE]
      rcases e with ⟨e, _⟩ | e
      · rw [if_neg (by omega), if_neg (by omega), if_pos (by omega)]
      · rw [if_pos (by omega), zA (by omega)]
  · rcases hb with ⟨g, e⟩ | ⟨g, n2, e⟩ | ⟨g, n2, e⟩
    · rcases ha with ⟨g2, e2⟩ | ⟨g2, _, e2⟩ | ⟨g2, _, e2⟩
      · omega
      · rw [g] at g2
        cases g2
      · rw [g] at g2
        cases g2
    · rcases ha with ⟨g2, e2⟩ | ⟨g2, n3, e2⟩ | ⟨g2, n3, e2⟩
      · omega
      · omega
      · omega
    · rcases e with ⟨e, _⟩ | e
      · have hEE : S.newE = eb := by rw [hE, if_neg (by rw [g]; decide), if_neg (by omega), if_pos (.inr e), e]
        refine ⟨?_, hEE⟩
        rw [hC, hEE, if_neg (by omega), if_pos (by omega)]
      · omega
  · rcases ha with ⟨g, e⟩ | ⟨g, n2, e⟩ | ⟨g, n2, e⟩
    · have hEE : S.newE = ea := by rw [hE, if_pos g, e]
      exact ⟨by rw [hC, hEE, if_pos h3], hEE⟩
    · have hEE : S.newE = ea := by rw [hE, if_neg (by rw [g]; decide), if_pos n2, e]
      exact ⟨by rw [hC, hEE, if_pos h3], hEE⟩
    · omega
  · rcases ha with ⟨g, e⟩ | ⟨g, n2, e⟩ | ⟨g, n2, e⟩
    · omega
    · omega
    · rcases hb with ⟨g', e'⟩ | ⟨g', n2', e'⟩ | ⟨g', n2', e'⟩
      · rw [g] at g'
        cases g'
      · omega
      · have hEE : S.newE = 0 := by rw [hE, if_neg (by rw [g]; decide), if_neg (by omega), if_pos (.inl h2)]
        refine ⟨hEE, ?_⟩
        rcases e' with ⟨e', p'⟩ | e'
        · rcases e with ⟨e, p⟩ | e
          · rw [hC, hEE, if_neg (by omega), if_neg (by omega), if_neg (by omega)]
            unfold newerC
            by_cases q1 : a.nu = (b.nu + 1) % 4294967296
            · rw [if_pos q1, decide_eq_true q1, Bool.true_or, if_pos rfl]
            · rw [if_neg q1, decide_eq_false q1, Bool.false_or]
              by_cases q2 : b.nu = (a.nu + 1) % 4294967296
              · rw [if_pos (.inl q2), decide_eq_false (by simpa using q2), Bool.false_and, if_neg (by decide)]
              · rw [decide_eq_true q2, Bool.true_and]
                by_cases q3 : a.nu < b.nu
                · rw [if_pos (.inr q3), decide_eq_false (by omega), if_neg (by decide)]
                · rw [if_neg (by omega), decide_eq_true (by omega), if_pos rfl]
          · omega
        · omega
set_option maxHeartbeats 2000000 in
set_option maxRecDepth 100000 in
theorem slNewest_at (Z : ZBas) {F : Nat → Prop} {w : World} {db : Nat} {S : DevS} (h : Z.D F w db S) : Calls Tryz.prog 21 #[.pointer (some ⟨db, 0, none⟩)] w (ChkTold slX S.newC S.newE w) := by
  have HH := Lib.hid h
  have HNC := Lib.hid (new_cases S)
  obtain ⟨n, hn⟩ : ∃ n, S.zones.length = n := ⟨_, rfl⟩
  rw [hn] at HNC
  have HN := Lib.hid hn
  have HK0 := Lib.hid (KeptK.new w 40 zList)
  clear h hn
  go_enter Tryz.func21, Tryz.ntmps21
  go_wp2_with fail
  refine (slwhere_at Z 0 (Z.up HH.out HK0.out.1) (by omega) (by omega)).mono ?_
  rintro r wa1 ⟨rfl, hb1⟩
  rw [HN.out, show whereN n 0 = ((n : Int) - 2) from by unfold whereN; omega]
  have HKa1 := Lib.hid (HK0.out.up hb1)
  have HB1 := Lib.hid hb1
  clear hb1
  go_wp2_with fail
  refine (slRead_at Z ((n : Int) - 2) (Z.up HH.out HKa1.out.1)).mono ?_
  rintro r wa2 ⟨sv, eva, rfl, hs, he, hb⟩
  have HKa2 := Lib.hid (HKa1.out.up hb)
  obtain ⟨co, hco⟩ : ∃ x, S.slC ((n : Int) - 2) = x := ⟨_, rfl⟩
  obtain ⟨qa, hq⟩ : ∃ x, S.slE ((n : Int) - 2) = x := ⟨_, rfl⟩
  rw [hco] at hs ⊢
  rw [hq] at he
  have HCEa := Lib.hid (And.intro hco hq)
  obtain ⟨Aa, ca, rfl, hrow⟩ := hs
  obtain ⟨ka, hk⟩ : ∃ x, (u32s co.dir).length = x := ⟨_, rfl⟩
  obtain ⟨a0, a1, a2, a3, a4, a5, ad⟩ := co
  rw [hk] at hrow ⊢
  have hs : RowF (newB wa1 wa2) wa2 (.slice Aa ka ca) (u32s ad) := ⟨Aa, ca, by rw [show (u32s ad).length = ka from hk], by rw [show (u32s ad).length = ka from hk]; exact hrow.1, hrow.2.1, by rw [show (u32s ad).length = ka from hk]; exact hrow.2.2.1, hrow.2.2.2⟩
  rw [show ckV ⟨a0, a1, a2, a3, a4, a5, ad⟩ (.slice Aa ka ca) = kV a0 a1 a2 a3 a4 a5 (.slice Aa ka ca) from rfl]
  obtain ⟨wa, hw⟩ : ∃ u, wa2.alloc (.cells #[.int .u32 a0, .int .u32 a1, .int .u32 a2, .int .i64 a3, .int .i64 a4, .int .i64 a5, .slice Aa ka ca] 40) = u := ⟨_, rfl⟩
  have hb6 : Below wa2.heap.size wa2 wa := by rw [← hw]; exact (Below.refl _ _).alloc (Nat.le_refl _) _
  obtain ⟨Ba, hBa⟩ : ∃ x, wa2.heap.size = x := ⟨_, rfl⟩
  have HXa : Hid (Blk wa Ba 40 [.int .u32 a0, .int .u32 a1, .int .u32 a2, .int .i64 a3, .int .i64 a4, .int .i64 a5, .slice Aa ka ca]) := Lib.hid (by rw [← hw, ← hBa]; exact heap_alloc_new wa2 _)
  have HKa3 := Lib.hid (HKa2.out.up hb6)
  have HSa : Hid (RowF (newB wa1 wa) wa (.slice Aa ka ca) (u32s ad)) := Lib.hid ((hs.up hb6).mono (fun j h => ⟨h.1, Nat.lt_of_lt_of_le h.2 hb6.size⟩))
  have HEa : Hid (slEr (newB wa1 wa) wa qa eva) := Lib.hid ((he.up hb6).mono (fun j h => ⟨h.1, Nat.lt_of_lt_of_le h.2 hb6.size⟩))
  have HBa := Lib.hid (below_all (below_all HB1.out hb) hb6)
  have HLTa := Lib.hid (lt_of_block HKa1.out.2)
  clear hb hs he hrow hk hb6 hco hq HB1
  go_wp2_with fail
  refine (slwhere_at Z 1 (Z.up HH.out HKa3.out.1) (by omega) (by omega)).mono ?_
  rintro r wb1 ⟨rfl, hb1⟩
  rw [HN.out, show whereN n 1 = ((n : Int) - 1) from by unfold whereN; omega]
  have HKb1 := Lib.hid (HKa3.out.up hb1)
  have HB1 := Lib.hid hb1
  clear hb1
  go_wp2_with fail
  refine (slRead_at Z ((n : Int) - 1) (Z.up HH.out HKb1.out.1)).mono ?_
  rintro r wb2 ⟨sv, evb, rfl, hs, he, hb⟩
  have HKb2 := Lib.hid (HKb1.out.up hb)
  obtain ⟨co, hco⟩ : ∃ x, S.slC ((n : Int) - 1) = x := ⟨_, rfl⟩
  obtain ⟨qb, hq⟩ : ∃ x, S.slE ((n : Int) - 1) = x := ⟨_, rfl⟩
  rw [hco] at hs ⊢
  rw [hq] at he
  have HCEb := Lib.hid (And.intro hco hq)
  obtain ⟨Ab, cb, rfl, hrow⟩ := hs
  obtain ⟨kb, hk⟩ : ∃ x, (u32s co.dir).length = x := ⟨_, rfl⟩
  obtain ⟨b0, b1, b2, b3, b4, b5, bd⟩ := co
  rw [hk] at hrow ⊢
  have hs : RowF (newB wb1 wb2) wb2 (.slice Ab kb cb) (u32s bd) := ⟨Ab, cb, by rw [show (u32s bd).length = kb from hk], by rw [show (u32s bd).length = kb from hk]; exact hrow.1, hrow.2.1, by rw [show (u32s bd).length = kb from hk]; exact hrow.2.2.1, hrow.2.2.2⟩
  rw [show ckV ⟨b0, b1, b2, b3, b4, b5, bd⟩ (.slice Ab kb cb) = kV b0 b1 b2 b3 b4 b5 (.slice Ab kb cb) from rfl]
  obtain ⟨wb, hw⟩ : ∃ u, wb2.alloc (.cells #[.int .u32 b0, .int .u32 b1, .int .u32 b2, .int .i64 b3, .int .i64 b4, .int .i64 b5, .slice Ab kb cb] 40) = u := ⟨_, rfl⟩
  have hb6 : Below wb2.heap.size wb2 wb := by rw [← hw]; exact (Below.refl _ _).alloc (Nat.le_refl _) _
  obtain ⟨Bb, hBb⟩ : ∃ x, wb2.heap.size = x := ⟨_, rfl⟩
  have HXb : Hid (Blk wb Bb 40 [.int .u32 b0, .int .u32 b1, .int .u32 b2, .int .i64 b3, .int .i64 b4, .int .i64 b5, .slice Ab kb cb]) := Lib.hid (by rw [← hw, ← hBb]; exact heap_alloc_new wb2 _)
  have HKb3 := Lib.hid (HKb2.out.up hb6)
  have HSb : Hid (RowF (newB wb1 wb) wb (.slice Ab kb cb) (u32s bd)) := Lib.hid ((hs.up hb6).mono (fun j h => ⟨h.1, Nat.lt_of_lt_of_le h.2 hb6.size⟩))
  have HEb : Hid (slEr (newB wb1 wb) wb qb evb) := Lib.hid ((he.up hb6).mono (fun j h => ⟨h.1, Nat.lt_of_lt_of_le h.2 hb6.size⟩))
  have HBb := Lib.hid (below_all (below_all HB1.out hb) hb6)
  have HLTb := Lib.hid (lt_of_block HKb1.out.2)
  clear hb hs he hrow hk hb6 hco hq HB1
  have HXc := Lib.hid (HXa.out.up HBb.out (lt_of_block HXa.out))
  have HSc : Hid (RowF (newB wa1 wb) wb (.slice Aa ka ca) (u32s ad)) := Lib.hid ((HSa.out.up HBb.out).mono (fun j h => ⟨h.1, Nat.lt_of_lt_of_le h.2 HBb.out.size⟩))
  have HEc : Hid (slEr (newB wa1 wb) wb qa eva) := Lib.hid ((HEa.out.up HBb.out).mono (fun j h => ⟨h.1, Nat.lt_of_lt_of_le h.2 HBb.out.size⟩))
  clear HXa HSa HEa
  go_wp2_with fail
  refine (slIs_at 10 (by decide) HEb.out).mono ?_
  rintro r w' ⟨rfl, rfl⟩
  by_cases k1 : qb = 10
  · rw [decide_eq_true k1]
    have HR : Hid (S.newC = ⟨a0, a1, a2, a3, a4, a5, ad⟩ ∧ S.newE = qa) := Lib.hid (by
      have h := HNC.out.1 (by rw [HCEb.out.2]; exact k1)
      rw [HCEa.out.1, HCEa.out.2] at h
      exact h)
    clear k1
    have y0 := HXc.out.cell 0 (by simp)
    have y1 := HXc.out.cell 1 (by simp)
    have y2 := HXc.out.cell 2 (by simp)
    have y3 := HXc.out.cell 3 (by simp)
    have y4 := HXc.out.cell 4 (by simp)
    have y5 := HXc.out.cell 5 (by simp)
    have y6 := HXc.out.cell 6 (by simp)
    simp only [List.getElem_cons_zero, List.getElem_cons_succ] at y0 y1 y2 y3 y4 y5 y6
    have e0 := HKb3.out.2.cell 0 (by simp)
    have e1 := HKb3.out.2.cell 1 (by simp)
    have e2 := HKb3.out.2.cell 2 (by simp)
    have e3 := HKb3.out.2.cell 3 (by simp)
    have e4 := HKb3.out.2.cell 4 (by simp)
    have e5 := HKb3.out.2.cell 5 (by simp)
    have e6 := HKb3.out.2.cell 6 (by simp)
    have ef := fun k => HKb3.out.2.free k
    simp only [List.getElem_cons_zero, List.getElem_cons_succ] at e0 e1 e2 e3 e4 e5 e6
    go_wp2_with fail
    refine bodyPost_ret (v := .tuple #[kV a0 a1 a2 a3 a4 a5 (.slice Aa ka ca), eva]) (by simp [results, Tryz.results21, go_sem, e0, e1, e2, e3, e4, e5, e6]) rfl ?_
    rw [HR.out.1, HR.out.2]
    exact told_any HKb3.out.1 HLTa.out HSc.out HEc.out _ _ _ _ _ _ _
  · rw [decide_eq_false k1]
    have HQ1 : Hid (S.slE ((n : Int) - 1) ≠ 10) := Lib.hid (by rw [HCEb.out.2]; exact k1)
    clear k1
    go_wp2_with fail
    refine (slIs_at 10 (by decide) HEc.out).mono ?_
    rintro r w' ⟨rfl, rfl⟩
    by_cases k2 : qa = 10
    · rw [decide_eq_true k2]
      have HR : Hid (S.newC = ⟨b0, b1, b2, b3, b4, b5, bd⟩ ∧ S.newE = qb) := Lib.hid (by
        have h := HNC.out.2.1 HQ1.out (by rw [HCEa.out.2]; exact k2)
        rw [HCEb.out.1, HCEb.out.2] at h
        exact h)
      clear k2
      have y0 := HXb.out.cell 0 (by simp)
      have y1 := HXb.out.cell 1 (by simp)
      have y2 := HXb.out.cell 2 (by simp)
      have y3 := HXb.out.cell 3 (by simp)
      have y4 := HXb.out.cell 4 (by simp)
      have y5 := HXb.out.cell 5 (by simp)
      have y6 := HXb.out.cell 6 (by simp)
      simp only [List.getElem_cons_zero, List.getElem_cons_succ] at y0 y1 y2 y3 y4 y5 y6
      have e0 := HKb3.out.2.cell 0 (by simp)
      have e1 := HKb3.out.2.cell 1 (by simp)
      have e2 := HKb3.out.2.cell 2 (by simp)
      have e3 := HKb3.out.2.cell 3 (by simp)
      have e4 := HKb3.out.2.cell 4 (by simp)
      have e5 := HKb3.out.2.cell 5 (by simp)
      have e6 := HKb3.out.2.cell 6 (by simp)
      have ef := fun k => HKb3.out.2.free k
      simp only [List.getElem_cons_zero, List.getElem_cons_succ] at e0 e1 e2 e3 e4 e5 e6
      go_wp2_with fail
      refine bodyPost_ret (v := .tuple #[kV b0 b1 b2 b3 b4 b5 (.slice Ab kb cb), evb]) (by simp [results, Tryz.results21, go_sem, e0, e1, e2, e3, e4, e5, e6]) rfl ?_
      rw [HR.out.1, HR.out.2]
      exact told_any HKb3.out.1 HLTb.out HSb.out HEb.out _ _ _ _ _ _ _
    · rw [decide_eq_false k2]
      have HQ2 : Hid (S.slE ((n : Int) - 2) ≠ 10) := Lib.hid (by rw [HCEa.out.2]; exact k2)
      clear k2
      by_cases k3 : qa = 0
      · obtain rfl : eva = .nilIface := HEc.out.elim (fun x => x.2) (fun x => absurd k3 x.1)
        have HR : Hid (S.newE = 0 ∧ S.newC = if newerC ⟨a0, a1, a2, a3, a4, a5, ad⟩ ⟨b0, b1, b2, b3, b4, b5, bd⟩ = true then ⟨a0, a1, a2, a3, a4, a5, ad⟩ else ⟨b0, b1, b2, b3, b4, b5, bd⟩) := Lib.hid (by
          have h := HNC.out.2.2.2 HQ1.out (by rw [HCEa.out.2]; exact k3)
          rw [HCEa.out.1, HCEb.out.1] at h
          exact h)
        clear k3
        have y0 := HXc.out.cell 0 (by simp)
        have y1 := HXc.out.cell 1 (by simp)
        have y2 := HXc.out.cell 2 (by simp)
        have y3 := HXc.out.cell 3 (by simp)
        have y4 := HXc.out.cell 4 (by simp)
        have y5 := HXc.out.cell 5 (by simp)
        have y6 := HXc.out.cell 6 (by simp)
        simp only [List.getElem_cons_zero, List.getElem_cons_succ] at y0 y1 y2 y3 y4 y5 y6
        have z0 := HXb.out.cell 0 (by simp)
        have z1 := HXb.out.cell 1 (by simp)
        have z2 := HXb.out.cell 2 (by simp)
        have z3 := HXb.out.cell 3 (by simp)
        have z4 := HXb.out.cell 4 (by simp)
        have z5 := HXb.out.cell 5 (by simp)
        have z6 := HXb.out.cell 6 (by simp)
        simp only [List.getElem_cons_zero, List.getElem_cons_succ] at z0 z1 z2 z3 z4 z5 z6
        go_wp2_with fail
        refine (slnewer_at ⟨a0, a1, a2, a3, a4, a5, ad⟩ ⟨b0, b1, b2, b3, b4, b5, bd⟩ (.slice Aa ka ca) (.slice Ab kb cb) ⟨_, _, _, rfl⟩ ⟨_, _, _, rfl⟩ _).mono ?_
        rintro r wf ⟨rfl, hbf⟩
        have HKF := Lib.hid (HKb3.out.up hbf)
        have HBF := Lib.hid hbf
        clear hbf y0 z0 y1 z1 y2 z2 y3 z3 y4 z4 y5 z5 y6 z6
        by_cases k4 : newerC ⟨a0, a1, a2, a3, a4, a5, ad⟩ ⟨b0, b1, b2, b3, b4, b5, bd⟩ = true
        · rw [if_pos k4]
          have HR2 : Hid (S.newC = ⟨a0, a1, a2, a3, a4, a5, ad⟩) := Lib.hid (by rw [HR.out.2, if_pos k4])
          have HSF : Hid (RowF (newB wa1 wf) wf (.slice Aa ka ca) (u32s ad)) := Lib.hid ((HSc.out.up HBF.out).mono (fun j h => ⟨h.1, Nat.lt_of_lt_of_le h.2 HBF.out.size⟩))
          rw [show ckV ⟨a0, a1, a2, a3, a4, a5, ad⟩ (.slice Aa ka ca) = kV a0 a1 a2 a3 a4 a5 (.slice Aa ka ca) from rfl]
          clear k4
          have e0 := HKF.out.2.cell 0 (by simp)
          have e1 := HKF.out.2.cell 1 (by simp)
          have e2 := HKF.out.2.cell 2 (by simp)
          have e3 := HKF.out.2.cell 3 (by simp)
          have e4 := HKF.out.2.cell 4 (by simp)
          have e5 := HKF.out.2.cell 5 (by simp)
          have e6 := HKF.out.2.cell 6 (by simp)
          have ef := fun k => HKF.out.2.free k
          simp only [List.getElem_cons_zero, List.getElem_cons_succ] at e0 e1 e2 e3 e4 e5 e6
          go_wp2_with fail
          refine bodyPost_ret (v := .tuple #[kV a0 a1 a2 a3 a4 a5 (.slice Aa ka ca), .nilIface]) (by simp [results, Tryz.results21, go_sem, e0, e1, e2, e3, e4, e5, e6]) rfl ?_
          rw [HR2.out, HR.out.1]
          exact told_any HKF.out.1 HLTa.out HSF.out slEr.no _ _ _ _ _ _ _
        · rw [if_neg k4]
          have HR2 : Hid (S.newC = ⟨b0, b1, b2, b3, b4, b5, bd⟩) := Lib.hid (by rw [HR.out.2, if_neg k4])
          have HSF : Hid (RowF (newB wb1 wf) wf (.slice Ab kb cb) (u32s bd)) := Lib.hid ((HSb.out.up HBF.out).mono (fun j h => ⟨h.1, Nat.lt_of_lt_of_le h.2 HBF.out.size⟩))
          rw [show ckV ⟨b0, b1, b2, b3, b4, b5, bd⟩ (.slice Ab kb cb) = kV b0 b1 b2 b3 b4 b5 (.slice Ab kb cb) from rfl]
          clear k4
          have e0 := HKF.out.2.cell 0 (by simp)
          have e1 := HKF.out.2.cell 1 (by simp)
          have e2 := HKF.out.2.cell 2 (by simp)
          have e3 := HKF.out.2.cell 3 (by simp)
          have e4 := HKF.out.2.cell 4 (by simp)
          have e5 := HKF.out.2.cell 5 (by simp)
          have e6 := HKF.out.2.cell 6 (by simp)
          have ef := fun k => HKF.out.2.free k
          simp only [List.getElem_cons_zero, List.getElem_cons_succ] at e0 e1 e2 e3 e4 e5 e6
          go_wp2_with fail
          refine bodyPost_ret (v := .tuple #[kV b0 b1 b2 b3 b4 b5 (.slice Ab kb cb), .nilIface]) (by simp [results, Tryz.results21, go_sem, e0, e1, e2, e3, e4, e5, e6]) rfl ?_
          rw [HR2.out, HR.out.1]
          exact told_any HKF.out.1 HLTb.out HSF.out slEr.no _ _ _ _ _ _ _
      · have HR : Hid (S.newC = ChkS.zero ∧ S.newE = qa) := Lib.hid (by
          have h := HNC.out.2.2.1 HQ1.out HQ2.out (by rw [HCEa.out.2]; exact k3)
          rw [HCEa.out.2] at h
          exact h)
        obtain ⟨eb, he⟩ := slEr.some HEc.out k3
        subst he
        clear k3
        have e0 := HKb3.out.2.cell 0 (by simp)
        have e1 := HKb3.out.2.cell 1 (by simp)
        have e2 := HKb3.out.2.cell 2 (by simp)
        have e3 := HKb3.out.2.cell 3 (by simp)
        have e4 := HKb3.out.2.cell 4 (by simp)
        have e5 := HKb3.out.2.cell 5 (by simp)
        have e6 := HKb3.out.2.cell 6 (by simp)
        have ef := fun k => HKb3.out.2.free k
        simp only [List.getElem_cons_zero, List.getElem_cons_succ] at e0 e1 e2 e3 e4 e5 e6
        go_wp2_with fail
        refine bodyPost_ret (v := .tuple #[kV 0 0 0 0 0 0 (.slice none 0 0), .iface 143 (.pointer (some ⟨eb, 0, none⟩))]) (by simp [results, Tryz.results21, go_sem, e0, e1, e2, e3, e4, e5, e6]) rfl ?_
        rw [HR.out.1, HR.out.2]
        exact told_no HKb3.out.1 HLTa.out HEc.out _ _ _ _ _ _ _
end Go.Proofs.YthmpimjmajoimaaGreatDoor
namespace Go.Proofs.YthmpimjmajoimaaGreatDoor
open Go.RowKit

/-- The first i pages of a checkpoint, as rows. -/
structure PAcc (base : Nat) (w : World) (C : ChkS) (i : Nat) (v : Value) (vs : List Value) : Prop where
  row : RowV w base 61 v vs
  len : vs.length = i
  el : ∀ j (h : j < vs.length), ∃ g, vs[j] = .slice (some ⟨g, 0, none⟩) 33 33 ∧ Blk8 w g (C.page j) ∧ base ≤ g
theorem PAcc.kept {base i : Nat} {w w' : World} {C : ChkS} {v : Value} {vs : List Value} {row : Option Nat} (h : PAcc base w C i v vs) (hg : w.grownBy w' row) (hf : Far2 base w row) : PAcc base w' C i v vs :=
  ⟨h.row.kept hg (fun g e => by obtain ⟨hb, o, ho, hc⟩ := own_cells h.row g e; exact hf.ne hb ho hc), h.len, fun j h1 => by
    obtain ⟨g, e, ho, hb⟩ := h.el j h1
    exact ⟨g, e, (hg.block g (lt_of_block ho) (hf.ne hb ho rfl)).trans ho, hb⟩⟩
theorem PAcc.rise {base i : Nat} {w w' : World} {C : ChkS} {v : Value} {vs : List Value} (h : PAcc base w C i v vs) (hb : Below w.heap.size w w') : PAcc base w' C i v vs := h.kept (grown_none hb) (fun _ e => by cases e)
theorem PAcc.step {base i g : Nat} {w w4 : World} {C : ChkS} {v v4 : Value} {vs : List Value} (h : PAcc base w C i v vs) (hg : w.grownBy w4 v.ownBlock) (hr : RowV w4 base 61 v4 (vs ++ [.slice (some ⟨g, 0, none⟩) 33 33])) (ho : Blk8 w g (C.page i)) (hb : base ≤ g) :
    PAcc base w4 C (i + 1) v4 (vs ++ [.slice (some ⟨g, 0, none⟩) 33 33]) := by
  have far : ∀ {g : Nat} {xs : List Int}, Blk8 w g xs → Blk8 w4 g xs := fun {g xs} ho => by
    refine (hg.block g (lt_of_block ho) (fun e => ?_)).trans ho
    rcases h.row.2 with ⟨rfl, _⟩ | ⟨g', cap, cur, rfl, _, hx, _⟩
    · cases e
    · have e : g = g' := by simpa [Value.ownBlock] using e
      subst e
      have ho2 : w.heap[g]? = _ := ho
      rw [hx] at ho2
      injection ho2 with ho2
      injection ho2 with _ ht
      exact absurd ht (by decide)
  refine ⟨hr, by simp [h.len], fun j h1 => ?_⟩
  by_cases hji : j < vs.length
  · obtain ⟨g', e, ho', hb'⟩ := h.el j hji
    exact ⟨g', by rw [List.getElem_append_left hji]; exact e, far ho', hb'⟩
  · have hlen := h.len
    have : j = i := by rw [List.length_append] at h1; simp at h1; omega
    subst this
    refine ⟨g, ?_, far ho, hb⟩
    rw [List.getElem_append_right (by omega)]
    simp
theorem PAcc.le {base base' i : Nat} {w : World} {C : ChkS} {v : Value} {vs : List Value} (h : PAcc base w C i v vs) (hb : base' ≤ base) : PAcc base' w C i v vs :=
  ⟨h.row.le hb, h.len, fun j h1 => by
    obtain ⟨g, e, ho, hg⟩ := h.el j h1
    exact ⟨g, e, ho, Nat.le_trans hb hg⟩⟩
set_option maxHeartbeats 2000000 in
set_option maxRecDepth 100000 in
theorem slpages_at {A : Option Addr} {n c : Nat} {w : World} (C : ChkS) (hr : RdV w w.heap.size A (u32s C.dir)) (hl : C.dir.length = n) (hw : C.words) (h : C.right = true) :
    Calls Tryz.prog 75 #[ckV C (.slice A n c)] w (fun r w' => ∃ A' c' vs, r = .returned (.tuple #[.slice A' C.blocks.length c', .nilIface]) ∧ PAcc w.heap.size w' C C.blocks.length (.slice A' C.blocks.length c') vs ∧ Below w.heap.size w w') := by
  have hle := ChkS.blocks_le h
  have hrb := ChkS.right_bd h
  have hwb := ChkS.words_bd hw
  have HBI : Hid (∀ i, i < C.blocks.length → (C.blocks.getD i []).length = 16 ∧ Byt (C.blocks.getD i [])) := Lib.hid (fun i hi => ⟨ChkS.block_16 hi, ChkS.block_byt i⟩)
  obtain ⟨m, hm⟩ : ∃ m, C.blocks.length = m := ⟨_, rfl⟩
  have hbl : blocksC C.nu C.se C.sq C.z C.p C.b C.dir = C.blocks := rfl
  rw [hm] at hle HBI ⊢
  have HPG : Hid (∀ i, C.page i = pageB 5 C.se (i : Int) C.nu (C.blocks.getD i [])) := Lib.hid (fun i => rfl)
  have HM := Lib.hid hm
  have hm16 : m ≤ 16 := by omega
  have HKB : Hid (∀ u, Below w.heap.size w u → Calls Tryz.prog 102 #[ckV C (.slice A n c)] u (fun r w' => ∃ (g cap : Nat) (ys : List Nat), r = .returned (.tuple #[.slice (some ⟨g, 0, none⟩) m cap, .nilIface]) ∧ Rows16 w' u.heap.size g cap ys C.blocks ∧ Below u.heap.size u w')) := Lib.hid (fun u hu => by
    have := kblocks_ok (c := c) C.nu C.se C.sq C.z C.p C.b (hr.up hu) hl hw (by unfold ChkS.right at h; rw [hl] at h; exact h)
    rw [hbl, hm] at this
    exact this)
  have HK0 := Lib.hid (KeptK.new w 40 (kList C.nu C.se C.sq C.z C.p C.b (.slice A n c)))
  obtain ⟨nu, hnu⟩ : ∃ x, C.nu = x := ⟨_, rfl⟩
  obtain ⟨se, hse⟩ : ∃ x, C.se = x := ⟨_, rfl⟩
  obtain ⟨sq, hsq⟩ : ∃ x, C.sq = x := ⟨_, rfl⟩
  obtain ⟨z, hz⟩ : ∃ x, C.z = x := ⟨_, rfl⟩
  obtain ⟨p, hp⟩ : ∃ x, C.p = x := ⟨_, rfl⟩
  obtain ⟨b, hb⟩ : ∃ x, C.b = x := ⟨_, rfl⟩
  rw [hnu, hse] at hwb HPG
  rw [hnu, hse, hsq, hz, hp, hb] at HK0
  have hv : ckV C (.slice A n c) = kV nu se sq z p b (.slice A n c) := by rw [← hnu, ← hse, ← hsq, ← hz, ← hp, ← hb]
  rw [hv] at HKB ⊢
  clear hr hl hw h hbl hm hnu hse hsq hz hp hb hv hrb
  go_enter Tryz.func75, Tryz.ntmps75
  go_wp2_with fail
  refine (HKB.out _ HK0.out.1).mono ?_
  rintro r w1 ⟨g, cap, ys, rfl, hrw, hb1⟩
  have HK1 := Lib.hid (HK0.out.up hb1)
  have HRW := Lib.hid hrw
  have HYL : Hid (ys.length = m) := Lib.hid (by rw [hrw.len, HM.out])
  have HP0 : Hid (PAcc w1.heap.size w1 C 0 (.slice none 0 0) []) := Lib.hid ⟨World.ownsRow_nil _ _ _ _, rfl, fun j h => absurd h (by simp)⟩
  clear hrw hb1
  go_wp2_with fail
  go_loopg [6, 21] m (fun q x6 x21 wr => ∃ (i : Nat) (A' : Option Addr) (c' : Nat) (vs : List Value), i ≤ m ∧ q = m - i ∧ x6 = .slice A' i c' ∧ x21 = .int .i64 (i : Int) ∧ PAcc w1.heap.size wr C i (.slice A' i c') vs ∧ Below w1.heap.size w1 wr)
  case atStart => exact ⟨0, none, 0, [], by omega, by omega, rfl, rfl, HP0.out, Below.refl _ _⟩
  case round =>
    clear HP0
    have HRW1 := HRW
    clear HRW
    obtain ⟨i, A', c', vs, hi, hq, rfl, rfl, hpa, hbw⟩ := hrel
    have HQ := Lib.hid hq
    have HPA := Lib.hid hpa
    have HBW := Lib.hid hbw
    have HK := Lib.hid (HK1.out.up hbw)
    have HRW := Lib.hid (HRW1.out.up hbw)
    clear hq hpa hbw
    by_cases hlt : i < m
    · have hyl : i < ys.length := by rw [HYL.out]; exact hlt
      have hbl : i < C.blocks.length := by rw [HM.out]; exact hlt
      obtain ⟨y, hy⟩ : ∃ y, ys[i] = y := ⟨_, rfl⟩
      have hcell := HRW.out.own.cell i (by rw [List.length_map]; exact hyl)
      rw [List.getElem_map, hy] at hcell
      have hcell : wr.cell? ⟨g, i, none⟩ = some (.slice (some ⟨y, 0, none⟩) 16 16) := hcell
      have HBY := Lib.hid (HRW.out.row i hyl hbl)
      rw [hy] at HBY
      obtain ⟨blk, hblk⟩ : ∃ x, C.blocks[i] = x := ⟨_, rfl⟩
      have HBE : Hid (C.blocks.getD i [] = blk) := Lib.hid (by rw [List.getD_eq_getElem?_getD, List.getElem?_eq_getElem hbl, Option.getD_some]; exact hblk)
      rw [hblk] at HBY
      have HB16 := Lib.hid (HBI.out i hlt)
      rw [HBE.out] at HB16
      have e0 := HK.out.2.cell 0 (by simp)
      have e1 := HK.out.2.cell 1 (by simp)
      simp only [List.getElem_cons_zero, List.getElem_cons_succ] at e0 e1
      clear hy hblk
      go_wp2_with fail
      refine (slof_at se nu (i : Int) wr (by omega) (by omega)).mono ?_
      rintro r w3 ⟨rfl, hb3⟩
      have HPA3 := Lib.hid (HPA.out.rise hb3)
      have HBW3 := Lib.hid (HBW.out.trans (hb3.mono HBW.out.size))
      have HK3 := Lib.hid (HK.out.up hb3)
      have HRD : Hid (Rd w3 w3.heap.size (some ⟨y, 0, none⟩) blk) := Lib.hid (by
        have h := Blk8.rd (Blk.up HBY.out.1 hb3 (lt_of_block HBY.out.1)) 0
        rwa [List.drop_zero] at h)
      clear hb3 e0 e1 hcell
      go_wp2_with fail
      refine (bytes_ok 5 se (i : Int) nu (some ⟨y, 0, none⟩) blk 16 w3 HRD.out HB16.out.2 HB16.out.1 (by omega) (by decide) hwb.2 (by omega) hwb.1).mono ?_
      rintro r w5 ⟨gp, rfl, hgp, hgb, hb5⟩
      have HPA5 := Lib.hid (HPA3.out.rise hb5)
      have HBW5 := Lib.hid (HBW3.out.trans (hb5.mono HBW3.out.size))
      have HGP : Hid (Blk8 w5 gp (C.page i) ∧ w1.heap.size ≤ gp) := Lib.hid ⟨by rw [HPG.out, HBE.out]; exact hgp, by have := HBW3.out.size; omega⟩
      clear hgp hgb hb5
      obtain ⟨w6, hw6⟩ : ∃ u, w5.alloc (.cells #[.slice (some ⟨gp, 0, none⟩) 33 33] 61) = u := ⟨_, rfl⟩
      have hb6 : Below w5.heap.size w5 w6 := by rw [← hw6]; exact (Below.refl _ _).alloc (Nat.le_refl _) _
      have HPA6 := Lib.hid (HPA5.out.rise hb6)
      have HBW6 := Lib.hid (HBW5.out.trans (hb6.mono HBW5.out.size))
      have HGP6 : Hid (Blk8 w6 gp (C.page i) ∧ w1.heap.size ≤ gp) := Lib.hid ⟨Blk.up HGP.out.1 hb6 (lt_of_block HGP.out.1), HGP.out.2⟩
      have HRO : Hid (RdV w6 w6.heap.size (some ⟨w5.heap.size, 0, none⟩) [.slice (some ⟨gp, 0, none⟩) 33 33]) := Lib.hid (by rw [← hw6]; exact rdv_one w5 _ _)
      have HVL : Hid (vs.length = i) := Lib.hid HPA6.out.len
      clear hb6 HPA HPA3 HPA5 HK HK3 HRW HGP HBY HRD HBW HBW3 HBW5
      go_wp2_with (first
        | (at_builtin; refine appR _ rfl (.tmp 40) (.tmp 42) 60 61 (.slice none 0 0) 24 rfl Tryz.underlying60 infoRow rfl (by decide) w1.heap.size i 1 1 (.slice A' i c') vs [.slice (some ⟨gp, 0, none⟩) 33 33] (some ⟨w5.heap.size, 0, none⟩) rfl HPA6.out.row HVL.out rfl rfl HRO.out (fun e => by cases e) (fun u hu => by simp at hu; subst hu; rfl) ?h1 ?h2 ?_; (case h1 => omega); (case h2 => exact HBW6.out.size); intro v7 w7 ho hg; obtain ⟨A7, c7, rfl⟩ : ∃ X c, v7 = .slice X (i + 1) c := (by obtain ⟨X, c, e, _⟩ := ho.out; exact ⟨X, c, by rw [e, app_one_len HVL.out]⟩); have HN7 := Lib.hid (HPA6.out.step hg ho HGP6.out.1 HGP6.out.2); have HBW7 := Lib.hid (HBW6.out.grown hg HBW6.out.size (fun k e => (HPA6.out.row.own k e).1)); clear ho hg)
        | fail)
      go_roundg (m - (i + 1))
      case rel => exact ⟨i + 1, A7, c7, _, by omega, rfl, rfl, by go_num, HN7.out, HBW7.out⟩
      case measure => have := HQ.out; omega
    · have e : i = m := by omega
      subst e
      go_wp2_with fail
      go_ret2
      exact ⟨A', c', vs, rfl, HPA.out.le HK1.out.1.size, below_all HK1.out.1 HBW.out⟩
end Go.Proofs.YthmpimjmajoimaaGreatDoor
