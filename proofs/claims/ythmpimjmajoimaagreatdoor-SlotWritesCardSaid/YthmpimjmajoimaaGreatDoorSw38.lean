/-
  The landed slots' Newest.
  What the law makes of a checkpoint, and what it asks of both devices.
-/
import Derived.Test.YthmpimjmajoimaaGreatDoorSw37
namespace Go.Proofs.YthmpimjmajoimaaGreatDoor
open Go.RowKit

theorem told_any {w a u : World} {c : ChkS} {sv : Value} {e : Int} {ev : Value} (hb : Below w.heap.size w u) (hlt : w.heap.size < a.heap.size) (hs : RowF (newB a u) u sv (u32s c.dir)) (he : slEr (newB a u) u e ev) (v0 v1 v2 v3 v4 v5 v6 : Value) : ChkTold slX c e w (.returned (.tuple #[ckV c sv, ev])) (((((((u.setCell ⟨w.heap.size, 0, none⟩ v0).setCell ⟨w.heap.size, 1, none⟩ v1).setCell ⟨w.heap.size, 2, none⟩ v2).setCell ⟨w.heap.size, 3, none⟩ v3).setCell ⟨w.heap.size, 4, none⟩ v4).setCell ⟨w.heap.size, 5, none⟩ v5).setCell ⟨w.heap.size, 6, none⟩ v6) := by
  have hk := kept_seven u w.heap.size v0 v1 v2 v3 v4 v5 v6
  refine ⟨_, _, rfl, ?_, ?_, below_seven hb (Nat.le_refl _) _ _ _ _ _ _ _⟩
  · exact (hs.keep hk (fun j h e => by have := h.1; omega)).mono (fun j h => ⟨by have := h.1; omega, by have := h.2; have := hk.size; omega⟩)
  · exact (he.keep hk (fun j h e => by have := h.1; omega)).mono (fun j h => ⟨by have := h.1; omega, by have := h.2; have := hk.size; omega⟩)
/-- What a slot's answer may be. -/
theorem slE_cases (S : DevS) (zi : Int) (hz : zi = (S.zones.length : Int) - 2 ∨ zi = (S.zones.length : Int) - 1) : (S.gone = true ∧ S.slE zi = 7) ∨ (S.gone = false ∧ S.zones.length < 2 ∧ S.slE zi = 1) ∨ (S.gone = false ∧ 2 ≤ S.zones.length ∧ (S.slE zi = 0 ∧ whereN S.zones.length (S.slC zi).nu = zi ∨ S.slE zi = 10)) := by
  cases hg : S.gone with
  | true => exact .inl ⟨rfl, by unfold DevS.slE; rw [hg]; rfl⟩
  | false =>
    refine .inr ?_
    by_cases h2 : S.zones.length < 2
    · exact .inl ⟨rfl, h2, by unfold DevS.slE DevS.slotB; rw [hg, if_neg (by decide), if_pos (by simp; omega)]⟩
    · refine .inr ⟨rfl, by omega, ?_⟩
      have hs : S.slotB zi = true := by
        unfold DevS.slotB
        simp
        omega
      by_cases hh : holdB S.zones.length S.P zi (S.zone zi).pages = true
      · have h1 : S.slE zi = 0 := by unfold DevS.slE; rw [hg, hs, hh]; rfl
        refine .inl ⟨h1, ?_⟩
        unfold DevS.slC
        rw [if_pos h1]
        unfold holdB at hh
        simp only [Bool.and_eq_true, decide_eq_true_eq] at hh
        exact hh.2.2.2.2.2.2
      · exact .inr (slot_ten hg hs (by simpa using hh)).2
theorem new_cases (S : DevS) : (S.slE ((S.zones.length : Int) - 1) = 10 → S.newC = S.slC ((S.zones.length : Int) - 2) ∧ S.newE = S.slE ((S.zones.length : Int) - 2)) ∧
    (S.slE ((S.zones.length : Int) - 1) ≠ 10 → S.slE ((S.zones.length : Int) - 2) = 10 → S.newC = S.slC ((S.zones.length : Int) - 1) ∧ S.newE = S.slE ((S.zones.length : Int) - 1)) ∧
    (S.slE ((S.zones.length : Int) - 1) ≠ 10 → S.slE ((S.zones.length : Int) - 2) ≠ 10 → S.slE ((S.zones.length : Int) - 2) ≠ 0 → S.newC = ChkS.zero ∧ S.newE = S.slE ((S.zones.length : Int) - 2)) ∧
    (S.slE ((S.zones.length : Int) - 1) ≠ 10 → S.slE ((S.zones.length : Int) - 2) = 0 → S.newE = 0 ∧ S.newC = if newerC (S.slC ((S.zones.length : Int) - 2)) (S.slC ((S.zones.length : Int) - 1)) = true then S.slC ((S.zones.length : Int) - 2) else S.slC ((S.zones.length : Int) - 1)) := by
  have ha := slE_cases S ((S.zones.length : Int) - 2) (.inl rfl)
  have hb := slE_cases S ((S.zones.length : Int) - 1) (.inr rfl)
  have zC : ∀ zi, S.slE zi ≠ 0 → S.slC zi = ChkS.zero := fun zi h => by unfold DevS.slC; rw [if_neg h]
  have hE : S.newE = if S.gone = true then 7 else if S.zones.length < 2 then 1 else if S.slE ((S.zones.length : Int) - 2) = 0 ∨ S.slE ((S.zones.length : Int) - 1) = 0 then 0 else 10 := rfl
  have hC : S.newC = if S.newE ≠ 0 then ChkS.zero
    else if S.slE ((S.zones.length : Int) - 2) ≠ 0 then S.slC ((S.zones.length : Int) - 1)
    else if S.slE ((S.zones.length : Int) - 1) ≠ 0 then S.slC ((S.zones.length : Int) - 2)
    else if (S.slC ((S.zones.length : Int) - 2)).nu = ((S.slC ((S.zones.length : Int) - 1)).nu + 1) % 4294967296 then S.slC ((S.zones.length : Int) - 2)
    else if (S.slC ((S.zones.length : Int) - 1)).nu = ((S.slC ((S.zones.length : Int) - 2)).nu + 1) % 4294967296 ∨ (S.slC ((S.zones.length : Int) - 2)).nu < (S.slC ((S.zones.length : Int) - 1)).nu then S.slC ((S.zones.length : Int) - 1)
    else S.slC ((S.zones.length : Int) - 2) := rfl
  have zA := zC ((S.zones.length : Int) - 2)
  have zB := zC ((S.zones.length : Int) - 1)
  obtain ⟨a, hca⟩ : ∃ a, S.slC ((S.zones.length : Int) - 2) = a := ⟨_, rfl⟩
  obtain ⟨b, hcb⟩ : ∃ b, S.slC ((S.zones.length : Int) - 1) = b := ⟨_, rfl⟩
  obtain ⟨ea, hea⟩ : ∃ e, S.slE ((S.zones.length : Int) - 2) = e := ⟨_, rfl⟩
  obtain ⟨eb, heb⟩ : ∃ e, S.slE ((S.zones.length : Int) - 1) = e := ⟨_, rfl⟩
  rw [hca, hcb, hea, heb] at hC
  rw [hea, heb] at hE
  rw [hea, hca] at ha zA
  rw [heb, hcb] at hb zB
  rw [hca, hcb, hea, heb]
  unfold whereN at ha hb
  clear hca hcb hea heb zC
  refine ⟨fun h => ?_, fun h1 h2 => ?_, fun h1 h2 h3 => ?_, fun h1 h2 => ?_⟩
  · rcases hb with ⟨g', e'⟩ | ⟨g', n2', e'⟩ | ⟨g', n2', _⟩
    · omega
    · omega
    rcases ha with ⟨g, e⟩ | ⟨g, n2, e⟩ | ⟨g, n2, e⟩
    · rw [g'] at g
      cases g
    · omega
    · have hEE : S.newE = ea := by
        rw [hE, if_neg (by rw [g]; decide), if_neg (by omega)]
        rcases e with ⟨e, _⟩ | e
        · rw [if_pos (.inl e), e]
        · rw [if_neg (by omega), e]
      refine ⟨?_, hEE⟩
      rw [hC, hEE]
      rcases e with ⟨e, _⟩ | e
      · rw [if_neg (by omega), if_neg (by omega), if_pos (by omega)]
      · rw [if_pos (by omega), zA (by omega)]
  · rcases hb with ⟨g, e⟩ | ⟨g, n2, e⟩ | ⟨g, n2, e⟩
    · rcases ha with ⟨g2, e2⟩ | ⟨g2, _, e2⟩ | ⟨g2, _, e2⟩
      · omega
      · rw [g] at g2
        cases g2
      · rw [g] at g2
        cases g2
    · rcases ha with ⟨g2, e2⟩ | ⟨g2, n3, e2⟩ | ⟨g2, n3, e2⟩
      · omega
      · omega
      · omega
    · rcases e with ⟨e, _⟩ | e
      · have hEE : S.newE = eb := by rw [hE, if_neg (by rw [g]; decide), if_neg (by omega), if_pos (.inr e), e]
        refine ⟨?_, hEE⟩
        rw [hC, hEE, if_neg (by omega), if_pos (by omega)]
      · omega
  · rcases ha with ⟨g, e⟩ | ⟨g, n2, e⟩ | ⟨g, n2, e⟩
    · have hEE : S.newE = ea := by rw [hE, if_pos g, e]
      exact ⟨by rw [hC, hEE, if_pos h3], hEE⟩
    · have hEE : S.newE = ea := by rw [hE, if_neg (by rw [g]; decide), if_pos n2, e]
      exact ⟨by rw [hC, hEE, if_pos h3], hEE⟩
    · omega
  · rcases ha with ⟨g, e⟩ | ⟨g, n2, e⟩ | ⟨g, n2, e⟩
    · omega
    · omega
    · rcases hb with ⟨g', e'⟩ | ⟨g', n2', e'⟩ | ⟨g', n2', e'⟩
      · rw [g] at g'
        cases g'
      · omega
      · have hEE : S.newE = 0 := by rw [hE, if_neg (by rw [g]; decide), if_neg (by omega), if_pos (.inl h2)]
        refine ⟨hEE, ?_⟩
        rcases e' with ⟨e', p'⟩ | e'
        · rcases e with ⟨e, p⟩ | e
          · rw [hC, hEE, if_neg (by omega), if_neg (by omega), if_neg (by omega)]
            unfold newerC
            by_cases q1 : a.nu = (b.nu + 1) % 4294967296
            · rw [if_pos q1, decide_eq_true q1, Bool.true_or, if_pos rfl]
            · rw [if_neg q1, decide_eq_false q1, Bool.false_or]
              by_cases q2 : b.nu = (a.nu + 1) % 4294967296
              · rw [if_pos (.inl q2), decide_eq_false (by simpa using q2), Bool.false_and, if_neg (by decide)]
              · rw [decide_eq_true q2, Bool.true_and]
                by_cases q3 : a.nu < b.nu
                · rw [if_pos (.inr q3), decide_eq_false (by omega), if_neg (by decide)]
                · rw [if_neg (by omega), decide_eq_true (by omega), if_pos rfl]
          · omega
        · omega
set_option maxHeartbeats 2000000 in
set_option maxRecDepth 100000 in
theorem slNewest_at (Z : ZBas) {F : Nat → Prop} {w : World} {db : Nat} {S : DevS} (h : Z.D F w db S) : Calls Tryz.prog 21 #[.pointer (some ⟨db, 0, none⟩)] w (ChkTold slX S.newC S.newE w) := by
  have HH := Lib.hid h
  have HNC := Lib.hid (new_cases S)
  obtain ⟨n, hn⟩ : ∃ n, S.zones.length = n := ⟨_, rfl⟩
  rw [hn] at HNC
  have HN := Lib.hid hn
  have HK0 := Lib.hid (KeptK.new w 40 zList)
  clear h hn
  go_enter Tryz.func21, Tryz.ntmps21
  go_wp2_with fail
  refine (slwhere_at Z 0 (Z.up HH.out HK0.out.1) (by omega) (by omega)).mono ?_
  rintro r wa1 ⟨rfl, hb1⟩
  rw [HN.out, show whereN n 0 = ((n : Int) - 2) from by unfold whereN; omega]
  have HKa1 := Lib.hid (HK0.out.up hb1)
  have HB1 := Lib.hid hb1
  clear hb1
  go_wp2_with fail
  refine (slRead_at Z ((n : Int) - 2) (Z.up HH.out HKa1.out.1)).mono ?_
  rintro r wa2 ⟨sv, eva, rfl, hs, he, hb⟩
  have HKa2 := Lib.hid (HKa1.out.up hb)
  obtain ⟨co, hco⟩ : ∃ x, S.slC ((n : Int) - 2) = x := ⟨_, rfl⟩
  obtain ⟨qa, hq⟩ : ∃ x, S.slE ((n : Int) - 2) = x := ⟨_, rfl⟩
  rw [hco] at hs ⊢
  rw [hq] at he
  have HCEa := Lib.hid (And.intro hco hq)
  obtain ⟨Aa, ca, rfl, hrow⟩ := hs
  obtain ⟨ka, hk⟩ : ∃ x, (u32s co.dir).length = x := ⟨_, rfl⟩
  obtain ⟨a0, a1, a2, a3, a4, a5, ad⟩ := co
  rw [hk] at hrow ⊢
  have hs : RowF (newB wa1 wa2) wa2 (.slice Aa ka ca) (u32s ad) := ⟨Aa, ca, by rw [show (u32s ad).length = ka from hk], by rw [show (u32s ad).length = ka from hk]; exact hrow.1, hrow.2.1, by rw [show (u32s ad).length = ka from hk]; exact hrow.2.2.1, hrow.2.2.2⟩
  rw [show ckV ⟨a0, a1, a2, a3, a4, a5, ad⟩ (.slice Aa ka ca) = kV a0 a1 a2 a3 a4 a5 (.slice Aa ka ca) from rfl]
  obtain ⟨wa, hw⟩ : ∃ u, wa2.alloc (.cells #[.int .u32 a0, .int .u32 a1, .int .u32 a2, .int .i64 a3, .int .i64 a4, .int .i64 a5, .slice Aa ka ca] 40) = u := ⟨_, rfl⟩
  have hb6 : Below wa2.heap.size wa2 wa := by rw [← hw]; exact (Below.refl _ _).alloc (Nat.le_refl _) _
  obtain ⟨Ba, hBa⟩ : ∃ x, wa2.heap.size = x := ⟨_, rfl⟩
  have HXa : Hid (Blk wa Ba 40 [.int .u32 a0, .int .u32 a1, .int .u32 a2, .int .i64 a3, .int .i64 a4, .int .i64 a5, .slice Aa ka ca]) := Lib.hid (by rw [← hw, ← hBa]; exact heap_alloc_new wa2 _)
  have HKa3 := Lib.hid (HKa2.out.up hb6)
  have HSa : Hid (RowF (newB wa1 wa) wa (.slice Aa ka ca) (u32s ad)) := Lib.hid ((hs.up hb6).mono (fun j h => ⟨h.1, Nat.lt_of_lt_of_le h.2 hb6.size⟩))
  have HEa : Hid (slEr (newB wa1 wa) wa qa eva) := Lib.hid ((he.up hb6).mono (fun j h => ⟨h.1, Nat.lt_of_lt_of_le h.2 hb6.size⟩))
  have HBa := Lib.hid (below_all (below_all HB1.out hb) hb6)
  have HLTa := Lib.hid (lt_of_block HKa1.out.2)
  clear hb hs he hrow hk hb6 hco hq HB1
  go_wp2_with fail
  refine (slwhere_at Z 1 (Z.up HH.out HKa3.out.1) (by omega) (by omega)).mono ?_
  rintro r wb1 ⟨rfl, hb1⟩
  rw [HN.out, show whereN n 1 = ((n : Int) - 1) from by unfold whereN; omega]
  have HKb1 := Lib.hid (HKa3.out.up hb1)
  have HB1 := Lib.hid hb1
  clear hb1
  go_wp2_with fail
  refine (slRead_at Z ((n : Int) - 1) (Z.up HH.out HKb1.out.1)).mono ?_
  rintro r wb2 ⟨sv, evb, rfl, hs, he, hb⟩
  have HKb2 := Lib.hid (HKb1.out.up hb)
  obtain ⟨co, hco⟩ : ∃ x, S.slC ((n : Int) - 1) = x := ⟨_, rfl⟩
  obtain ⟨qb, hq⟩ : ∃ x, S.slE ((n : Int) - 1) = x := ⟨_, rfl⟩
  rw [hco] at hs ⊢
  rw [hq] at he
  have HCEb := Lib.hid (And.intro hco hq)
  obtain ⟨Ab, cb, rfl, hrow⟩ := hs
  obtain ⟨kb, hk⟩ : ∃ x, (u32s co.dir).length = x := ⟨_, rfl⟩
  obtain ⟨b0, b1, b2, b3, b4, b5, bd⟩ := co
  rw [hk] at hrow ⊢
  have hs : RowF (newB wb1 wb2) wb2 (.slice Ab kb cb) (u32s bd) := ⟨Ab, cb, by rw [show (u32s bd).length = kb from hk], by rw [show (u32s bd).length = kb from hk]; exact hrow.1, hrow.2.1, by rw [show (u32s bd).length = kb from hk]; exact hrow.2.2.1, hrow.2.2.2⟩
  rw [show ckV ⟨b0, b1, b2, b3, b4, b5, bd⟩ (.slice Ab kb cb) = kV b0 b1 b2 b3 b4 b5 (.slice Ab kb cb) from rfl]
  obtain ⟨wb, hw⟩ : ∃ u, wb2.alloc (.cells #[.int .u32 b0, .int .u32 b1, .int .u32 b2, .int .i64 b3, .int .i64 b4, .int .i64 b5, .slice Ab kb cb] 40) = u := ⟨_, rfl⟩
  have hb6 : Below wb2.heap.size wb2 wb := by rw [← hw]; exact (Below.refl _ _).alloc (Nat.le_refl _) _
  obtain ⟨Bb, hBb⟩ : ∃ x, wb2.heap.size = x := ⟨_, rfl⟩
  have HXb : Hid (Blk wb Bb 40 [.int .u32 b0, .int .u32 b1, .int .u32 b2, .int .i64 b3, .int .i64 b4, .int .i64 b5, .slice Ab kb cb]) := Lib.hid (by rw [← hw, ← hBb]; exact heap_alloc_new wb2 _)
  have HKb3 := Lib.hid (HKb2.out.up hb6)
  have HSb : Hid (RowF (newB wb1 wb) wb (.slice Ab kb cb) (u32s bd)) := Lib.hid ((hs.up hb6).mono (fun j h => ⟨h.1, Nat.lt_of_lt_of_le h.2 hb6.size⟩))
  have HEb : Hid (slEr (newB wb1 wb) wb qb evb) := Lib.hid ((he.up hb6).mono (fun j h => ⟨h.1, Nat.lt_of_lt_of_le h.2 hb6.size⟩))
  have HBb := Lib.hid (below_all (below_all HB1.out hb) hb6)
  have HLTb := Lib.hid (lt_of_block HKb1.out.2)
  clear hb hs he hrow hk hb6 hco hq HB1
  have HXc := Lib.hid (HXa.out.up HBb.out (lt_of_block HXa.out))
  have HSc : Hid (RowF (newB wa1 wb) wb (.slice Aa ka ca) (u32s ad)) := Lib.hid ((HSa.out.up HBb.out).mono (fun j h => ⟨h.1, Nat.lt_of_lt_of_le h.2 HBb.out.size⟩))
  have HEc : Hid (slEr (newB wa1 wb) wb qa eva) := Lib.hid ((HEa.out.up HBb.out).mono (fun j h => ⟨h.1, Nat.lt_of_lt_of_le h.2 HBb.out.size⟩))
  clear HXa HSa HEa
  go_wp2_with fail
  refine (slIs_at 10 (by decide) HEb.out).mono ?_
  rintro r w' ⟨rfl, rfl⟩
  by_cases k1 : qb = 10
  · rw [decide_eq_true k1]
    have HR : Hid (S.newC = ⟨a0, a1, a2, a3, a4, a5, ad⟩ ∧ S.newE = qa) := Lib.hid (by
      have h := HNC.out.1 (by rw [HCEb.out.2]; exact k1)
      rw [HCEa.out.1, HCEa.out.2] at h
      exact h)
    clear k1
    have y0 := HXc.out.cell 0 (by simp)
    have y1 := HXc.out.cell 1 (by simp)
    have y2 := HXc.out.cell 2 (by simp)
    have y3 := HXc.out.cell 3 (by simp)
    have y4 := HXc.out.cell 4 (by simp)
    have y5 := HXc.out.cell 5 (by simp)
    have y6 := HXc.out.cell 6 (by simp)
    simp only [List.getElem_cons_zero, List.getElem_cons_succ] at y0 y1 y2 y3 y4 y5 y6
    have e0 := HKb3.out.2.cell 0 (by simp)
    have e1 := HKb3.out.2.cell 1 (by simp)
    have e2 := HKb3.out.2.cell 2 (by simp)
    have e3 := HKb3.out.2.cell 3 (by simp)
    have e4 := HKb3.out.2.cell 4 (by simp)
    have e5 := HKb3.out.2.cell 5 (by simp)
    have e6 := HKb3.out.2.cell 6 (by simp)
    have ef := fun k => HKb3.out.2.free k
    simp only [List.getElem_cons_zero, List.getElem_cons_succ] at e0 e1 e2 e3 e4 e5 e6
    go_wp2_with fail
    refine bodyPost_ret (v := .tuple #[kV a0 a1 a2 a3 a4 a5 (.slice Aa ka ca), eva]) (by simp [results, Tryz.results21, go_sem, e0, e1, e2, e3, e4, e5, e6]) rfl ?_
    rw [HR.out.1, HR.out.2]
    exact told_any HKb3.out.1 HLTa.out HSc.out HEc.out _ _ _ _ _ _ _
  · rw [decide_eq_false k1]
    have HQ1 : Hid (S.slE ((n : Int) - 1) ≠ 10) := Lib.hid (by rw [HCEb.out.2]; exact k1)
    clear k1
    go_wp2_with fail
    refine (slIs_at 10 (by decide) HEc.out).mono ?_
    rintro r w' ⟨rfl, rfl⟩
    by_cases k2 : qa = 10
    · rw [decide_eq_true k2]
      have HR : Hid (S.newC = ⟨b0, b1, b2, b3, b4, b5, bd⟩ ∧ S.newE = qb) := Lib.hid (by
        have h := HNC.out.2.1 HQ1.out (by rw [HCEa.out.2]; exact k2)
        rw [HCEb.out.1, HCEb.out.2] at h
        exact h)
      clear k2
      have y0 := HXb.out.cell 0 (by simp)
      have y1 := HXb.out.cell 1 (by simp)
      have y2 := HXb.out.cell 2 (by simp)
      have y3 := HXb.out.cell 3 (by simp)
      have y4 := HXb.out.cell 4 (by simp)
      have y5 := HXb.out.cell 5 (by simp)
      have y6 := HXb.out.cell 6 (by simp)
      simp only [List.getElem_cons_zero, List.getElem_cons_succ] at y0 y1 y2 y3 y4 y5 y6
      have e0 := HKb3.out.2.cell 0 (by simp)
      have e1 := HKb3.out.2.cell 1 (by simp)
      have e2 := HKb3.out.2.cell 2 (by simp)
      have e3 := HKb3.out.2.cell 3 (by simp)
      have e4 := HKb3.out.2.cell 4 (by simp)
      have e5 := HKb3.out.2.cell 5 (by simp)
      have e6 := HKb3.out.2.cell 6 (by simp)
      have ef := fun k => HKb3.out.2.free k
      simp only [List.getElem_cons_zero, List.getElem_cons_succ] at e0 e1 e2 e3 e4 e5 e6
      go_wp2_with fail
      refine bodyPost_ret (v := .tuple #[kV b0 b1 b2 b3 b4 b5 (.slice Ab kb cb), evb]) (by simp [results, Tryz.results21, go_sem, e0, e1, e2, e3, e4, e5, e6]) rfl ?_
      rw [HR.out.1, HR.out.2]
      exact told_any HKb3.out.1 HLTb.out HSb.out HEb.out _ _ _ _ _ _ _
    · rw [decide_eq_false k2]
      have HQ2 : Hid (S.slE ((n : Int) - 2) ≠ 10) := Lib.hid (by rw [HCEa.out.2]; exact k2)
      clear k2
      by_cases k3 : qa = 0
      · obtain rfl : eva = .nilIface := HEc.out.elim (fun x => x.2) (fun x => absurd k3 x.1)
        have HR : Hid (S.newE = 0 ∧ S.newC = if newerC ⟨a0, a1, a2, a3, a4, a5, ad⟩ ⟨b0, b1, b2, b3, b4, b5, bd⟩ = true then ⟨a0, a1, a2, a3, a4, a5, ad⟩ else ⟨b0, b1, b2, b3, b4, b5, bd⟩) := Lib.hid (by
          have h := HNC.out.2.2.2 HQ1.out (by rw [HCEa.out.2]; exact k3)
          rw [HCEa.out.1, HCEb.out.1] at h
          exact h)
        clear k3
        have y0 := HXc.out.cell 0 (by simp)
        have y1 := HXc.out.cell 1 (by simp)
        have y2 := HXc.out.cell 2 (by simp)
        have y3 := HXc.out.cell 3 (by simp)
        have y4 := HXc.out.cell 4 (by simp)
        have y5 := HXc.out.cell 5 (by simp)
        have y6 := HXc.out.cell 6 (by simp)
        simp only [List.getElem_cons_zero, List.getElem_cons_succ] at y0 y1 y2 y3 y4 y5 y6
        have z0 := HXb.out.cell 0 (by simp)
        have z1 := HXb.out.cell 1 (by simp)
        have z2 := HXb.out.cell 2 (by simp)
        have z3 := HXb.out.cell 3 (by simp)
        have z4 := HXb.out.cell 4 (by simp)
        have z5 := HXb.out.cell 5 (by simp)
        have z6 := HXb.out.cell 6 (by simp)
        simp only [List.getElem_cons_zero, List.getElem_cons_succ] at z0 z1 z2 z3 z4 z5 z6
        go_wp2_with fail
        refine (slnewer_at ⟨a0, a1, a2, a3, a4, a5, ad⟩ ⟨b0, b1, b2, b3, b4, b5, bd⟩ (.slice Aa ka ca) (.slice Ab kb cb) ⟨_, _, _, rfl⟩ ⟨_, _, _, rfl⟩ _).mono ?_
        rintro r wf ⟨rfl, hbf⟩
        have HKF := Lib.hid (HKb3.out.up hbf)
        have HBF := Lib.hid hbf
        clear hbf y0 z0 y1 z1 y2 z2 y3 z3 y4 z4 y5 z5 y6 z6
        by_cases k4 : newerC ⟨a0, a1, a2, a3, a4, a5, ad⟩ ⟨b0, b1, b2, b3, b4, b5, bd⟩ = true
        · rw [if_pos k4]
          have HR2 : Hid (S.newC = ⟨a0, a1, a2, a3, a4, a5, ad⟩) := Lib.hid (by rw [HR.out.2, if_pos k4])
          have HSF : Hid (RowF (newB wa1 wf) wf (.slice Aa ka ca) (u32s ad)) := Lib.hid ((HSc.out.up HBF.out).mono (fun j h => ⟨h.1, Nat.lt_of_lt_of_le h.2 HBF.out.size⟩))
          rw [show ckV ⟨a0, a1, a2, a3, a4, a5, ad⟩ (.slice Aa ka ca) = kV a0 a1 a2 a3 a4 a5 (.slice Aa ka ca) from rfl]
          clear k4
          have e0 := HKF.out.2.cell 0 (by simp)
          have e1 := HKF.out.2.cell 1 (by simp)
          have e2 := HKF.out.2.cell 2 (by simp)
          have e3 := HKF.out.2.cell 3 (by simp)
          have e4 := HKF.out.2.cell 4 (by simp)
          have e5 := HKF.out.2.cell 5 (by simp)
          have e6 := HKF.out.2.cell 6 (by simp)
          have ef := fun k => HKF.out.2.free k
          simp only [List.getElem_cons_zero, List.getElem_cons_succ] at e0 e1 e2 e3 e4 e5 e6
          go_wp2_with fail
          refine bodyPost_ret (v := .tuple #[kV a0 a1 a2 a3 a4 a5 (.slice Aa ka ca), .nilIface]) (by simp [results, Tryz.results21, go_sem, e0, e1, e2, e3, e4, e5, e6]) rfl ?_
          rw [HR2.out, HR.out.1]
          exact told_any HKF.out.1 HLTa.out HSF.out slEr.no _ _ _ _ _ _ _
        · rw [if_neg k4]
          have HR2 : Hid (S.newC = ⟨b0, b1, b2, b3, b4, b5, bd⟩) := Lib.hid (by rw [HR.out.2, if_neg k4])
          have HSF : Hid (RowF (newB wb1 wf) wf (.slice Ab kb cb) (u32s bd)) := Lib.hid ((HSb.out.up HBF.out).mono (fun j h => ⟨h.1, Nat.lt_of_lt_of_le h.2 HBF.out.size⟩))
          rw [show ckV ⟨b0, b1, b2, b3, b4, b5, bd⟩ (.slice Ab kb cb) = kV b0 b1 b2 b3 b4 b5 (.slice Ab kb cb) from rfl]
          clear k4
          have e0 := HKF.out.2.cell 0 (by simp)
          have e1 := HKF.out.2.cell 1 (by simp)
          have e2 := HKF.out.2.cell 2 (by simp)
          have e3 := HKF.out.2.cell 3 (by simp)
          have e4 := HKF.out.2.cell 4 (by simp)
          have e5 := HKF.out.2.cell 5 (by simp)
          have e6 := HKF.out.2.cell 6 (by simp)
          have ef := fun k => HKF.out.2.free k
          simp only [List.getElem_cons_zero, List.getElem_cons_succ] at e0 e1 e2 e3 e4 e5 e6
          go_wp2_with fail
          refine bodyPost_ret (v := .tuple #[kV b0 b1 b2 b3 b4 b5 (.slice Ab kb cb), .nilIface]) (by simp [results, Tryz.results21, go_sem, e0, e1, e2, e3, e4, e5, e6]) rfl ?_
          rw [HR2.out, HR.out.1]
          exact told_any HKF.out.1 HLTb.out HSF.out slEr.no _ _ _ _ _ _ _
      · have HR : Hid (S.newC = ChkS.zero ∧ S.newE = qa) := Lib.hid (by
          have h := HNC.out.2.2.1 HQ1.out HQ2.out (by rw [HCEa.out.2]; exact k3)
          rw [HCEa.out.2] at h
          exact h)
        obtain ⟨eb, he⟩ := slEr.some HEc.out k3
        subst he
        clear k3
        have e0 := HKb3.out.2.cell 0 (by simp)
        have e1 := HKb3.out.2.cell 1 (by simp)
        have e2 := HKb3.out.2.cell 2 (by simp)
        have e3 := HKb3.out.2.cell 3 (by simp)
        have e4 := HKb3.out.2.cell 4 (by simp)
        have e5 := HKb3.out.2.cell 5 (by simp)
        have e6 := HKb3.out.2.cell 6 (by simp)
        have ef := fun k => HKb3.out.2.free k
        simp only [List.getElem_cons_zero, List.getElem_cons_succ] at e0 e1 e2 e3 e4 e5 e6
        go_wp2_with fail
        refine bodyPost_ret (v := .tuple #[kV 0 0 0 0 0 0 (.slice none 0 0), .iface 143 (.pointer (some ⟨eb, 0, none⟩))]) (by simp [results, Tryz.results21, go_sem, e0, e1, e2, e3, e4, e5, e6]) rfl ?_
        rw [HR.out.1, HR.out.2]
        exact told_no HKb3.out.1 HLTa.out HEc.out _ _ _ _ _ _ _
end Go.Proofs.YthmpimjmajoimaaGreatDoor
namespace Go.Proofs.YthmpimjmajoimaaGreatDoor
open Go.RowKit

theorem slown_at (x0 x1 x2 x3 x4 x5 : Int) (A : Option Addr) (n c : Nat) (w : World) : Calls Tryz.prog 16 #[kV x0 x1 x2 x3 x4 x5 (.slice A n c)] w (fun r w' => r = .returned (kV x0 x1 x2 x3 x4 x5 (.slice A n c)) ∧ Below w.heap.size w w') := by
  go_enter Tryz.func16, Tryz.ntmps16
  go_wp2_with fail
  refine bodyPost_ret (v := kV x0 x1 x2 x3 x4 x5 (.slice A n c)) (by simp [results, Tryz.results16, go_sem]) rfl ?_
  exact ⟨rfl, ((Below.refl _ w).alloc (Nat.le_refl _) _).alloc (by simp) _⟩
theorem readB_lenS {S : DevS} (h : S.WF) (n p : Int) : (S.readB n p).length ≤ 33 := by
  have hall : ∀ b ∈ (S.zone n).pages, b.length ≤ 33 := by
    intro b hb
    unfold DevS.zone at hb
    rw [List.getD_eq_getElem?_getD] at hb
    by_cases hl : n.toNat < S.zones.length
    · rw [List.getElem?_eq_getElem hl, Option.getD_some] at hb
      have := ((h.pages _ (List.getElem_mem hl)).2.2 b hb).1
      omega
    · rw [List.getElem?_eq_none (by omega)] at hb
      simp [ZoneS.empty] at hb
  unfold DevS.readB
  split
  · rw [List.getD_eq_getElem?_getD]
    by_cases hp : p.toNat < (S.zone n).pages.length
    · rw [List.getElem?_eq_getElem hp, Option.getD_some]
      exact hall _ (List.getElem_mem hp)
    · rw [List.getElem?_eq_none (by omega)]
      simp
  · simp
theorem bytParts {F : Nat → Prop} {w : World} {A : Option Addr} {n c : Nat} {xs : List Int} (h : BytF F w (.slice A n c) xs) (hl : xs.length = n) : Rd w w.heap.size A xs := by
  subst hl
  obtain ⟨A', c', e, _, hr, _⟩ := h
  injection e with e1 _ _
  subst e1
  exact hr
set_option maxHeartbeats 2000000 in
set_option maxRecDepth 100000 in
theorem slalike_at (Z : ZBas) {F1 F2 : Nat → Prop} {w : World} {db rb zb cap : Nat} {zs : List Value} {S : DevS} (h : Z.D F1 w db S) (hr : RD F2 w rb zb cap zs S) (hg : Gl w) : Calls Tryz.prog 17 #[.pointer (some ⟨db, 0, none⟩), .pointer (some ⟨rb, 0, none⟩)] w (BoolB true w) := by
  have HH := Lib.hid h
  have HR := Lib.hid hr
  have HGL := Lib.hid hg
  obtain ⟨n, hn⟩ : ∃ n, S.zones.length = n := ⟨_, rfl⟩
  have hnb := hr.wf.z1
  rw [hn] at hnb
  obtain ⟨dn, hdn⟩ : ∃ p, S.done = p := ⟨_, rfl⟩
  obtain ⟨gg, hgg⟩ : ∃ p, S.gone = p := ⟨_, rfl⟩
  have hdb := lt_of_block hr.dev
  have pD := fun q : In (fun u => Below w.heap.size w u) => Z.down (Z.up HH.out q.ok)
  have pO := fun q : In (fun u => Below w.heap.size w u) => Z.ops (Z.up HH.out q.ok)
  have c3 := fun q : In (fun u => Below w.heap.size w u) => (q.ok.cell (p := ⟨rb, 3, none⟩) hdb).trans hr.c3
  have c4 := fun q : In (fun u => Below w.heap.size w u) => (q.ok.cell (p := ⟨rb, 4, none⟩) hdb).trans hr.c4
  rw [hdn] at pO c3
  rw [hgg] at pD c4
  have upB : ∀ {a b : World}, Below w.heap.size w a → Below a.heap.size a b → Below w.heap.size w b := fun h hb => below_all h hb
  have HN := Lib.hid hn
  clear h hr hn hdn hgg hg
  have qg : (gg != gg) = false := by simp
  go_enter Tryz.func17, Tryz.ntmps17
  go_wp2_with fail
  refine wp_region_in (fun u => Below w.heap.size w u) (Below.refl _ _).drew (by kernel_rfl) (by kernel_rfl) (fun ne => ?_)
  repeat (go_big_quiet_step (first
    | (go_at_call 45; with_reducible exact In.more upB (pD _))
    | (go_at_call 27; with_reducible exact In.more upB (pO _))))
  refine wpQuiet_nil ?_
  intro nq
  have HB := Lib.hid nq.ok
  generalize nq.w = w1 at *
  have k0 := (HB.out.cell (p := ⟨rb, 0, none⟩) hdb).trans HR.out.c0
  rw [HN.out] at k0
  clear pD pO c3 c4
  have hw2 : IntKind.i64.wrap ((n : Int) - 2) = (n : Int) - 2 := IntWalk.i64_in _ (by omega)
  by_cases hst : (0 : Int) ≤ (n : Int) - 2
  · go_wp2_with fail
    go_loopg [5] (n - (n - 2)) (fun q x wr => ∃ i : Nat, i ≤ n ∧ q = n - i ∧ x = .int .i64 (i : Int) ∧ Below w.heap.size w wr)
    case atStart => exact ⟨n - 2, by omega, rfl, congrArg (Value.int .i64) (by omega), HB.out⟩
    case round =>
      clear HB k0
      obtain ⟨i, hi, hq, rfl, hb⟩ := hrel
      have HQ := Lib.hid hq
      have HB := Lib.hid hb
      have k0 := (hb.cell (p := ⟨rb, 0, none⟩) hdb).trans HR.out.c0
      rw [HN.out] at k0
      clear hq hb
      by_cases hlt : i < n
      · go_wp2_with fail
        refine (Z.point i (Z.up HH.out HB.out)).mono ?_
        rintro r w4 ⟨rfl, hb⟩
        have HB4 := Lib.hid (below_all HB.out hb)
        clear hb
        go_wp2_with fail
        refine (rpoint_at i (HR.out.up HB4.out)).mono ?_
        rintro r w5 ⟨rfl, rfl⟩
        have hpt : S.point (i : Int) ≤ 16 := by
          have h1 := HR.out.wf.p1
          unfold DevS.point
          split
          · rename_i h2
            have := (HR.out.wf.pages _ (DevS.zone_mem h2)).1
            omega
          · omega
        obtain ⟨m, hm⟩ : ∃ m, S.point (i : Int) = m := ⟨_, rfl⟩
        rw [hm] at hpt
        have HM := Lib.hid hm
        rw [hm]
        clear hm
        go_wp2_with fail
        refine (Z.sure i (Z.up HH.out HB4.out)).mono ?_
        rintro r w6 ⟨rfl, hb⟩
        have HB6 := Lib.hid (below_all HB4.out hb)
        clear hb
        go_wp2_with fail
        refine (rsure_at i (HR.out.up HB6.out)).mono ?_
        rintro r w7 ⟨rfl, rfl⟩
        generalize (S.sureOf (i : Int) : Int) = st
        go_wp2_with fail
        refine (rpoint_at i (HR.out.up HB6.out)).mono ?_
        rintro r w8 ⟨rfl, rfl⟩
        rw [HM.out]
        go_wp2_with fail
        go_loopg [62] m (fun q x wr => ∃ k : Nat, k ≤ m ∧ q = m - k ∧ x = .int .i64 (k : Int) ∧ Below w.heap.size w wr)
        case atStart => exact ⟨0, by omega, by omega, rfl, HB6.out⟩
        case round =>
          clear HB HB4 HB6 k0
          obtain ⟨k, hk, hq2, rfl, hb⟩ := hrel
          have HQ2 := Lib.hid hq2
          have HB := Lib.hid hb
          have k0 := (hb.cell (p := ⟨rb, 0, none⟩) hdb).trans HR.out.c0
          rw [HN.out] at k0
          clear hq2 hb
          by_cases hkl : k < m
          · go_wp2_with fail
            refine (Z.read i k (Z.up HH.out HB.out)).mono ?_
            rintro r w1 ⟨v1, rfl, hv, hb⟩
            have HV1 := Lib.hid hv
            obtain ⟨A1, c1', rfl, _⟩ := hv
            have HB1 := Lib.hid (below_all HB.out hb)
            clear hb
            go_wp2_with fail
            refine (rread_at i k (HR.out.up HB1.out)).mono ?_
            rintro r w2 ⟨v2, rfl, hv, hb⟩
            have HV2 := Lib.hid hv
            have HV1' := Lib.hid (HV1.out.up hb)
            obtain ⟨A2, c2', rfl, _⟩ := hv
            have HB2 := Lib.hid (below_all HB1.out hb)
            clear hb
            have hl := readB_lenS HR.out.wf i k
            obtain ⟨xs, hxs⟩ : ∃ xs, S.readB (i : Int) (k : Int) = xs := ⟨_, rfl⟩
            obtain ⟨ee, hee⟩ : ∃ ee, S.readE (i : Int) (k : Int) = ee := ⟨_, rfl⟩
            obtain ⟨ml, hml⟩ : ∃ m, xs.length = m := ⟨_, rfl⟩
            rw [hxs] at HV1' HV2 hl
            rw [hxs, hee, hml]
            rw [hml] at hl HV1' HV2
            clear HV1 hxs hee
            go_wp2_with fail
            refine (same_is (bytParts HV1'.out hml) (bytParts HV2.out hml) hml hml (by omega)).mono ?_
            rintro r w3 ⟨rfl, hb⟩
            have HB3 := Lib.hid (below_all HB2.out hb)
            have hd : decide (xs = xs) = true := by simp
            rw [hd]
            clear hb
            have hne : (ee != ee) = false := by simp
            go_wp2_with fail
            refine (code_is ee (HGL.out.below HB3.out)).mono ?_
            rintro r w4 ⟨rfl, hb⟩
            have HB4 := Lib.hid (below_all HB3.out hb)
            clear hb
            go_wp2_with fail
            go_roundg (m - (k + 1))
            case rel => exact ⟨k + 1, by omega, rfl, by go_num, HB4.out⟩
            case measure => have := HQ2.out; omega
          · obtain rfl : k = m := by omega
            go_wp2_with fail
            go_roundg (n - (i + 1))
            case rel => exact ⟨i + 1, by omega, rfl, by go_num, HB.out⟩
            case measure => have := HQ.out; omega
      · obtain rfl : i = n := by omega
        go_wp2_with fail
        go_ret
        exact ⟨rfl, HB.out⟩
  · go_wp2_with fail
    go_loopg [5] n (fun q x wr => ∃ i : Nat, i ≤ n ∧ q = n - i ∧ x = .int .i64 (i : Int) ∧ Below w.heap.size w wr)
    case atStart => exact ⟨0, by omega, rfl, congrArg (Value.int .i64) (by omega), HB.out⟩
    case round =>
      clear HB k0
      obtain ⟨i, hi, hq, rfl, hb⟩ := hrel
      have HQ := Lib.hid hq
      have HB := Lib.hid hb
      have k0 := (hb.cell (p := ⟨rb, 0, none⟩) hdb).trans HR.out.c0
      rw [HN.out] at k0
      clear hq hb
      by_cases hlt : i < n
      · go_wp2_with fail
        refine (Z.point i (Z.up HH.out HB.out)).mono ?_
        rintro r w4 ⟨rfl, hb⟩
        have HB4 := Lib.hid (below_all HB.out hb)
        clear hb
        go_wp2_with fail
        refine (rpoint_at i (HR.out.up HB4.out)).mono ?_
        rintro r w5 ⟨rfl, rfl⟩
        have hpt : S.point (i : Int) ≤ 16 := by
          have h1 := HR.out.wf.p1
          unfold DevS.point
          split
          · rename_i h2
            have := (HR.out.wf.pages _ (DevS.zone_mem h2)).1
            omega
          · omega
        obtain ⟨m, hm⟩ : ∃ m, S.point (i : Int) = m := ⟨_, rfl⟩
        rw [hm] at hpt
        have HM := Lib.hid hm
        rw [hm]
        clear hm
        go_wp2_with fail
        refine (Z.sure i (Z.up HH.out HB4.out)).mono ?_
        rintro r w6 ⟨rfl, hb⟩
        have HB6 := Lib.hid (below_all HB4.out hb)
        clear hb
        go_wp2_with fail
        refine (rsure_at i (HR.out.up HB6.out)).mono ?_
        rintro r w7 ⟨rfl, rfl⟩
        generalize (S.sureOf (i : Int) : Int) = st
        go_wp2_with fail
        refine (rpoint_at i (HR.out.up HB6.out)).mono ?_
        rintro r w8 ⟨rfl, rfl⟩
        rw [HM.out]
        go_wp2_with fail
        go_loopg [62] m (fun q x wr => ∃ k : Nat, k ≤ m ∧ q = m - k ∧ x = .int .i64 (k : Int) ∧ Below w.heap.size w wr)
        case atStart => exact ⟨0, by omega, by omega, rfl, HB6.out⟩
        case round =>
          clear HB HB4 HB6 k0
          obtain ⟨k, hk, hq2, rfl, hb⟩ := hrel
          have HQ2 := Lib.hid hq2
          have HB := Lib.hid hb
          have k0 := (hb.cell (p := ⟨rb, 0, none⟩) hdb).trans HR.out.c0
          rw [HN.out] at k0
          clear hq2 hb
          by_cases hkl : k < m
          · go_wp2_with fail
            refine (Z.read i k (Z.up HH.out HB.out)).mono ?_
            rintro r w1 ⟨v1, rfl, hv, hb⟩
            have HV1 := Lib.hid hv
            obtain ⟨A1, c1', rfl, _⟩ := hv
            have HB1 := Lib.hid (below_all HB.out hb)
            clear hb
            go_wp2_with fail
            refine (rread_at i k (HR.out.up HB1.out)).mono ?_
            rintro r w2 ⟨v2, rfl, hv, hb⟩
            have HV2 := Lib.hid hv
            have HV1' := Lib.hid (HV1.out.up hb)
            obtain ⟨A2, c2', rfl, _⟩ := hv
            have HB2 := Lib.hid (below_all HB1.out hb)
            clear hb
            have hl := readB_lenS HR.out.wf i k
            obtain ⟨xs, hxs⟩ : ∃ xs, S.readB (i : Int) (k : Int) = xs := ⟨_, rfl⟩
            obtain ⟨ee, hee⟩ : ∃ ee, S.readE (i : Int) (k : Int) = ee := ⟨_, rfl⟩
            obtain ⟨ml, hml⟩ : ∃ m, xs.length = m := ⟨_, rfl⟩
            rw [hxs] at HV1' HV2 hl
            rw [hxs, hee, hml]
            rw [hml] at hl HV1' HV2
            clear HV1 hxs hee
            go_wp2_with fail
            refine (same_is (bytParts HV1'.out hml) (bytParts HV2.out hml) hml hml (by omega)).mono ?_
            rintro r w3 ⟨rfl, hb⟩
            have HB3 := Lib.hid (below_all HB2.out hb)
            have hd : decide (xs = xs) = true := by simp
            rw [hd]
            clear hb
            have hne : (ee != ee) = false := by simp
            go_wp2_with fail
            refine (code_is ee (HGL.out.below HB3.out)).mono ?_
            rintro r w4 ⟨rfl, hb⟩
            have HB4 := Lib.hid (below_all HB3.out hb)
            clear hb
            go_wp2_with fail
            go_roundg (m - (k + 1))
            case rel => exact ⟨k + 1, by omega, rfl, by go_num, HB4.out⟩
            case measure => have := HQ2.out; omega
          · obtain rfl : k = m := by omega
            go_wp2_with fail
            go_roundg (n - (i + 1))
            case rel => exact ⟨i + 1, by omega, rfl, by go_num, HB.out⟩
            case measure => have := HQ.out; omega
      · obtain rfl : i = n := by omega
        go_wp2_with fail
        go_ret
        exact ⟨rfl, HB.out⟩
end Go.Proofs.YthmpimjmajoimaaGreatDoor
