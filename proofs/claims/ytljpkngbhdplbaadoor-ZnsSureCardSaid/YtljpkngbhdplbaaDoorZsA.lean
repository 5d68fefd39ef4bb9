/-
  What is sure stays, and a page that isn't torn is as it was written: mathematics.
-/
import Derived.Test.YtljpkngbhdplbaaDoorZnsX
namespace Go.Proofs.YtljpkngbhdplbaaDoor
open Go.RowKit

/-- A page that was written: where, and what. -/
structure WrS where
  zone : Int
  page : Int
  b : List Int
/-- It is there, or torn. -/
structure WrI (S : DevS) (k : WrS) : Prop where
  is : S.is k.zone = true
  p0 : 0 ≤ k.page
  p1 : k.page < (S.point k.zone : Int)
  b : k.b.length = 33
  at_ : ((S.zone k.zone).pages.getD k.page.toNat []) = k.b ∨ ((S.zone k.zone).pages.getD k.page.toNat []).length = 0
/-- What is looked at behind an act: is the page still there? -/
def stillB (S' : DevS) (x : ActS) (e : Int) (k : WrS) : Bool := (decide (x.Do ≠ 2) || decide (e ≠ 0) || decide (k.zone ≠ x.zone)) && decide (k.page < (S'.point k.zone : Int))
theorem point_of {S : DevS} {n : Int} (h : S.is n = true) : S.point n = (S.zone n).pages.length := by unfold DevS.point; rw [if_pos h]
theorem put_zone_self {S : DevS} {m : Int} {z : ZoneS} (hm : S.is m = true) : (S.put m z).zone m = z := by
  obtain ⟨h0, h1⟩ := DevS.is_iff.1 hm
  simp only [DevS.zone, DevS.put, List.getD_eq_getElem?_getD]
  rw [List.getElem?_set_self (by omega)]
  rfl
theorem put_zone_int {S : DevS} {m n : Int} {z : ZoneS} (hm : S.is m = true) (hn : S.is n = true) (hne : n ≠ m) : (S.put m z).zone n = S.zone n := by
  obtain ⟨k, rfl⟩ := Int.eq_ofNat_of_zero_le (DevS.is_iff.1 hn).1
  exact put_zone hm hne
theorem is_put {S : DevS} (m n : Int) (z : ZoneS) : (S.put m z).is n = S.is n := by unfold DevS.is; rw [put_len]
theorem WrI.same {S T : DevS} {k : WrS} (h : WrI S k) (hi : T.is k.zone = S.is k.zone) (hp : (T.zone k.zone).pages = (S.zone k.zone).pages) : WrI T k := by
  have hi2 : T.is k.zone = true := hi.trans h.is
  exact ⟨hi2, h.p0, by rw [point_of hi2, hp, ← point_of h.is]; exact h.p1, h.b, by rw [hp]; exact h.at_⟩
theorem WrI.may {S : DevS} {k : WrS} (h : WrI S k) (e : Int) : WrI (S.mayS e) k := h.same (is_may _ _) (by rw [may_zone])
theorem app_get {l : List (List Int)} {b : List Int} {p : Nat} (h : p < l.length) : (l ++ [b]).getD p [] = l.getD p [] := by
  simp only [List.getD_eq_getElem?_getD]
  rw [List.getElem?_append_left h]
theorem crash_zone {S : DevS} {keep : List Int} {tear : List Bool} {n : Int} (h : S.is n = true) : (S.crash keep tear).zone n = DevS.crashZ (S.zone n) (keep.getD n.toNat 0) (tear.getD n.toNat false) ∧ (S.crash keep tear).is n = true := by
  obtain ⟨h0, h1⟩ := DevS.is_iff.1 h
  have hl : n.toNat < S.zones.length := by omega
  refine ⟨?_, ?_⟩
  · simp only [DevS.zone, DevS.crash, List.getD_eq_getElem?_getD]
    rw [List.getElem?_map, List.getElem?_range hl]
    rfl
  · unfold DevS.is at h ⊢
    rw [show (S.crash keep tear).zones.length = S.zones.length from actS_zones S ⟨6, 0, 0, [], keep, tear⟩]
    exact h
theorem flush_zone_int {S : DevS} {n : Int} (hi : S.is n = true) : (({ S with zones := S.zones.map DevS.allSure } : DevS).zone n).pages = (S.zone n).pages := by
  obtain ⟨k, rfl⟩ := Int.eq_ofNat_of_zero_le (DevS.is_iff.1 hi).1
  exact flush_zone S k (by have := (DevS.is_iff.1 hi).2; omega)
/-- A page that was written, and is still looked at behind an act, is there or torn. -/
theorem wr_act {S : DevS} {x : ActS} {k : WrS} (hwf : S.WF) (h : WrI S k) (hs : stillB (actS S x) x (actT S x).e k = true) : WrI (actS S x) k := by
  simp only [stillB, Bool.and_eq_true, Bool.or_eq_true, decide_eq_true_eq] at hs
  by_cases h0 : x.Do = 0
  · rw [(act_zero h0).1]
    unfold DevS.app
    split
    · rename_i he
      have hi := (DevS.app_ok (DevS.mayE_ok he).1).1
      have hm := h.may (S.appE x.zone x.B)
      by_cases hz : k.zone = x.zone
      · refine ⟨by rw [is_put]; exact hm.is, h.p0, ?_, h.b, ?_⟩
        · rw [point_of (by rw [is_put]; exact hm.is), hz, put_zone_self (by rw [is_may]; exact hi)]
          have := h.p1
          rw [point_of h.is, hz] at this
          simp only [List.length_append, List.length_cons, List.length_nil]
          omega
        · have hp := h.p1
          rw [point_of h.is, hz] at hp
          rw [hz, put_zone_self (by rw [is_may]; exact hi), app_get (by have := h.p0; omega), ← hz]
          exact h.at_
      · exact hm.same (is_put _ _ _) (by rw [put_zone_int (by rw [is_may]; exact hi) hm.is hz])
    · exact h.may _
  · by_cases h2 : x.Do = 2
    · rw [(act_two h2).1]
      unfold DevS.reset
      split
      · rename_i he
        have hi : S.is x.zone = true := by
          have := (DevS.mayE_ok he).1
          unfold DevS.resetE at this
          split at this
          · assumption
          · omega
        have hm := h.may (S.resetE x.zone)
        have hz : k.zone ≠ x.zone := by
          have := hs.1
          rw [(act_two h2).2] at this
          simp only at this
          rw [he] at this
          rcases this with (this | this) | this
          · exact absurd h2 this
          · exact absurd rfl this
          · exact this
        exact hm.same (is_put _ _ _) (by rw [put_zone_int (by rw [is_may]; exact hi) hm.is hz])
      · exact h.may _
    · by_cases h3 : x.Do = 3
      · rw [(act_three h3).1]
        unfold DevS.finish
        split
        · rename_i he
          have hi := DevS.finE_ok (DevS.mayE_ok he).1
          have hm := h.may (S.finE x.zone)
          by_cases hz : k.zone = x.zone
          · exact hm.same (is_put _ _ _) (by rw [hz, put_zone_self (by rw [is_may]; exact hi), may_zone])
          · exact hm.same (is_put _ _ _) (by rw [put_zone_int (by rw [is_may]; exact hi) hm.is hz])
        · exact h.may _
      · by_cases h4 : x.Do = 4
        · rw [(act_four h4).1]
          unfold DevS.flush
          split
          · have hm := h.may 0
            have hz2 : (S.mayS 0).zones = S.zones := DevS.mayS_zones S 0
            refine hm.same (by unfold DevS.is; simp [hz2]) ?_
            have := flush_zone_int hm.is
            rw [hz2] at this
            exact this
          · exact h.may _
        · by_cases h5 : x.Do = 5
          · rw [(act_five h5).1]
            exact h.same rfl rfl
          · by_cases h6 : x.Do = 6
            · rw [(act_six h6).1] at hs ⊢
              obtain ⟨hz, hi⟩ := crash_zone (keep := x.keep) (tear := x.tear) h.is
              have hsu := (hwf.pages _ (DevS.zone_mem h.is)).2.1
              have hp := hs.2
              have hp0 := h.p0
              refine ⟨hi, h.p0, hp, h.b, ?_⟩
              rw [point_of hi, hz] at hp
              rw [hz]
              generalize x.keep.getD k.zone.toNat 0 = kk at *
              generalize x.tear.getD k.zone.toNat false = tt at *
              simp only [DevS.crashZ] at hp ⊢
              have hst := DevS.stays_le hsu kk
              unfold DevS.left1 at hp ⊢
              generalize DevS.stays (S.zone k.zone) kk = st at *
              obtain ⟨pg, hpg⟩ := Int.eq_ofNat_of_zero_le hp0
              have hat := h.at_
              rw [hpg] at hp hat ⊢
              simp only [Int.toNat_natCast, List.getD_eq_getElem?_getD] at hp hat ⊢
              by_cases hlt : pg < st
              · rw [List.getElem?_append_left (by rw [List.length_take]; omega), List.getElem?_take, if_pos hlt]
                exact hat
              · refine .inr ?_
                rw [List.getElem?_append_right (by rw [List.length_take]; omega)]
                split
                · rcases hq : pg - (List.take st (S.zone k.zone).pages).length with _ | q
                  · simp
                  · simp
                · simp
            · by_cases h1 : x.Do = 1
              · rw [(act_one h1).1]
                exact h
              · rw [(act_else h0 h1 h2 h3 h4 h5 h6).1]
                exact h
/-- What was just written is there. -/
theorem wr_new {S : DevS} {x : ActS} (h0 : x.Do = 0) (he : (actT S x).e = 0) : WrI (actS S x) ⟨x.zone, (actT S x).n, x.B⟩ := by
  rw [(act_zero h0).2] at he ⊢
  rw [(act_zero h0).1]
  simp only at he ⊢
  obtain ⟨hi, hb, _⟩ := DevS.app_ok (DevS.mayE_ok he).1
  have e : S.app x.zone x.B = (S.mayS (S.appE x.zone x.B)).put x.zone { S.zone x.zone with pages := (S.zone x.zone).pages ++ [x.B] } := by
    unfold DevS.app
    rw [if_pos he]
  have en : S.appN x.zone x.B = ((S.zone x.zone).pages.length : Int) := by
    unfold DevS.appN
    rw [if_pos he]
  rw [e, en]
  have hi2 : ((S.mayS (S.appE x.zone x.B)).put x.zone { S.zone x.zone with pages := (S.zone x.zone).pages ++ [x.B] }).is x.zone = true := by rw [is_put, is_may]; exact hi
  have hz := put_zone_self (S := S.mayS (S.appE x.zone x.B)) (m := x.zone) (z := { S.zone x.zone with pages := (S.zone x.zone).pages ++ [x.B] }) (by rw [is_may]; exact hi)
  refine ⟨hi2, Int.natCast_nonneg _, by rw [point_of hi2, hz]; simp; omega, hb, .inl ?_⟩
  simp only [hz, Int.toNat_natCast, List.getD_eq_getElem?_getD]
  rw [List.getElem?_append_right (by omega)]
  simp
theorem wr_new_still {S : DevS} {x : ActS} (h0 : x.Do = 0) (he : (actT S x).e = 0) : stillB (actS S x) x (actT S x).e ⟨x.zone, (actT S x).n, x.B⟩ = true := by
  have h := wr_new h0 he
  simp only [stillB, Bool.and_eq_true, Bool.or_eq_true, decide_eq_true_eq]
  exact ⟨.inl (.inl (by omega)), h.p1⟩
/-- What a page reads as at last. -/
theorem wr_read {S : DevS} {k : WrS} (hwf : S.WF) (h : WrI S k) (hg : S.gone = false) : S.readE k.zone k.page = 6 ∨ (S.readE k.zone k.page = 0 ∧ S.readB k.zone k.page = k.b) := by
  have hp := h.p1
  have hp0 := h.p0
  have hz := (hwf.pages _ (DevS.zone_mem h.is)).1
  rw [point_of h.is] at hp
  have e : S.readE k.zone k.page = if ((S.zone k.zone).pages.getD k.page.toNat []).length = 0 then 6 else 0 := by
    unfold DevS.readE
    rw [hg, if_neg (by decide), if_neg (by simp [h.is]; omega), if_neg (by omega)]
  rcases h.at_ with ha | ha
  · refine .inr ?_
    have hb := h.b
    have e0 : S.readE k.zone k.page = 0 := by
      rw [e, ha, if_neg (by omega)]
    refine ⟨e0, ?_⟩
    unfold DevS.readB
    rw [if_pos e0]
    exact ha
  · exact .inl (by rw [e, if_pos ha])
/-- What is sure stays; no more is sure than there is; behind a crash all is. -/
theorem sure_le {S : DevS} (h : S.WF) (n : Int) : S.sureOf n ≤ S.point n := by
  unfold DevS.sureOf DevS.point
  split
  · rename_i hi
    exact (h.pages _ (DevS.zone_mem hi)).2.1
  · omega
theorem sure_may (S : DevS) (e n : Int) : (S.mayS e).sureOf n = S.sureOf n := by unfold DevS.sureOf; rw [is_may, may_zone]
theorem sure_act {S : DevS} {x : ActS} (hwf : S.WF) (h2 : x.Do ≠ 2) (n : Int) : S.sureOf n ≤ (actS S x).sureOf n := by
  by_cases hi : S.is n = true
  · by_cases h0 : x.Do = 0
    · rw [(act_zero h0).1]
      unfold DevS.app
      split
      · rename_i he
        have hx := (DevS.app_ok (DevS.mayE_ok he).1).1
        by_cases hz : n = x.zone
        · subst hz
          unfold DevS.sureOf
          rw [is_put, is_may, if_pos hi, if_pos hi, put_zone_self (by rw [is_may]; exact hi)]
          exact Nat.le_refl _
        · unfold DevS.sureOf
          rw [is_put, is_may, if_pos hi, if_pos hi, put_zone_int (by rw [is_may]; exact hx) (by rw [is_may]; exact hi) hz, may_zone]
          exact Nat.le_refl _
      · rw [sure_may]
        exact Nat.le_refl _
    · by_cases h3 : x.Do = 3
      · rw [(act_three h3).1]
        unfold DevS.finish
        split
        · rename_i he
          have hx := DevS.finE_ok (DevS.mayE_ok he).1
          by_cases hz : n = x.zone
          · subst hz
            unfold DevS.sureOf
            rw [is_put, is_may, if_pos hi, if_pos hi, put_zone_self (by rw [is_may]; exact hi)]
            exact Nat.le_refl _
          · unfold DevS.sureOf
            rw [is_put, is_may, if_pos hi, if_pos hi, put_zone_int (by rw [is_may]; exact hx) (by rw [is_may]; exact hi) hz, may_zone]
            exact Nat.le_refl _
        · rw [sure_may]
          exact Nat.le_refl _
      · by_cases h4 : x.Do = 4
        · rw [(act_four h4).1]
          unfold DevS.flush
          split
          · obtain ⟨k, rfl⟩ := Int.eq_ofNat_of_zero_le (DevS.is_iff.1 hi).1
            have hk : k < S.zones.length := by have := (DevS.is_iff.1 hi).2; omega
            have hsu := (hwf.pages _ (DevS.zone_mem hi)).2.1
            rw [DevS.zone_out hi] at hsu
            have hi2 : ({ S.mayS 0 with zones := S.zones.map DevS.allSure } : DevS).is (k : Int) = true := by
              unfold DevS.is at hi ⊢
              simpa using hi
            unfold DevS.sureOf
            rw [if_pos hi, if_pos hi2, DevS.zone_out hi, DevS.zone_out hi2]
            simpa [DevS.allSure] using hsu
          · rw [sure_may]
            exact Nat.le_refl _
        · by_cases h5 : x.Do = 5
          · rw [(act_five h5).1]
            exact Nat.le_refl _
          · by_cases h6 : x.Do = 6
            · rw [(act_six h6).1]
              obtain ⟨hz, hi2⟩ := crash_zone (keep := x.keep) (tear := x.tear) hi
              have hsu := (hwf.pages _ (DevS.zone_mem hi)).2.1
              have hst := DevS.stays_le hsu (x.keep.getD n.toNat 0)
              unfold DevS.sureOf
              rw [if_pos hi, if_pos hi2, hz]
              simp only [DevS.crashZ, DevS.left1, List.length_append, List.length_take]
              omega
            · by_cases h1 : x.Do = 1
              · rw [(act_one h1).1]
                exact Nat.le_refl _
              · rw [(act_else h0 h1 h2 h3 h4 h5 h6).1]
                exact Nat.le_refl _
  · unfold DevS.sureOf
    rw [if_neg hi]
    exact Nat.zero_le _
theorem sure_crash {S : DevS} {x : ActS} (h6 : x.Do = 6) (n : Int) : (actS S x).sureOf n = (actS S x).point n := by
  rw [(act_six h6).1]
  unfold DevS.sureOf DevS.point
  split
  · rename_i hi
    exact crash_sure S x.keep x.tear _ (DevS.zone_mem hi)
  · rfl
end Go.Proofs.YtljpkngbhdplbaaDoor
