/-
  Plain mathematics of slots: the device behind a write, call by call; behind a crash; the newest one; slots that take turns.
-/
import Derived.Test.YthmpimjmajoimaaGreatDoorSw21
namespace Go.Proofs.YthmpimjmajoimaaGreatDoor
namespace DevS
theorem zone_put {S : DevS} {n m : Int} {z : ZoneS} (hn : S.is n = true) (hm : S.is m = true) : (S.put n z).zone m = if m = n then z else S.zone m := by
  obtain ⟨h0, h1⟩ := is_iff.1 hn
  obtain ⟨h2, h3⟩ := is_iff.1 hm
  unfold put zone
  simp only [List.getD_eq_getElem?_getD]
  by_cases e : m = n
  · rw [if_pos e, e, List.getElem?_set_self (by omega)]
    rfl
  · rw [if_neg e, List.getElem?_set_ne (by omega)]
theorem zone_mayS (S : DevS) (e n : Int) : (S.mayS e).zone n = S.zone n := by unfold zone; rw [mayS_zones]
theorem is_mayS (S : DevS) (e n : Int) : (S.mayS e).is n = S.is n := by unfold is; rw [mayS_zones]
theorem len_put (S : DevS) (n : Int) (z : ZoneS) : (S.put n z).zones.length = S.zones.length := by unfold put; simp
theorem may_zero {S : DevS} (h : S.gone = false) : (S.mayE 0 = 0 ∧ (S.mayS 0).gone = false ∧ (S.left < 0 → (S.mayS 0).left = S.left)) ∨ (S.mayE 0 = 7 ∧ (S.mayS 0).gone = true ∧ ¬ S.left < 0) := by
  have e1 : S.mayE 0 = if S.left = 0 then 7 else 0 := by
    unfold mayE
    rw [if_neg (by simp [h]), if_neg (by decide)]
  have e2 : S.mayS 0 = if S.left = 0 then { S with gone := true } else { S with left := if 0 < S.left then S.left - 1 else S.left, done := S.done + 1 } := by
    unfold mayS
    rw [if_neg (by simp [h]), if_neg (by decide)]
  rw [e1, e2]
  by_cases h0 : S.left = 0
  · rw [if_pos h0, if_pos h0]
    exact .inr ⟨rfl, rfl, by omega⟩
  · rw [if_neg h0, if_neg h0]
    refine .inl ⟨rfl, h, fun hl => ?_⟩
    show (if 0 < S.left then S.left - 1 else S.left) = S.left
    rw [if_neg (by omega)]
/-- What stays of a device, zone zi apart. -/
structure Like (S S' : DevS) (zi : Int) (f : ZoneS → ZoneS) : Prop where
  len : S'.zones.length = S.zones.length
  p : S'.P = S.P
  far : ∀ j, S.is j = true → j ≠ zi → S'.zone j = f (S.zone j)
theorem Like.is {S S' : DevS} {zi : Int} {f : ZoneS → ZoneS} (h : Like S S' zi f) (j : Int) : S'.is j = S.is j := by unfold DevS.is; rw [h.len]
theorem Like.trans {S S1 S2 : DevS} {zi : Int} {f g : ZoneS → ZoneS} (h : Like S S1 zi f) (k : Like S1 S2 zi g) : Like S S2 zi (fun z => g (f z)) :=
  ⟨k.len.trans h.len, k.p.trans h.p, fun j hj hne => by rw [k.far j (by rw [h.is]; exact hj) hne, h.far j hj hne]⟩
theorem like_mayS (S : DevS) (e zi : Int) : Like S (S.mayS e) zi id := ⟨by rw [mayS_zones], mayS_P S e, fun j _ _ => zone_mayS S e j⟩
theorem like_put {S : DevS} {zi : Int} (h : S.is zi = true) (z : ZoneS) : Like S (S.put zi z) zi id := ⟨len_put S zi z, rfl, fun j hj hne => by rw [zone_put h hj, if_neg hne]; rfl⟩
/-- A page that is appended where there is room. -/
theorem app_to {S : DevS} {zi : Int} {b : List Int} (hi : S.is zi = true) (hg : S.gone = false) (hl : (S.zone zi).pages.length < S.P) (hf : (S.zone zi).fin = false) (hb : b.length = 33) :
    Like S (S.app zi b) zi id ∧ ((S.mayE (S.appE zi b) = 0 ∧ (S.app zi b).gone = false ∧ (S.app zi b).zone zi = { S.zone zi with pages := (S.zone zi).pages ++ [b] } ∧ (S.left < 0 → (S.app zi b).left = S.left)) ∨
      (S.mayE (S.appE zi b) = 7 ∧ (S.app zi b).gone = true ∧ (S.app zi b).zone zi = S.zone zi ∧ ¬ S.left < 0)) := by
  have he : S.appE zi b = 0 := by
    have hs : S.state zi ≠ 2 := by
      unfold state point
      rw [if_pos hi]
      split
      · decide
      · rw [hf]
        have : ¬ (S.zone zi).pages.length = S.P := by omega
        simp [this]
    unfold appE
    rw [hi, if_neg (by simp [hb]), if_neg hs]
  unfold app
  rw [he]
  rcases may_zero hg with ⟨h1, h2, h3⟩ | ⟨h1, h2, h3⟩
  · rw [if_pos h1]
    have hi2 : (S.mayS 0).is zi = true := by rw [is_mayS]; exact hi
    refine ⟨(like_mayS S 0 zi).trans (like_put hi2 _), .inl ⟨h1, h2, ?_, h3⟩⟩
    rw [zone_put hi2 hi2, if_pos rfl]
  · rw [if_neg (by omega)]
    exact ⟨like_mayS S 0 zi, .inr ⟨h1, h2, zone_mayS S 0 zi, h3⟩⟩
theorem appL_to {zi : Int} : ∀ (l : List (List Int)) {S : DevS}, S.is zi = true → S.gone = false → (S.zone zi).pages.length + l.length ≤ S.P → (S.zone zi).fin = false → (∀ b ∈ l, b.length = 33) →
    Like S (S.appL zi l).1 zi id ∧ (((S.appL zi l).2 = 0 ∧ (S.appL zi l).1.gone = false ∧ (S.appL zi l).1.zone zi = { S.zone zi with pages := (S.zone zi).pages ++ l } ∧ (S.left < 0 → (S.appL zi l).1.left = S.left)) ∨
      ((S.appL zi l).2 = 7 ∧ (S.appL zi l).1.gone = true ∧ (∃ t, t ≤ l.length ∧ (S.appL zi l).1.zone zi = { S.zone zi with pages := (S.zone zi).pages ++ l.take t }) ∧ ¬ S.left < 0))
  | [], S, hi, hg, _, _, _ => ⟨⟨rfl, rfl, fun _ _ _ => rfl⟩, .inl ⟨rfl, hg, by simp [appL], fun _ => rfl⟩⟩
  | b :: r, S, hi, hg, hl, hf, hb => by
    rw [List.length_cons] at hl
    obtain ⟨k1, k2⟩ := app_to hi hg (b := b) (by omega) hf (hb b (by simp))
    unfold appL
    rcases k2 with ⟨e1, e2, e3, e4⟩ | ⟨e1, e2, e3, e4⟩
    · rw [if_pos e1]
      obtain ⟨m1, m2⟩ := appL_to r (S := S.app zi b) (by rw [k1.is]; exact hi) e2 (by rw [e3, k1.p]; simp; omega) (by rw [e3]; exact hf) (fun x hx => hb x (by simp [hx]))
      refine ⟨k1.trans m1, ?_⟩
      rcases m2 with ⟨f1, f2, f3, f4⟩ | ⟨f1, f2, ⟨t, ht, f3⟩, f4⟩
      · refine .inl ⟨f1, f2, ?_, fun h => by rw [f4 (by rw [e4 h]; exact h), e4 h]⟩
        rw [f3, e3]
        simp
      · refine .inr ⟨f1, f2, ⟨t + 1, by rw [List.length_cons]; omega, ?_⟩, fun h => f4 (by rw [e4 h]; exact h)⟩
        rw [f3, e3]
        simp
    · rw [if_neg (by omega)]
      exact ⟨k1, .inr ⟨e1, e2, ⟨0, by omega, by rw [e3]; simp⟩, e4⟩⟩
theorem reset_to {S : DevS} {zi : Int} (hi : S.is zi = true) (hg : S.gone = false) :
    Like S (S.reset zi) zi id ∧ ((S.mayE (S.resetE zi) = 0 ∧ (S.reset zi).gone = false ∧ (S.reset zi).zone zi = ZoneS.empty ∧ (S.left < 0 → (S.reset zi).left = S.left)) ∨ (S.mayE (S.resetE zi) = 7 ∧ (S.reset zi).gone = true ∧ (S.reset zi).zone zi = S.zone zi ∧ ¬ S.left < 0)) := by
  have he : S.resetE zi = 0 := by unfold resetE; rw [if_pos hi]
  unfold reset
  rw [he]
  rcases may_zero hg with ⟨h1, h2, h3⟩ | ⟨h1, h2, h3⟩
  · rw [if_pos h1]
    have hi2 : (S.mayS 0).is zi = true := by rw [is_mayS]; exact hi
    refine ⟨(like_mayS S 0 zi).trans (like_put hi2 _), .inl ⟨h1, h2, ?_, h3⟩⟩
    rw [zone_put hi2 hi2, if_pos rfl]
  · rw [if_neg (by omega)]
    exact ⟨like_mayS S 0 zi, .inr ⟨h1, h2, zone_mayS S 0 zi, h3⟩⟩
theorem zone_map {S : DevS} (f : ZoneS → ZoneS) {S' : DevS} (h : S'.zones = S.zones.map f) {j : Int} (hj : S.is j = true) : S'.zone j = f (S.zone j) := by
  obtain ⟨h0, h1⟩ := is_iff.1 hj
  unfold zone
  rw [h, List.getD_eq_getElem?_getD, List.getD_eq_getElem?_getD, List.getElem?_map, List.getElem?_eq_getElem (by omega)]
  rfl
theorem flush_to {S : DevS} (hg : S.gone = false) :
    S.flush.zones.length = S.zones.length ∧ S.flush.P = S.P ∧ ((S.mayE 0 = 0 ∧ S.flush.gone = false ∧ (∀ j, S.is j = true → S.flush.zone j = allSure (S.zone j)) ∧ (S.left < 0 → S.flush.left = S.left)) ∨ (S.mayE 0 = 7 ∧ S.flush.gone = true ∧ (∀ j, S.flush.zone j = S.zone j) ∧ ¬ S.left < 0)) := by
  unfold flush
  rcases may_zero hg with ⟨h1, h2, h3⟩ | ⟨h1, h2, h3⟩
  · rw [if_pos h1]
    exact ⟨by simp, mayS_P S 0, .inl ⟨h1, h2, fun j hj => zone_map allSure rfl hj, h3⟩⟩
  · rw [if_neg (by omega)]
    exact ⟨by rw [mayS_zones], mayS_P S 0, .inr ⟨h1, h2, fun j => zone_mayS S 0 j, h3⟩⟩
theorem where_is {S : DevS} (h : 2 ≤ S.zones.length) (nu : Int) : S.is (whereN S.zones.length nu) = true := by
  rw [is_iff]
  unfold whereN
  omega
/-- The device behind a checkpoint that may be. -/
theorem wr_to {S : DevS} {c : ChkS} (hg : S.gone = false) (hr : c.right = true) (hz : c.z = (S.zones.length : Int)) (hp : c.p = (S.P : Int)) :
    (S.wr c).1.zones.length = S.zones.length ∧ (S.wr c).1.P = S.P ∧
    (((S.wr c).2 = 0 ∧ (S.wr c).1.gone = false ∧ (S.wr c).1.zone (whereN S.zones.length c.nu) = ⟨c.pages, c.pages.length, false⟩ ∧ (∀ j, S.is j = true → j ≠ whereN S.zones.length c.nu → (S.wr c).1.zone j = allSure (S.zone j)) ∧ (S.left < 0 → (S.wr c).1.left = S.left)) ∨
     ((S.wr c).2 = 7 ∧ (S.wr c).1.gone = true ∧ ((S.wr c).1.zone (whereN S.zones.length c.nu) = S.zone (whereN S.zones.length c.nu) ∨ ∃ t, t ≤ c.pages.length ∧ (S.wr c).1.zone (whereN S.zones.length c.nu) = ⟨c.pages.take t, 0, false⟩) ∧
       (∀ j, S.is j = true → j ≠ whereN S.zones.length c.nu → (S.wr c).1.zone j = S.zone j) ∧ ¬ S.left < 0)) := by
  have hb := ChkS.right_bd hr
  have hbl := ChkS.blocks_le hr
  have hi : S.is (whereN S.zones.length c.nu) = true := where_is (by omega) _
  have ha : S.wrArg c = false := by
    unfold wrArg
    simp [hr, hz, hp]
  unfold wr
  rw [ha, if_neg (by decide)]
  obtain ⟨zi, hzi⟩ : ∃ x, whereN S.zones.length c.nu = x := ⟨_, rfl⟩
  rw [hzi] at hi ⊢
  obtain ⟨r1, r2⟩ := reset_to hi hg
  rcases r2 with ⟨e1, e2, e3, e4⟩ | ⟨e1, e2, e3, e4⟩
  · rw [if_neg (by omega)]
    have hpl := ChkS.pages_len (c := c)
    obtain ⟨a1, a2⟩ := appL_to (zi := zi) c.pages (S := S.reset zi) (by rw [r1.is]; exact hi) e2 (by rw [e3, r1.p, hpl]; simp only [ZoneS.empty, List.length_nil]; omega) (by rw [e3]; rfl) (fun b hb => by
      obtain ⟨i, hi, rfl⟩ := List.getElem_of_mem hb
      rw [ChkS.pages_get]
      exact ChkS.page_33 (by rw [← hpl]; exact hi))
    have k1 := r1.trans a1
    rcases a2 with ⟨f1, f2, f3, f4⟩ | ⟨f1, f2, ⟨t, ht, f3⟩, f4⟩
    · rw [if_neg (by omega)]
      obtain ⟨S2, hS2⟩ : ∃ x, ((S.reset zi).appL zi c.pages).1 = x := ⟨_, rfl⟩
      rw [hS2] at f2 f3 f4 k1 ⊢
      obtain ⟨g1, g2, g3⟩ := flush_to f2
      refine ⟨g1.trans k1.len, g2.trans k1.p, ?_⟩
      have hi2 : S2.is zi = true := by rw [k1.is]; exact hi
      rw [e3] at f3
      rcases g3 with ⟨m1, m2, m3, m4⟩ | ⟨m1, m2, m3, m4⟩
      · refine .inl ⟨m1, m2, ?_, fun j hj hne => ?_, fun h => ?_⟩
        · rw [m3 zi hi2, f3]
          rfl
        · rw [m3 j (by rw [k1.is]; exact hj), k1.far j hj hne]
          rfl
        · have h2 := f4 (by rw [e4 h]; exact h)
          rw [m4 (by rw [h2, e4 h]; exact h), h2, e4 h]
      · refine .inr ⟨m1, m2, .inr ⟨c.pages.length, Nat.le_refl _, ?_⟩, fun j hj hne => ?_, fun h => ?_⟩
        · rw [m3 zi, f3, List.take_length]
          rfl
        · rw [m3 j, k1.far j hj hne]
          rfl
        · exact m4 (by rw [f4 (by rw [e4 h]; exact h), e4 h]; exact h)
    · rw [if_pos (by omega)]
      refine ⟨k1.len, k1.p, .inr ⟨f1, f2, .inr ⟨t, ht, ?_⟩, fun j hj hne => k1.far j hj hne, fun h => f4 (by rw [e4 h]; exact h)⟩⟩
      rw [f3, e3]
      rfl
  · rw [if_pos (by omega)]
    exact ⟨r1.len, r1.p, .inr ⟨e1, e2, .inl e3, fun j hj hne => r1.far j hj hne, e4⟩⟩
theorem crash_zone {S : DevS} (keep : List Int) (tear : List Bool) {j : Int} (hj : S.is j = true) : (S.crash keep tear).zone j = crashZ (S.zone j) (keep.getD j.toNat 0) (tear.getD j.toNat false) := by
  obtain ⟨h0, h1⟩ := is_iff.1 hj
  unfold crash zone
  simp only [List.getD_eq_getElem?_getD, List.getElem?_map]
  rw [List.getElem?_range (by omega)]
  rfl
theorem crash_len (S : DevS) (keep : List Int) (tear : List Bool) : (S.crash keep tear).zones.length = S.zones.length := by simp [crash]
theorem crash_sureZ {z : ZoneS} (h : z.sure = z.pages.length) (k : Int) (t : Bool) : (crashZ z k t).pages = z.pages := by
  unfold crashZ left1 stays
  rw [h]
  simp
/-- Of what wasn't sure a beginning stays, or one that ends in a torn page. -/
theorem crash_begin {c : ChkS} (hr : c.right = true) (hw : c.words) {t : Nat} (ht : t ≤ c.pages.length) (k : Int) (b : Bool) (n P : Nat) (zi : Int) : (crashZ ⟨c.pages.take t, 0, false⟩ k b).pages = c.pages ∨ holdB n P zi (crashZ ⟨c.pages.take t, 0, false⟩ k b).pages = false := by
  obtain ⟨s, hs⟩ : ∃ s, stays ⟨c.pages.take t, 0, false⟩ k = s := ⟨_, rfl⟩
  have hst : s ≤ t := by
    rw [← hs]
    unfold stays
    simp
    omega
  have he : (crashZ ⟨c.pages.take t, 0, false⟩ k b).pages = c.pages.take s ++ (if (b && decide (s < (c.pages.take t).length)) = true then [[]] else []) := by
    show left1 ⟨c.pages.take t, 0, false⟩ k b = _
    unfold left1
    rw [hs]
    show (c.pages.take t).take s ++ _ = _
    rw [List.take_take, Nat.min_eq_left hst]
  rw [he]
  by_cases h : (b && decide (s < (c.pages.take t).length)) = true
  · rw [if_pos h]
    exact .inr (hold_torn (by simp))
  · rw [if_neg h, List.append_nil]
    by_cases h2 : s < c.pages.length
    · exact .inr (hold_begin hr hw h2)
    · exact .inl (List.take_of_length_le (by omega))
end DevS
/-- A slot holds a checkpoint. -/
structure Fit (n P : Nat) (c : ChkS) : Prop where
  r : c.right = true
  w : c.words
  z : c.z = (n : Int)
  p : c.p = (P : Int)
theorem slot_holds {S : DevS} {c : ChkS} (hg : S.gone = false) (h2 : 2 ≤ S.zones.length) (hc : Fit S.zones.length S.P c) (h : (S.zone (whereN S.zones.length c.nu)).pages = c.pages) : S.slE (whereN S.zones.length c.nu) = 0 ∧ S.slC (whereN S.zones.length c.nu) = c := by
  have hs : S.slotB (whereN S.zones.length c.nu) = true := by
    unfold DevS.slotB whereN
    have : c.nu % 2 = 0 ∨ c.nu % 2 = 1 := by omega
    rcases this with e | e
    · simp [h2, e]
    · simp [h2, e]
      omega
  have he : S.slE (whereN S.zones.length c.nu) = 0 := by
    unfold DevS.slE
    rw [if_neg (by simp [hg]), if_neg (by simp [hs]), h, ChkS.hold_pages hc.r hc.w hc.z hc.p, if_pos rfl]
  refine ⟨he, ?_⟩
  unfold DevS.slC
  rw [if_pos he, h, ChkS.chk_pages hc.r hc.w]
theorem slot_bad {S : DevS} {zi : Int} (hg : S.gone = false) (_h2 : 2 ≤ S.zones.length) (h : holdB S.zones.length S.P zi (S.zone zi).pages = false) : S.slE zi ≠ 0 := by
  unfold DevS.slE
  rw [if_neg (by simp [hg]), h]
  split
  · decide
  · decide
/-- The newest one where one slot holds last, and the other one nothing, or the one ahead, or the next one. -/
theorem newest_is {S : DevS} {last : ChkS} (hg : S.gone = false) (h2 : 2 ≤ S.zones.length) (hl : Fit S.zones.length S.P last) (h : (S.zone (whereN S.zones.length last.nu)).pages = last.pages)
    (o : S.slE (whereN S.zones.length (last.nu + 1)) ≠ 0 ∨ ∃ c, Fit S.zones.length S.P c ∧ whereN S.zones.length c.nu = whereN S.zones.length (last.nu + 1) ∧ (S.zone (whereN S.zones.length c.nu)).pages = c.pages ∧ last.nu = (c.nu + 1) % 4294967296) : S.newE = 0 ∧ S.newC = last := by
  obtain ⟨e1, e2⟩ := slot_holds hg h2 hl h
  have hw := ChkS.words_bd hl.w
  have hn : S.newE = 0 := by
    unfold DevS.newE
    rw [if_neg (by simp [hg]), if_neg (by omega), if_pos]
    unfold whereN at e1
    have : last.nu % 2 = 0 ∨ last.nu % 2 = 1 := by omega
    rcases this with e | e
    · rw [e, Int.add_zero] at e1
      exact .inl e1
    · rw [e] at e1
      exact .inr (by rw [show (S.zones.length : Int) - 1 = (S.zones.length : Int) - 2 + 1 by omega]; exact e1)
  refine ⟨hn, ?_⟩
  unfold DevS.newC
  rw [if_neg (by simp [hn])]
  have hpar : last.nu % 2 = 0 ∨ last.nu % 2 = 1 := by omega
  have hA : whereN S.zones.length last.nu = (S.zones.length : Int) - 2 ∧ whereN S.zones.length (last.nu + 1) = (S.zones.length : Int) - 1 ∨ whereN S.zones.length last.nu = (S.zones.length : Int) - 1 ∧ whereN S.zones.length (last.nu + 1) = (S.zones.length : Int) - 2 := by
    unfold whereN
    omega
  rcases o with o | ⟨c, hc, hcw, hcp, hcn⟩
  · rcases hA with ⟨a1, a2⟩ | ⟨a1, a2⟩
    · rw [a1] at e1 e2
      rw [a2] at o
      rw [if_neg (by omega), if_pos o, e2]
    · rw [a1] at e1 e2
      rw [a2] at o
      rw [if_pos o, e2]
  · obtain ⟨f1, f2⟩ := slot_holds hg h2 hc hcp
    have hcw2 := ChkS.words_bd hc.w
    rw [hcw] at f1 f2
    rcases hA with ⟨a1, a2⟩ | ⟨a1, a2⟩
    · rw [a1] at e1 e2
      rw [a2] at f1 f2
      rw [if_neg (by omega), if_neg (by omega), e2, f2, if_pos hcn]
    · rw [a1] at e1 e2
      rw [a2] at f1 f2
      rw [if_neg (by omega), if_neg (by omega), e2, f2, if_neg (by omega), if_pos (.inl hcn)]
theorem where_next {n : Nat} {a b : Int} (h : a = (b + 1) % 4294967296) : whereN n a = whereN n (b + 1) ∧ whereN n b = whereN n (a + 1) ∧ whereN n a ≠ whereN n b := by
  unfold whereN
  omega
/-- Slots that take turns: i checkpoints were written, the last one of them is last. -/
structure Turns (S : DevS) (n P i : Nat) (last : ChkS) : Prop where
  len : S.zones.length = n
  p : S.P = P
  g : S.gone = false
  first : i = 0 → S.left < 0 ∧ (∀ j, S.is j = true → (S.zone j).pages = [])
  then_ : 0 < i → Fit n P last ∧ (S.zone (whereN n last.nu)).pages = last.pages ∧ (S.zone (whereN n last.nu)).sure = last.pages.length ∧
    (((S.zone (whereN n (last.nu + 1))).pages = [] ∧ (S.zone (whereN n (last.nu + 1))).sure = 0) ∨ ∃ c, Fit n P c ∧ last.nu = (c.nu + 1) % 4294967296 ∧ (S.zone (whereN n c.nu)).pages = c.pages ∧ (S.zone (whereN n c.nu)).sure = c.pages.length)
theorem Turns.fuse {S : DevS} {n P i : Nat} {last : ChkS} (h : Turns S n P i last) (hi : 0 < i) (f : Int) : Turns (S.fuse f) n P i last := ⟨h.len, h.p, h.g, fun e => by omega, h.then_⟩
theorem Turns.new {n P : Nat} {last : ChkS} : Turns (DevS.new n P) n P 0 last := ⟨by simp [DevS.new], rfl, rfl, fun _ => ⟨by simp [DevS.new], fun j hj => by
  have := DevS.zone_mem hj
  have := List.eq_of_mem_replicate this
  rw [this]
  rfl⟩, fun h => by omega⟩
/-- One more. -/
theorem Turns.write {S : DevS} {n P i : Nat} {last c : ChkS} (h : Turns S n P i last) (hn : 2 ≤ n) (hc : Fit n P c) (hnu : 0 < i → c.nu = (last.nu + 1) % 4294967296) (he : (S.wr c).2 = 0) : Turns (S.wr c).1 n P (i + 1) c := by
  have hlen := h.len
  have hp := h.p
  subst hlen hp
  obtain ⟨w1, w2, w3⟩ := DevS.wr_to h.g hc.r hc.z hc.p
  rcases w3 with ⟨_, f2, f3, f4, f5⟩ | ⟨f1, _⟩
  · refine ⟨w1, w2, f2, fun e => by omega, fun _ => ⟨hc, by rw [f3], by rw [f3], ?_⟩⟩
    rcases Nat.eq_zero_or_pos i with hi | hi
    · obtain ⟨_, g2⟩ := h.first hi
      have hw : S.is (whereN S.zones.length (c.nu + 1)) = true := DevS.where_is hn _
      have hne : whereN S.zones.length (c.nu + 1) ≠ whereN S.zones.length c.nu := by unfold whereN; omega
      rw [f4 _ hw hne]
      have := g2 _ hw
      exact .inl ⟨this, by show (S.zone _).pages.length = 0; rw [this]; rfl⟩
    · obtain ⟨g1, g2, g3, _⟩ := h.then_ hi
      have hne := where_next (n := S.zones.length) (hnu hi)
      have hw : S.is (whereN S.zones.length last.nu) = true := DevS.where_is hn _
      refine .inr ⟨last, g1, hnu hi, ?_, ?_⟩
      · rw [f4 _ hw hne.2.2.symm]
        exact g2
      · rw [f4 _ hw hne.2.2.symm]
        show (S.zone _).pages.length = _
        rw [g2]
  · omega
/-- The power goes meanwhile, and whatever crashes. -/
theorem Turns.down {S : DevS} {n P i : Nat} {last c : ChkS} (h : Turns S n P i last) (hn : 2 ≤ n) (hc : Fit n P c) (hnu : 0 < i → c.nu = (last.nu + 1) % 4294967296) (he : (S.wr c).2 ≠ 0) (keep : List Int) (tear : List Bool) :
    (S.wr c).2 = 7 ∧ 0 < i ∧ ((S.wr c).1.crash keep tear).newE = 0 ∧ (((S.wr c).1.crash keep tear).newC = last ∨ ((S.wr c).1.crash keep tear).newC = c) := by
  have hlen := h.len
  have hp := h.p
  subst hlen hp
  obtain ⟨w1, w2, w3⟩ := DevS.wr_to h.g hc.r hc.z hc.p
  rcases w3 with ⟨f1, _⟩ | ⟨f1, f2, f3, f4, f5⟩
  · exact absurd f1 he
  · have hi : 0 < i := by
      rcases Nat.eq_zero_or_pos i with hi | hi
      · exact absurd (h.first hi).1 f5
      · exact hi
    refine ⟨f1, hi, ?_⟩
    obtain ⟨g1, g2, g3, g4⟩ := h.then_ hi
    obtain ⟨q1, q2, q3⟩ := where_next (n := S.zones.length) (hnu hi)
    obtain ⟨S1, hS1⟩ : ∃ x, (S.wr c).1 = x := ⟨_, rfl⟩
    rw [hS1] at w1 w2 f2 f3 f4 ⊢
    have his : ∀ j, S1.is j = S.is j := fun j => by unfold DevS.is; rw [w1]
    have cl := DevS.crash_len S1 keep tear
    have cp : (S1.crash keep tear).P = S.P := w2
    have cg : (S1.crash keep tear).gone = false := rfl
    have hwl : S.is (whereN S.zones.length last.nu) = true := DevS.where_is hn _
    have hwc : S.is (whereN S.zones.length c.nu) = true := DevS.where_is hn _
    have zl : ((S1.crash keep tear).zone (whereN S.zones.length last.nu)).pages = last.pages := by
      rw [DevS.crash_zone keep tear (by rw [his]; exact hwl), f4 _ hwl q3.symm, DevS.crash_sureZ (by rw [g2, g3]), g2]
    obtain ⟨S2, hS2⟩ : ∃ x, S1.crash keep tear = x := ⟨_, rfl⟩
    have zc := DevS.crash_zone keep tear (S := S1) (j := whereN S.zones.length c.nu) (by rw [his]; exact hwc)
    rw [hS2] at cl cp cg zl zc ⊢
    have l2 : S2.zones.length = S.zones.length := cl.trans w1
    rw [← l2, ← cp] at hc g1 g4
    rw [← l2] at hn q1 q2 q3 zl zc f3
    rcases f3 with e | ⟨t, ht, e⟩
    · -- reset was not done
      have hz : (S2.zone (whereN S2.zones.length (last.nu + 1))).pages = [] ∨ ∃ c0, Fit S2.zones.length S2.P c0 ∧ last.nu = (c0.nu + 1) % 4294967296 ∧ (S2.zone (whereN S2.zones.length (last.nu + 1))).pages = c0.pages := by
        rw [← q1, zc, e, q1]
        rcases g4 with ⟨a1, a2⟩ | ⟨c0, a1, a2, a3, a4⟩
        · left
          rw [DevS.crash_sureZ (by rw [a1, a2]; rfl), a1]
        · right
          have hw0 := (where_next (n := S2.zones.length) a2).2.1
          refine ⟨c0, a1, a2, ?_⟩
          rw [← hw0]
          rw [DevS.crash_sureZ (by rw [a3, a4]), a3]
      rcases hz with hz | ⟨c0, a1, a2, a3⟩
      · have := newest_is cg hn g1 zl (.inl (slot_bad cg hn (by rw [hz]; exact hold_nil)))
        exact ⟨this.1, .inl this.2⟩
      · have hw0 := (where_next (n := S2.zones.length) a2).2.1
        have := newest_is cg hn g1 zl (.inr ⟨c0, a1, hw0, by rw [hw0]; exact a3, a2⟩)
        exact ⟨this.1, .inl this.2⟩
    · rw [e] at zc
      rcases DevS.crash_begin hc.r hc.w ht (keep.getD (whereN S2.zones.length c.nu).toNat 0) (tear.getD (whereN S2.zones.length c.nu).toNat false) S2.zones.length S2.P (whereN S2.zones.length c.nu) with k | k
      · rw [← zc] at k
        have := newest_is cg hn hc k (.inr ⟨last, g1, q2, zl, hnu hi⟩)
        exact ⟨this.1, .inr this.2⟩
      · rw [← zc, q1] at k
        have := newest_is cg hn g1 zl (.inl (slot_bad cg hn k))
        exact ⟨this.1, .inl this.2⟩
/-- All were written; whatever crashes. -/
theorem Turns.all {S : DevS} {n P i : Nat} {last : ChkS} (h : Turns S n P i last) (hn : 2 ≤ n) (keep : List Int) (tear : List Bool) : (i = 0 → (S.crash keep tear).newE = 10) ∧ (0 < i → (S.crash keep tear).newE = 0 ∧ (S.crash keep tear).newC = last) := by
  have hlen := h.len
  have hp := h.p
  subst hlen hp
  have cl := DevS.crash_len S keep tear
  have cp : (S.crash keep tear).P = S.P := rfl
  have cg : (S.crash keep tear).gone = false := rfl
  constructor
  · intro hi
    obtain ⟨_, g2⟩ := h.first hi
    have hz : ∀ nu, ((S.crash keep tear).zone (whereN S.zones.length nu)).pages = [] := fun nu => by
      have hw := DevS.where_is hn nu
      rw [DevS.crash_zone keep tear hw]
      have := g2 _ hw
      unfold DevS.crashZ DevS.left1 DevS.stays
      rw [this]
      simp
    have hb : ∀ nu, (S.crash keep tear).slE (whereN S.zones.length nu) ≠ 0 := fun nu => slot_bad cg (by rw [cl]; exact hn) (by rw [hz]; exact hold_nil)
    have b0 := hb 0
    have b1 := hb 1
    unfold whereN at b0 b1
    unfold DevS.newE
    rw [if_neg (by simp [cg]), cl, if_neg (by omega), if_neg]
    rintro (e | e)
    · exact b0 (by rw [show (0 : Int) % 2 = 0 from rfl, Int.add_zero]; exact e)
    · exact b1 (by rw [show (1 : Int) % 2 = 1 from rfl, show (S.zones.length : Int) - 2 + 1 = (S.zones.length : Int) - 1 by omega]; exact e)
  · intro hi
    obtain ⟨g1, g2, g3, g4⟩ := h.then_ hi
    have hwl : S.is (whereN S.zones.length last.nu) = true := DevS.where_is hn _
    have zl : ((S.crash keep tear).zone (whereN S.zones.length last.nu)).pages = last.pages := by
      rw [DevS.crash_zone keep tear hwl, DevS.crash_sureZ (by rw [g2, g3]), g2]
    have hwo : S.is (whereN S.zones.length (last.nu + 1)) = true := DevS.where_is hn _
    have zo := DevS.crash_zone keep tear (S := S) hwo
    obtain ⟨S2, hS2⟩ : ∃ x, S.crash keep tear = x := ⟨_, rfl⟩
    rw [hS2] at cl cp cg zl zo ⊢
    rw [← cl, ← cp] at g1 g4
    rw [← cl] at hn zl zo
    rcases g4 with ⟨a1, a2⟩ | ⟨c0, a1, a2, a3, a4⟩
    · exact newest_is cg hn g1 zl (.inl (slot_bad cg hn (by rw [zo, DevS.crash_sureZ (by rw [a1, a2]; rfl), a1]; exact hold_nil)))
    · have hw0 := (where_next (n := S2.zones.length) a2).2.1
      refine newest_is cg hn g1 zl (.inr ⟨c0, a1, hw0, ?_, a2⟩)
      rw [hw0, zo, ← hw0, DevS.crash_sureZ (by rw [a3, a4]), a3]
end Go.Proofs.YthmpimjmajoimaaGreatDoor
