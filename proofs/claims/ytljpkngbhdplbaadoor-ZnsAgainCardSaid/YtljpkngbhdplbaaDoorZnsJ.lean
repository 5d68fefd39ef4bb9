/-
  The document's device: a crash: zones anew, one by one.
-/
import Derived.Test.YtljpkngbhdplbaaDoorZnsI
namespace Go.Proofs.YtljpkngbhdplbaaDoor
open Go.RowKit

/-- Zone number j behind a crash. -/
def crashAt (S : DevS) (keep : List Int) (tear : List Bool) (j : Nat) : ZoneS := DevS.crashZ (S.zones.getD j ZoneS.empty) (keep.getD j 0) (tear.getD j false)
/-- The first i zones have crashed. -/
def crashTo (S : DevS) (keep : List Int) (tear : List Bool) (i : Nat) : DevS := { S with zones := (List.range S.zones.length).map (fun j => if j < i then crashAt S keep tear j else S.zones.getD j ZoneS.empty) }
theorem crashTo_zero (S : DevS) (keep : List Int) (tear : List Bool) : crashTo S keep tear 0 = S := by
  have h : (List.range S.zones.length).map (fun j => if j < 0 then crashAt S keep tear j else S.zones.getD j ZoneS.empty) = S.zones := by
    refine List.ext_getElem (by simp) fun j h1 h2 => ?_
    simp [List.getD_eq_getElem?_getD, List.getElem?_eq_getElem h2]
  unfold crashTo
  rw [h]
theorem crashTo_all (S : DevS) (keep : List Int) (tear : List Bool) : { crashTo S keep tear S.zones.length with left := -1, gone := false } = S.crash keep tear := by
  have h : (List.range S.zones.length).map (fun j => if j < S.zones.length then crashAt S keep tear j else S.zones.getD j ZoneS.empty) = (List.range S.zones.length).map (fun j => crashAt S keep tear j) :=
    List.map_congr_left fun j hj => by rw [if_pos (List.mem_range.1 hj)]
  unfold crashTo DevS.crash
  simp only [h]
  rfl
theorem crashTo_len (S : DevS) (keep : List Int) (tear : List Bool) (i : Nat) : (crashTo S keep tear i).zones.length = S.zones.length := by simp [crashTo]
theorem crashTo_is {S : DevS} {keep : List Int} {tear : List Bool} {i : Nat} (h : i < S.zones.length) : (crashTo S keep tear i).is (i : Int) = true := DevS.is_iff.2 ⟨by omega, by rw [crashTo_len]; omega⟩
theorem crashTo_get {S : DevS} {keep : List Int} {tear : List Bool} {i : Nat} (h : i < S.zones.length) : (crashTo S keep tear i).zone (i : Int) = S.zones[i] := by
  rw [DevS.zone_out (crashTo_is h)]
  simp [crashTo, List.getD_eq_getElem?_getD, List.getElem?_eq_getElem h]
theorem crashAt_get {S : DevS} {keep : List Int} {tear : List Bool} {i : Nat} (h : i < S.zones.length) : crashAt S keep tear i = DevS.crashZ S.zones[i] (keep.getD i 0) (tear.getD i false) := by
  simp [crashAt, List.getD_eq_getElem?_getD, List.getElem?_eq_getElem h]
theorem crashTo_put {S : DevS} {keep : List Int} {tear : List Bool} {i : Nat} (_h : i < S.zones.length) : (crashTo S keep tear i).put (i : Int) (crashAt S keep tear i) = crashTo S keep tear (i + 1) := by
  have e : ((List.range S.zones.length).map (fun j => if j < i then crashAt S keep tear j else S.zones.getD j ZoneS.empty)).set i (crashAt S keep tear i) = (List.range S.zones.length).map (fun j => if j < i + 1 then crashAt S keep tear j else S.zones.getD j ZoneS.empty) := by
    refine List.ext_getElem (by simp) fun j h1 h2 => ?_
    by_cases hj : i = j
    · subst hj
      simp
    · rw [List.getElem_set_ne hj]
      simp only [List.getElem_map, List.getElem_range]
      by_cases h3 : j < i
      · rw [if_pos h3, if_pos (by omega)]
      · rw [if_neg h3, if_neg (by omega)]
  unfold crashTo DevS.put
  simp only [Int.toNat_natCast]
  rw [e]
theorem crashAt_ok {S : DevS} (h : S.WF) {keep : List Int} {tear : List Bool} {i : Nat} (hi : i < S.zones.length) : (crashAt S keep tear i).pages.length ≤ S.P ∧ (crashAt S keep tear i).sure ≤ (crashAt S keep tear i).pages.length ∧ ∀ b ∈ (crashAt S keep tear i).pages, (b.length = 0 ∨ b.length = 33) ∧ Byt b := by
  have hw := DevS.crash_wf h keep tear
  exact hw.pages (crashAt S keep tear i) (by
    unfold DevS.crash
    simp only [List.mem_map, List.mem_range]
    exact ⟨i, hi, rfl⟩)
theorem crashTo_wf {S : DevS} (h : S.WF) (keep : List Int) (tear : List Bool) (i : Nat) : (crashTo S keep tear i).WF := by
  refine ⟨by rw [crashTo_len]; exact h.z0, by rw [crashTo_len]; exact h.z1, h.p0, h.p1, h.l0, h.l1, fun z hz => ?_⟩
  simp only [crashTo, List.mem_map, List.mem_range] at hz
  obtain ⟨j, hj, rfl⟩ := hz
  split
  · exact crashAt_ok h hj
  · have hm : S.zones.getD j ZoneS.empty ∈ S.zones := by
      rw [List.getD_eq_getElem?_getD, List.getElem?_eq_getElem hj]
      exact List.getElem_mem _
    exact h.pages _ hm

/-- A zone's three cells are stored anew, its pages in memory of the call's own or in the footprint. -/
theorem rd_anew {F : Nat → Prop} {w1 w4 : World} {db zb cap i : Nat} {zs : List Value} {S1 : DevS} {z : ZoneS} {v : Value} (H1 : RD F w1 db zb cap zs S1) (hlt : i < S1.zones.length) (HB : Below w1.heap.size w1 w4) (hrow : RowsF (fun k => grow F w1 w4 k ∧ k ≠ db ∧ k ≠ zb) w4 v z.pages) (hwf : (S1.put (i : Int) z).WF) :
    (∃ zs', RD (grow F w1 (((w4.setCell ⟨zb, i * 3, none⟩ v).setCell ⟨zb, i * 3 + 1, none⟩ (.int .i64 (z.sure : Int))).setCell ⟨zb, i * 3 + 2, none⟩ (.bool z.fin))) (((w4.setCell ⟨zb, i * 3, none⟩ v).setCell ⟨zb, i * 3 + 1, none⟩ (.int .i64 (z.sure : Int))).setCell ⟨zb, i * 3 + 2, none⟩ (.bool z.fin)) db zb cap zs' (S1.put (i : Int) z)) ∧
    Kept F w1 (((w4.setCell ⟨zb, i * 3, none⟩ v).setCell ⟨zb, i * 3 + 1, none⟩ (.int .i64 (z.sure : Int))).setCell ⟨zb, i * 3 + 2, none⟩ (.bool z.fin)) := by
  have H4 : RD (grow F w1 w4) w4 db zb cap zs S1 := (H1.up HB).grow
  have hzr := zrow_len H1.room H1.len hlt
  have HZ := set_three (zs := zs) (k := i * 3) v (.int .i64 (z.sure : Int)) (.bool z.fin) hzr
  have hkz : Kept (fun k => k = zb) w4 (((w4.setCell ⟨zb, i * 3, none⟩ v).setCell ⟨zb, i * 3 + 1, none⟩ (.int .i64 (z.sure : Int))).setCell ⟨zb, i * 3 + 2, none⟩ (.bool z.fin)) := (((Kept.refl (fun k => k = zb) w4).put (.inl rfl) _ _).put (.inl rfl) _ _).put (.inl rfl) _ _
  have H5 := H4.setZone (i := i) (z := z) (v := v) hlt (((H4.blk.put _ _).put _ _).put _ _) hkz HZ.1 HZ.2.1 HZ.2.2.1 HZ.2.2.2.1 HZ.2.2.2.2 (hrow.keep hkz (fun k hk e => hk.2.2 e)) hwf
  refine ⟨⟨_, H5.mono (fun k hk => ?_) (fun k hk => ?_)⟩, (Kept.of_below HB).and (hkz.mono (fun k _ e => e ▸ H1.fz))⟩
  · rcases hk with hk | hk
    · exact .inl hk
    · exact .inr ⟨hk.1, Nat.lt_of_lt_of_le hk.2 hkz.size⟩
  · rcases hk with hk | hk
    · exact Nat.lt_of_lt_of_le (H1.lt k hk) (Nat.le_trans HB.size hkz.size)
    · exact hk.2
/-- Round upon round. -/
theorem rd_rounds {F : Nat → Prop} {w wr w5 : World} {db zb cap : Nat} {zs : List Value} {S : DevS} (h : RD (grow (grow F w wr) wr w5) w5 db zb cap zs S) (h1 : w.heap.size ≤ wr.heap.size) (h2 : wr.heap.size ≤ w5.heap.size) : RD (grow F w w5) w5 db zb cap zs S := by
  refine h.mono (fun k hk => ?_) (fun k hk => ?_)
  · rcases hk with (hk | hk) | hk
    · exact .inl hk
    · exact .inr ⟨hk.1, Nat.lt_of_lt_of_le hk.2 h2⟩
    · exact .inr ⟨Nat.le_trans h1 hk.1, hk.2⟩
  · rcases hk with hk | hk
    · exact h.lt k (.inl (.inl hk))
    · exact hk.2
/-- What stays of a zone's pages, in a row of the call's own. -/
theorem rows_left {F : Nat → Prop} {w1 w4 : World} {db zb : Nat} {vs : List Value} {Z : ZoneS} {K : Int} {t : Bool} {v : Value} (hvl : vs.length = Z.pages.length) (hsu : Z.sure ≤ Z.pages.length) (HX : ∀ j (h : j < vs.length) (h2 : j < Z.pages.length), BytF (fun k => F k ∧ k ≠ db ∧ k ≠ zb) w1 vs[j] Z.pages[j]) (HB : Below w1.heap.size w1 w4) (hdb : db < w1.heap.size) (hzb : zb < w1.heap.size)
    (HO : RowV w4 w1.heap.size 35 v (vs.take (DevS.stays Z K) ++ (if (t && decide (DevS.stays Z K < Z.pages.length)) = true then [.slice none 0 0] else []))) : RowsF (fun k => grow F w1 w4 k ∧ k ≠ db ∧ k ≠ zb) w4 v (DevS.crashZ Z K t).pages := by
  obtain ⟨A, c, e, hc, hr, h0, hb⟩ := HO.out
  have hst := DevS.stays_le hsu K
  have hlen : (vs.take (DevS.stays Z K) ++ (if (t && decide (DevS.stays Z K < Z.pages.length)) = true then [Value.slice none 0 0] else [])).length = (DevS.crashZ Z K t).pages.length := by
    simp only [DevS.crashZ, DevS.left1, List.length_append, List.length_take, hvl]
    split <;> simp
  refine ⟨A, c, _, by rw [e, hlen], by rw [← hlen]; exact hc, hr, fun _ b o x ex => ?_, h0, hlen, fun j h h2 => ?_⟩
  · have := hb b o x ex
    exact ⟨.inr this, by omega, by omega⟩
  · simp only [DevS.crashZ, DevS.left1] at h2 ⊢
    by_cases hj : j < DevS.stays Z K
    · rw [List.getElem_append_left (by rw [List.length_take]; omega), List.getElem_append_left (by rw [List.length_take]; omega), List.getElem_take, List.getElem_take]
      exact ((HX j (by omega) (by omega)).keep (Kept.of_below (F := fun _ => False) HB) (fun _ _ => id)).mono (fun k hk => ⟨.inl hk.1, hk.2⟩)
    · rw [List.getElem_append_right (by rw [List.length_take]; omega), List.getElem_append_right (by rw [List.length_take]; omega)]
      by_cases ht : (t && decide (DevS.stays Z K < Z.pages.length)) = true
      · simp only [ht, if_true, List.getElem_singleton]
        exact ⟨none, 0, rfl, by simp, Rd.nil, (InF.none _).n, fun _ => rfl⟩
      · simp only [ht, List.append_nil, List.length_take, Bool.false_eq_true, if_false] at h2
        omega
theorem RowV.le {w : World} {base base' : Nat} {T : TypeId} {v : Value} {vs : List Value} (h : RowV w base T v vs) (hb : base' ≤ base) : RowV w base' T v vs :=
  ⟨h.1, h.2.imp id fun ⟨g', c', cur, hv, hg, r⟩ => ⟨g', c', cur, hv, Nat.le_trans hb hg, r⟩⟩
/-- One zone more has crashed. -/
theorem crash_round {F : Nat → Prop} {w wr u : World} {db zb cap i N : Nat} {zs vs : List Value} {S : DevS} {keep : List Int} {tear : List Bool} {Z : ZoneS} {kp : Int} {tt fi : Bool} {v : Value} (H1 : RD (grow F w wr) wr db zb cap zs (crashTo S keep tear i)) (hwf : S.WF) (hlt : i < S.zones.length) (hCA : crashAt S keep tear i = DevS.crashZ Z kp tt) (hvl : vs.length = Z.pages.length) (hsu : Z.sure ≤ Z.pages.length) (hfi : Z.fin = fi)
    (HX : ∀ j (h : j < vs.length) (h2 : j < Z.pages.length), BytF (fun k => grow F w wr k ∧ k ≠ db ∧ k ≠ zb) wr vs[j] Z.pages[j]) (HB : Below wr.heap.size wr u) (HO : RowV u wr.heap.size 35 v (vs.take (DevS.stays Z kp) ++ (if (tt && decide (DevS.stays Z kp < Z.pages.length)) = true then [.slice none 0 0] else []))) (hN : (vs.take (DevS.stays Z kp) ++ (if (tt && decide (DevS.stays Z kp < Z.pages.length)) = true then [Value.slice none 0 0] else [])).length = N) (HK : Kept F w wr) :
    (∃ zs', RD (grow F w (((u.setCell ⟨zb, i * 3, none⟩ v).setCell ⟨zb, i * 3 + 1, none⟩ (.int .i64 (N : Int))).setCell ⟨zb, i * 3 + 2, none⟩ (.bool fi))) (((u.setCell ⟨zb, i * 3, none⟩ v).setCell ⟨zb, i * 3 + 1, none⟩ (.int .i64 (N : Int))).setCell ⟨zb, i * 3 + 2, none⟩ (.bool fi)) db zb cap zs' (crashTo S keep tear (i + 1))) ∧
    Kept F w (((u.setCell ⟨zb, i * 3, none⟩ v).setCell ⟨zb, i * 3 + 1, none⟩ (.int .i64 (N : Int))).setCell ⟨zb, i * 3 + 2, none⟩ (.bool fi)) := by
  have hrow := rows_left (t := tt) hvl hsu HX HB (lt_of_block H1.dev) (lt_of_block H1.blk) HO
  have hs : (DevS.crashZ Z kp tt).sure = N := by
    rw [← hN]
    simp only [DevS.crashZ, DevS.left1, List.length_append, List.length_take, hvl]
    split <;> simp
  have hf : (DevS.crashZ Z kp tt).fin = fi := hfi
  have h := rd_anew (z := DevS.crashZ Z kp tt) H1 (by rw [crashTo_len]; exact hlt) HB hrow (by rw [← hCA, crashTo_put hlt]; exact crashTo_wf hwf keep tear _)
  rw [hs, hf, ← hCA, crashTo_put hlt] at h
  obtain ⟨⟨zs', h1⟩, h2⟩ := h
  exact ⟨⟨zs', rd_rounds h1 HK.size h2.size⟩, HK.trans h2⟩
end Go.Proofs.YtljpkngbhdplbaaDoor
