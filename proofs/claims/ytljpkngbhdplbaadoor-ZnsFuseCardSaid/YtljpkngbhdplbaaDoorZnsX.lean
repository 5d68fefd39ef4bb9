/-
  platelayerlaw07.ZnsApart answers true.
-/
import Derived.Test.YtljpkngbhdplbaaDoorZnsW
namespace Go.Proofs.YtljpkngbhdplbaaDoor
open Go.RowKit

theorem put_zone {S : DevS} {m : Int} {n : Nat} {z : ZoneS} (hm : S.is m = true) (hn : (n : Int) ≠ m) : (S.put m z).zone (n : Int) = S.zone (n : Int) := by
  obtain ⟨h0, _⟩ := DevS.is_iff.1 hm
  have h : m.toNat ≠ n := by omega
  simp only [DevS.zone, DevS.put, Int.toNat_natCast, List.getD_eq_getElem?_getD]
  rw [List.getElem?_set_ne h]
theorem may_zone (S : DevS) (e n : Int) : (S.mayS e).zone n = S.zone n := by unfold DevS.zone; rw [DevS.mayS_zones]
theorem may_gone {S : DevS} {e : Int} (h : (S.mayS e).gone = false) : S.gone = false := by
  unfold DevS.mayS at h
  cases hg : S.gone
  · rfl
  · rw [if_pos hg, hg] at h
    exact h
/-- What is told of a zone by its pages alone. -/
structure Alike (S T : DevS) (n : Nat) : Prop where
  gone : T.gone = S.gone
  P : T.P = S.P
  len : T.zones.length = S.zones.length
  pages : (T.zone (n : Int)).pages = (S.zone (n : Int)).pages
theorem Alike.seen {S T : DevS} {n : Nat} (h : Alike S T n) : seenB T n = seenB S n := by
  have hi : T.is (n : Int) = S.is (n : Int) := by unfold DevS.is; rw [h.len]
  have hp : T.point (n : Int) = S.point (n : Int) := by unfold DevS.point; rw [hi, h.pages]
  have hr : ∀ p, T.readB (n : Int) p = S.readB (n : Int) p := fun p => by
    have he : T.readE (n : Int) p = S.readE (n : Int) p := by unfold DevS.readE; rw [h.gone, hi, h.P, h.pages]
    unfold DevS.readB
    rw [he, h.pages]
  unfold seenB seenTo
  rw [hp]
  simp only [hr]
theorem flush_zone (S : DevS) (n : Nat) (hi : n < S.zones.length) : (({ S with zones := S.zones.map DevS.allSure } : DevS).zone (n : Int)).pages = (S.zone (n : Int)).pages := by
  simp only [DevS.zone, Int.toNat_natCast, List.getD_eq_getElem?_getD, List.getElem?_map, List.getElem?_eq_getElem hi, Option.map_some, Option.getD_some]
  rfl
theorem alike_put {S T : DevS} {m : Int} {n : Nat} {z : ZoneS} (h : Alike S T n) (hm : T.is m = true) (hn : (n : Int) ≠ m) : Alike S (T.put m z) n :=
  ⟨h.gone, h.P, (put_len _ _ _).trans h.len, by rw [put_zone hm hn]; exact h.pages⟩
theorem alike_may {S : DevS} {e : Int} {n : Nat} (hg : S.gone = false) (h : (S.mayS e).gone = false) : Alike S (S.mayS e) n :=
  ⟨by rw [h, hg], DevS.mayS_P S e, by rw [DevS.mayS_zones], by rw [may_zone]⟩
/-- An act that isn't a crash changes no other zone's pages. -/
theorem apart_of {S : DevS} {x : ActS} {n : Nat} (hn : n < S.zones.length) (h6 : x.Do ≠ 6) (hg : S.gone = false) (h : (actS S x).gone = false) (hz : (n : Int) ≠ x.zone) : Alike S (actS S x) n := by
  unfold actS at h ⊢
  split at h
  · rename_i h0
    rw [if_pos h0]
    unfold DevS.app at h ⊢
    split at h
    · rename_i h1
      rw [if_pos h1]
      exact alike_put (alike_may hg h) (by rw [is_may]; exact (DevS.app_ok (DevS.mayE_ok h1).1).1) hz
    · rename_i h1
      rw [if_neg h1]
      exact alike_may hg h
  · rename_i h0
    rw [if_neg h0]
    split at h
    · rename_i h2
      rw [if_pos h2]
      unfold DevS.reset at h ⊢
      split at h
      · rename_i h1
        rw [if_pos h1]
        refine alike_put (alike_may hg h) ?_ hz
        rw [is_may]
        have := (DevS.mayE_ok h1).1
        unfold DevS.resetE at this
        split at this
        · assumption
        · omega
      · rename_i h1
        rw [if_neg h1]
        exact alike_may hg h
    · rename_i h2
      rw [if_neg h2]
      split at h
      · rename_i h3
        rw [if_pos h3]
        unfold DevS.finish at h ⊢
        split at h
        · rename_i h1
          rw [if_pos h1]
          exact alike_put (alike_may hg h) (by rw [is_may]; exact DevS.finE_ok (DevS.mayE_ok h1).1) hz
        · rename_i h1
          rw [if_neg h1]
          exact alike_may hg h
      · rename_i h3
        rw [if_neg h3]
        split at h
        · rename_i h4
          rw [if_pos h4]
          unfold DevS.flush at h ⊢
          split at h
          · rename_i h1
            rw [if_pos h1]
            have hm := alike_may (n := n) hg h
            have hz2 : (S.mayS 0).zones = S.zones := DevS.mayS_zones S 0
            refine ⟨hm.gone, hm.P, by simp, ?_⟩
            have := flush_zone (S.mayS 0) n (by rw [hz2]; exact hn)
            rw [hz2] at this
            exact this.trans hm.pages
          · rename_i h1
            rw [if_neg h1]
            exact alike_may hg h
        · rename_i h4
          rw [if_neg h4]
          split at h
          · rename_i h5
            rw [if_pos h5]
            exact ⟨rfl, rfl, rfl, rfl⟩
          · rename_i h5
            rw [if_neg h5, if_neg h6]
            exact ⟨rfl, rfl, rfl, rfl⟩
theorem acts_one {F : Nat → Prop} {u : World} {g : Nat} {x : ActS} {v1 v2 v3 : Value} (h : Blk u g 39 (actCells x v1 v2 v3)) (hx : ActF F u v1 v2 v3 x) (hg : F g) : ActsF F u (some ⟨g, 0, none⟩) [x] := by
  intro _
  refine ⟨g, 0, rfl, lt_of_block h, hg, fun i hi => ?_⟩
  have hi2 : i < 1 := hi
  have c := fun k v (e : (actCells x v1 v2 v3)[k]? = some v) => blk_cell h k v e
  obtain rfl : i = 0 := by omega
  exact ⟨v1, v2, v3, hx, c 0 _ rfl, c 1 _ rfl, c 2 _ rfl, c 3 _ rfl, c 4 _ rfl, c 5 _ rfl⟩
/-- What was seen of the first zones: a row of rows of bytes, each in memory of its own. -/
structure Was (u wr : World) (S : DevS) (v : Value) (vs : List Value) (j : Nat) : Prop where
  row : RowV wr u.heap.size 35 v vs
  len : vs.length = j
  each : ∀ t (h : t < vs.length), RowV wr u.heap.size 5 vs[t] (cellsOf8 (seenB S t))
theorem Was.nil (u wr : World) (S : DevS) : Was u wr S (.slice none 0 0) [] 0 := ⟨⟨rfl, .inl ⟨rfl, rfl⟩⟩, rfl, fun t h => by simp at h⟩
theorem Was.up {u wr w' : World} {S : DevS} {v : Value} {vs : List Value} {j : Nat} (h : Was u wr S v vs j) (hb : Below wr.heap.size wr w') : Was u w' S v vs j := ⟨h.row.rise hb, h.len, fun t ht => (h.each t ht).rise hb⟩
theorem Was.keep {G : Nat → Prop} {u wr w' : World} {S : DevS} {v : Value} {vs : List Value} {j : Nat} (h : Was u wr S v vs j) (hk : Kept G wr w') (hG : ∀ k, G k → k < u.heap.size) : Was u w' S v vs j :=
  ⟨h.row.keep hk (fun g e e2 => by have := (h.row.own g e).1; have := hG g e2; omega), h.len, fun t ht => (h.each t ht).keep hk (fun g e e2 => by have := ((h.each t ht).own g e).1; have := hG g e2; omega)⟩
theorem Was.more {u wr w' : World} {S : DevS} {v v3 v' : Value} {vs : List Value} {j : Nat} (h : Was u wr S v vs j) (h3 : RowV wr u.heap.size 5 v3 (cellsOf8 (seenB S j))) (hr : RowV w' u.heap.size 35 v' (vs ++ [v3])) (hg : wr.grownBy w' v.ownBlock) : Was u w' S v' (vs ++ [v3]) (j + 1) := by
  refine ⟨hr, by simp [h.len], fun t ht => ?_⟩
  by_cases ht2 : t < vs.length
  · rw [List.getElem_append_left ht2]
    exact (h.each t ht2).kept hg ((h.each t ht2).apart h.row (by decide))
  · have e : t = vs.length := by simp at ht; omega
    subst e
    rw [List.getElem_append_right (by omega)]
    simp only [Nat.sub_self, List.getElem_cons_zero, h.len]
    exact h3.kept hg (h3.apart h.row (by decide))
set_option maxHeartbeats 4000000 in
set_option maxRecDepth 100000 in
theorem zapart_true (Z : ZOps) {w : World} (hg : Gl w) (n p : Int) (A : Option Addr) (m c : Nat) (l : List ActS) (hl : l.length = m) (hA : ActsF (fun k => k < w.heap.size) w A l) (hok : ∀ x ∈ l, ActOk x)
    (one : ActS) (v1 v2 v3 : Value) (h1 : ActF (fun k => k < w.heap.size) w v1 v2 v3 one) (ho1 : ActOk one) :
    Calls Tryd.prog 8 #[.int .i64 n, .int .i64 p, .slice A m c, actV one v1 v2 v3] w (BoolB true w) := by
  obtain ⟨A1, c1, A2, c2, A3, c3, rfl, rfl, rfl⟩ := h1.form
  obtain ⟨W, hW⟩ : ∃ W, w.alloc (.cells #[.int .i64 one.Do, .int .i64 one.zone, .int .i64 one.page, .slice A1 one.B.length c1, .slice A2 one.keep.length c2, .slice A3 one.tear.length c3] 39) = W := ⟨_, rfl⟩
  have HBW : Hid (Below w.heap.size w W) := Lib.hid (by rw [← hW]; exact Below.alloc (Below.refl _ _) (Nat.le_refl _) _)
  have HG := Lib.hid (hg.below HBW.out)
  have HSW : Hid (W.heap.size = w.heap.size + 1) := Lib.hid (by rw [← hW, World.size_alloc])
  have HX1 : Hid (Blk W w.heap.size 39 (actCells one (.slice A1 one.B.length c1) (.slice A2 one.keep.length c2) (.slice A3 one.tear.length c3))) := Lib.hid (by rw [← hW]; exact heap_alloc_new w _)
  have up : ∀ k, k < w.heap.size → k < W.heap.size := fun k e => Nat.lt_of_lt_of_le e HBW.out.size
  have HA : Hid (ActsF (fun k => k < W.heap.size) W A l) := Lib.hid (by
    intro hp
    obtain ⟨b, o, e, hlt, hb, hx⟩ := (hA.up HBW.out) hp
    exact ⟨b, o, e, hlt, up b hb, fun i hi => by obtain ⟨x1, x2, x3, hf, r⟩ := hx i hi; exact ⟨x1, x2, x3, hf.mono up, r⟩⟩)
  have HF1 : Hid (ActF (fun k => k < W.heap.size) W (.slice A1 one.B.length c1) (.slice A2 one.keep.length c2) (.slice A3 one.tear.length c3) one) := Lib.hid ((h1.up HBW.out).mono up)
  have HL := Lib.hid hl
  have HOK := Lib.hid hok
  have HO1 := Lib.hid ho1
  have hw1 : w.heap.size < W.heap.size := by have := HSW.out; omega
  clear hg hA hok h1 ho1 up
  unfold actV
  go_enter Tryd.func8, Tryd.ntmps8
  go_wp2_with fail
  clear hW
  refine (zawake_true Z HG.out).mono ?_
  rintro r w1 ⟨rfl, hb⟩
  have HB1 := Lib.hid hb
  clear hb
  go_wp2_with fail
  refine (Z.new n p).mono ?_
  cases hnw : newD n p with
  | none =>
    rintro r w3 ⟨rfl, hb⟩
    have HB3 := Lib.hid (below_on HB1.out hb)
    clear hb
    generalize errV 1 = e1
    go_wp2_with fail
    go_ret
    exact ⟨rfl, HBW.out.trans (HB3.out.mono HBW.out.size)⟩
  | some S0 =>
    have HS0 : Hid (S0.done = 0 ∧ (S0.zones.length : Int) = n) := Lib.hid (by
      unfold newD at hnw
      split at hnw
      · have := Option.some.inj hnw
        subst this
        exact ⟨rfl, by simp [DevS.new]; omega⟩
      · cases hnw)
    rintro r w3 ⟨db, rfl, hd, hb⟩
    have HB3 := Lib.hid (below_on HB1.out hb)
    have HT3 : Hid (One Z W w3 db S0 (fun k => w1.heap.size ≤ k ∧ k < w3.heap.size)) := Lib.hid ⟨hd, fun k e => by have := HB1.out.size; omega, HB3.out⟩
    clear hb hd
    go_wp2_with fail
    refine (large_is hl (HA.out.up HB3.out)).mono ?_
    rintro r w4 ⟨rfl, hb⟩
    have HT4 := Lib.hid (HT3.out.up hb)
    clear hb HT3
    cases hlg : largeA l with
    | true =>
      go_wp2_with fail
      go_ret
      exact ⟨rfl, HBW.out.trans (HT4.out.old.mono HBW.out.size)⟩
    | false =>
      have HLG := Lib.hid (large_bd hlg)
      have hm100 : m ≤ 100 := by rw [← hl]; exact HLG.out.1
      clear hlg
      have HX1' := Lib.hid (HX1.out.up HT4.out.old hw1)
      have a0 := HX1'.out.cell 0 (by simp [actCells])
      have a1 := HX1'.out.cell 1 (by simp [actCells])
      have a2 := HX1'.out.cell 2 (by simp [actCells])
      have a3 := HX1'.out.cell 3 (by simp [actCells])
      have a4 := HX1'.out.cell 4 (by simp [actCells])
      have a5 := HX1'.out.cell 5 (by simp [actCells])
      simp only [actCells, List.getElem_cons_zero, List.getElem_cons_succ] at a0 a1 a2 a3 a4 a5
      go_wp2_with fail
      refine (large_is (F := fun _ => True) (l := [one]) rfl (acts_one (heap_alloc_new w4 _) ((HF1.out.up (HT4.out.old.alloc HT4.out.old.size _)).mono (fun _ _ => trivial)) trivial)).mono ?_
      rintro r w5 ⟨rfl, hb⟩
      have HT5 := Lib.hid ((HT4.out.up (Below.alloc (Below.refl _ _) (Nat.le_refl _) _)).up hb)
      clear hb HT4 HX1' a0 a1 a2 a3 a4 a5
      cases hlg : largeA [one] with
      | true =>
        go_wp2_with fail
        go_ret
        exact ⟨rfl, HBW.out.trans (HT5.out.old.mono HBW.out.size)⟩
      | false =>
        have HLG2 := Lib.hid ((large_bd hlg).2 one (by simp))
        clear hlg
        have a0 := (HX1.out.up HT5.out.old hw1).cell 0 (by simp [actCells])
        simp only [actCells, List.getElem_cons_zero] at a0
        by_cases h6 : one.Do = 6
        · have q6 : (one.Do == 6) = true := by simpa using h6
          go_wp2_with fail
          go_ret
          exact ⟨rfl, HBW.out.trans (HT5.out.old.mono HBW.out.size)⟩
        have q6 : (one.Do == 6) = false := by simpa using h6
        have H6 := Lib.hid h6
        obtain ⟨N, hN⟩ : ∃ N, S0.zones.length = N := ⟨_, rfl⟩
        obtain rfl : n = (N : Int) := by rw [← hN]; exact HS0.out.2.symm
        have HN := Lib.hid hN
        have hN24 : N ≤ 24 := by rw [← hN]; exact (Z.wf HT5.out.d).z1
        clear hN hnw h6
        go_wp2_with fail
        clear a0 q6
        go_loopg [46] m (fun q x wr => ∃ (i : Nat) (S : DevS) (F : Nat → Prop), i ≤ m ∧ q = m - i ∧ x = .int .i64 i ∧ S.done ≤ i ∧ S.zones.length = N ∧ One Z W wr db S F)
        case atStart => exact ⟨0, S0, _, by omega, by omega, rfl, by rw [HS0.out.1]; omega, HN.out, HT5.out⟩
        case round =>
          clear HT5
          obtain ⟨i, S, F, hi, hq, rfl, hsd, hsz, ht⟩ := hrel
          have HQ := Lib.hid hq
          have HT := Lib.hid ht
          have HSD := Lib.hid hsd
          have HSZ := Lib.hid hsz
          clear hq ht hsd hsz
          by_cases hlt : i < m
          · have hll : i < l.length := by rw [HL.out]; exact hlt
            obtain ⟨b, o, rfl, hbl, _, hx⟩ := HA.out (by omega)
            obtain ⟨vb, vk, vt, hf, h0, h1, h2, h3, h4, h5⟩ := hx i hll
            have hxo := HOK.out l[i] (List.getElem_mem hll)
            have hxm := HLG.out.2 l[i] (List.getElem_mem hll)
            obtain ⟨x, hx⟩ : ∃ x, l[i] = x := ⟨_, rfl⟩
            rw [hx] at hf h0 h1 h2 hxo hxm
            obtain ⟨D1, d1, D2, d2, D3, d3, rfl, rfl, rfl⟩ := hf.form
            have k0 := (HT.out.old.cell (p := ⟨b, o + i * 6, none⟩) hbl).trans h0
            have k1 := (HT.out.old.cell (p := ⟨b, o + i * 6 + 1, none⟩) hbl).trans h1
            have k2 := (HT.out.old.cell (p := ⟨b, o + i * 6 + 2, none⟩) hbl).trans h2
            have k3 := (HT.out.old.cell (p := ⟨b, o + i * 6 + 3, none⟩) hbl).trans h3
            have k4 := (HT.out.old.cell (p := ⟨b, o + i * 6 + 4, none⟩) hbl).trans h4
            have k5 := (HT.out.old.cell (p := ⟨b, o + i * 6 + 5, none⟩) hbl).trans h5
            have HXO := Lib.hid hxo
            have HXM := Lib.hid hxm
            have HFX := Lib.hid hf
            have HT2 := Lib.hid (HT.out.up (w' := wr.alloc (.cells #[.int .i64 x.Do, .int .i64 x.zone, .int .i64 x.page, .slice D1 x.B.length d1, .slice D2 x.keep.length d2, .slice D3 x.tear.length d3] 39)) (Below.alloc (Below.refl _ _) (Nat.le_refl _) _))
            clear hf hx h0 h1 h2 h3 h4 h5 hxo hxm HT
            go_wp2_with fail
            refine (do_at x _ _ _ Z HT2.out.d (HG.out.below HT2.out.old) (fun e => by have := HT2.out.f _ e; have := lt_of_cell HG.out; simp only at this; omega) (by have := HSD.out; omega) (HT2.out.act HFX.out) HXO.out HXM.out).mono ?_
            rintro r w6 ⟨v, rfl, hd, hk, _⟩
            have HT3 := Lib.hid (HT2.out.done hd hk)
            clear hd hk
            generalize (actT S x).n = tn
            generalize (actT S x).e = te
            go_wp2_with fail
            go_roundg (m - (i + 1))
            case rel => exact ⟨i + 1, _, _, by omega, rfl, by go_num, by have := actS_done S x; have := HSD.out; omega, by rw [actS_zones]; exact HSZ.out, HT3.out⟩
            case measure => have := HQ.out; omega
          · obtain rfl : i = m := by omega
            go_wp2_with fail
            refine (Z.down HT.out.d).mono ?_
            rintro r w6 ⟨rfl, hb⟩
            have HT6 := Lib.hid (HT.out.up hb)
            clear hb HT HQ
            have hd101 : S.done ≤ 1000000 := by have := HSD.out; omega
            clear HSD
            cases hgn : S.gone with
            | true =>
              clear hgn
              go_wp2_with fail
              refine (Z.crash _ _ [] [] HT6.out.d (RowF.nil _ _) (RowF.nil _ _) (by decide) (by decide) (fun n hn => by cases hn)).mono ?_
              rintro r w7 ⟨rfl, hd, hk⟩
              have HT7 := Lib.hid (HT6.out.done hd hk)
              have HZ1 : Hid ((S.crash [] []).zones.length = N) := Lib.hid (by simp [DevS.crash]; exact HSZ.out)
              have HGN : Hid ((S.crash [] []).gone = false) := Lib.hid rfl
              have HDN : Hid ((S.crash [] []).done ≤ 1000000) := Lib.hid hd101
              obtain ⟨FF, hFF⟩ : ∃ FF, grow F w6 w7 = FF := ⟨_, rfl⟩
              rw [hFF] at HT7
              generalize S.crash [] [] = S1 at HT7 HZ1 HGN HDN
              clear hd hk HT6 HSZ hd101 hFF
              have HL7 := Lib.hid (fun k e => Z.lt HT7.out.d k e)
              have HWF := Lib.hid (Z.wf HT7.out.d)
              go_wp2_with fail
              go_loopg [13, 59] N (fun q v x wr => ∃ (j : Nat) (vs : List Value), j ≤ N ∧ q = N - j ∧ x = .int .i64 j ∧ Was w7 wr S1 v vs j ∧ Below w7.heap.size w7 wr)
              case atStart => exact ⟨0, [], by omega, by omega, rfl, Was.nil _ _ _, Below.refl _ _⟩
              case round =>
                obtain ⟨j, vs, hj, hq, rfl, hwas, hb⟩ := hrel
                have HQ := Lib.hid hq
                have HS := Lib.hid hwas
                have HB := Lib.hid hb
                obtain ⟨VA, vc, e0, _⟩ := hwas.row.out
                rw [hwas.len] at e0
                subst e0
                clear hq hb hwas
                by_cases hjl : j < N
                · go_wp2_with fail
                  refine (seen_at Z j (HT7.out.up HB.out).d).mono ?_
                  rintro r w8 ⟨sv, rfl, _, hb, hrow⟩
                  obtain ⟨sA, sc, e1, _⟩ := hrow.out
                  obtain ⟨sl, hsl⟩ : ∃ sl, (cellsOf8 (seenB S1 (j : Int))).length = sl := ⟨_, rfl⟩
                  rw [hsl] at e1
                  subst e1
                  generalize S1.state (j : Int) = st
                  generalize (S1.point (j : Int) : Int) = pt
                  generalize (S1.sureOf (j : Int) : Int) = su
                  have HBA : Hid (Below w8.heap.size w8 ((w8.alloc (.cells #[.int .i64 st, .int .i64 pt, .int .i64 su] 64)).alloc (.cells #[.slice sA sl sc] 35))) := Lib.hid ((Below.alloc (Below.refl _ _) (Nat.le_refl _) _).alloc (by rw [World.size_alloc]; omega) _)
                  have HB8 := Lib.hid (below_on HB.out hb)
                  have HB9 := Lib.hid (below_on HB8.out HBA.out)
                  have HS9 := Lib.hid ((HS.out.up hb).up HBA.out)
                  have HR9 := Lib.hid ((hrow.le HB.out.size).rise HBA.out)
                  have HSL := Lib.hid hsl
                  have HRD : Hid (RdV ((w8.alloc (.cells #[.int .i64 st, .int .i64 pt, .int .i64 su] 64)).alloc (.cells #[.slice sA sl sc] 35)) ((w8.alloc (.cells #[.int .i64 st, .int .i64 pt, .int .i64 su] 64)).alloc (.cells #[.slice sA sl sc] 35)).heap.size (some ⟨w8.heap.size + 1, 0, none⟩) [.slice sA sl sc]) := Lib.hid (by
                    have h := rdv_one (w8.alloc (.cells #[.int .i64 st, .int .i64 pt, .int .i64 su] 64)) (.slice sA sl sc) 35
                    rwa [World.size_alloc w8] at h)
                  have HVL := Lib.hid HS.out.len
                  clear hb hrow hsl
                  go_wp2_with (first
                    | (at_builtin; refine appR _ rfl (.tmp 68) (.tmp 70) 48 35 (.slice none 0 0) 24 rfl Tryd.underlying48 infoRow rfl (by decide) w7.heap.size j 1 1 (.slice VA j vc) vs [.slice sA sl sc] (some ⟨w8.heap.size + 1, 0, none⟩) rfl HS9.out.row HVL.out rfl rfl HRD.out (fun e => by cases e) (fun u hu => by simp at hu; subst hu; rfl) ?h1b ?h1c ?_; (case h1b => omega); (case h1c => exact HB9.out.size); intro v3 w9 ho hg; have HS10 := Lib.hid (HS9.out.more HR9.out ho hg); have HB10 := Lib.hid (HB9.out.grown hg HB9.out.size (fun k e => (HS9.out.row.own k e).1)); clear ho hg)
                    | fail)
                  go_roundg (N - (j + 1))
                  case rel => exact ⟨j + 1, _, by omega, rfl, by go_num, HS10.out, HB10.out⟩
                  case measure => have := HQ.out; omega
                · obtain rfl : j = N := by omega
                  have HT8 := Lib.hid (HT7.out.up HB.out)
                  have HX8 := Lib.hid (fun u (h : Below W.heap.size W u) => HX1.out.up h hw1)
                  have a0 := (HX8.out _ HT8.out.old).cell 0 (by simp [actCells])
                  have a1 := (HX8.out _ HT8.out.old).cell 1 (by simp [actCells])
                  have a2 := (HX8.out _ HT8.out.old).cell 2 (by simp [actCells])
                  have a3 := (HX8.out _ HT8.out.old).cell 3 (by simp [actCells])
                  have a4 := (HX8.out _ HT8.out.old).cell 4 (by simp [actCells])
                  have a5 := (HX8.out _ HT8.out.old).cell 5 (by simp [actCells])
                  simp only [actCells, List.getElem_cons_zero, List.getElem_cons_succ] at a0 a1 a2 a3 a4 a5
                  go_wp2_with fail
                  refine (do_at one _ _ _ Z HT8.out.d (HG.out.below HT8.out.old) (fun e => by have := HT8.out.f _ e; have := lt_of_cell HG.out; simp only at this; omega) HDN.out (HT8.out.act HF1.out) HO1.out HLG2.out).mono ?_
                  rintro r w9 ⟨v, rfl, hd, hk, _⟩
                  have HT9 := Lib.hid (HT8.out.done hd hk)
                  have HS9 := Lib.hid (HS.out.keep hk (fun k e => HL7.out k e))
                  have HGA : Hid ((actS S1 one).gone = false → ∀ t : Nat, t < j → (t : Int) ≠ one.zone → seenB (actS S1 one) t = seenB S1 t) := Lib.hid (fun h t ht hz => (apart_of (by rw [HZ1.out]; exact ht) H6.out HGN.out h hz).seen)
                  clear hd hk HT8 a0 a1 a2 a3 a4 a5
                  generalize (actT S1 one).n = tn
                  generalize (actT S1 one).e = te
                  go_wp2_with fail
                  refine (Z.down HT9.out.d).mono ?_
                  rintro r wa ⟨rfl, hb⟩
                  have HTa := Lib.hid (HT9.out.up hb)
                  have HSa := Lib.hid (HS9.out.up hb)
                  clear hb HT9 HS9
                  generalize actS S1 one = S2 at *
                  cases hgn2 : S2.gone with
                  | true =>
                    go_wp2_with fail
                    refine (Z.crash _ _ [] [] HTa.out.d (RowF.nil _ _) (RowF.nil _ _) (by decide) (by decide) (fun n hn => by cases hn)).mono ?_
                    rintro r wb ⟨rfl, hd, hk⟩
                    have HTb := Lib.hid (HTa.out.done hd hk)
                    clear hd hk
                    go_wp2_with fail
                    go_ret
                    exact ⟨rfl, HBW.out.trans (HTb.out.old.mono HBW.out.size)⟩
                  | false =>
                    have HSE := Lib.hid (HGA.out hgn2)
                    clear hgn2 HGA
                    go_wp2_with fail
                    go_loopg [81] j (fun q x wr => ∃ t : Nat, t ≤ j ∧ q = j - t ∧ x = .int .i64 t ∧ Below wa.heap.size wa wr)
                    case atStart => exact ⟨0, by omega, by omega, rfl, Below.refl _ _⟩
                    case round =>
                      obtain ⟨t, ht, hq, rfl, hb⟩ := hrel
                      have HQ2 := Lib.hid hq
                      have HBb := Lib.hid hb
                      clear hq hb
                      by_cases htl : t < j
                      · have htv : t < vs.length := by rw [HSa.out.len]; exact htl
                        go_wp2_with fail
                        refine (seen_at Z t (HTa.out.up HBb.out).d).mono ?_
                        rintro r wc ⟨sv, rfl, _, hb, hrow⟩
                        have hlen := seenB_len (Z.wf HTa.out.d) t
                        obtain ⟨sA, sc, e1, _⟩ := hrow.out
                        obtain ⟨xs, hxs⟩ : ∃ xs, seenB S2 (t : Int) = xs := ⟨_, rfl⟩
                        rw [hxs] at hrow hlen e1
                        obtain ⟨xl, hxl⟩ : ∃ xl, xs.length = xl := ⟨_, rfl⟩
                        rw [cells8_len, hxl] at e1
                        subst e1
                        generalize S2.state (t : Int) = st
                        generalize (S2.point (t : Int) : Int) = pt
                        generalize (S2.sureOf (t : Int) : Int) = su
                        have HBd : Hid (Below wc.heap.size wc (wc.alloc (.cells #[.int .i64 st, .int .i64 pt, .int .i64 su] 64))) := Lib.hid (Below.alloc (Below.refl _ _) (Nat.le_refl _) _)
                        have HBc := Lib.hid (below_on (below_on HBb.out hb) HBd.out)
                        have HRd := Lib.hid (hrow.rise HBd.out)
                        have HSd := Lib.hid (HSa.out.up HBc.out)
                        have a1 := (HX8.out _ (HTa.out.up HBc.out).old).cell 1 (by simp [actCells])
                        simp only [actCells, List.getElem_cons_zero, List.getElem_cons_succ] at a1
                        have HXL := Lib.hid hxl
                        have HXS := Lib.hid hxs
                        rw [hxl] at hlen
                        clear hb hrow hxs hxl
                        by_cases hz : (t : Int) = one.zone
                        · have qz : ((t : Int) != one.zone) = false := by simp [hz]
                          go_wp2_with fail
                          go_roundg (j - (t + 1))
                          case rel => exact ⟨t + 1, by omega, rfl, by go_num, HBc.out⟩
                          case measure => have := HQ2.out; omega
                        · have qz : ((t : Int) != one.zone) = true := by simpa using hz
                          have HE1 : Hid (seenB S1 t = xs) := Lib.hid (by rw [← HSE.out t htl hz]; exact HXS.out)
                          obtain ⟨B, bo, hVA, _, hcell⟩ : ∃ b o : Nat, VA = some ⟨b, o, none⟩ ∧ b < (wc.alloc (.cells #[.int .i64 st, .int .i64 pt, .int .i64 su] 64)).heap.size ∧ ∀ i (h : i < vs.length), (wc.alloc (.cells #[.int .i64 st, .int .i64 pt, .int .i64 su] 64)).cell? ⟨b, o + i, none⟩ = some vs[i] := by
                            obtain ⟨A', c', e, _, hr, _⟩ := HSd.out.row.out
                            injection e with e1 _ _
                            subst e1
                            exact hr (by omega)
                          subst hVA
                          have hct := hcell t htv
                          have hrt := HSd.out.each t htv
                          rw [HE1.out] at hrt
                          obtain ⟨A4, c4, e4, _, hr4, _⟩ := hrt.out
                          rw [cells8_len, HXL.out] at e4
                          rw [e4] at hct
                          have HR4 := Lib.hid hr4.rd
                          have HR5 : Hid (Rd (wc.alloc (.cells #[.int .i64 st, .int .i64 pt, .int .i64 su] 64)) (wc.alloc (.cells #[.int .i64 st, .int .i64 pt, .int .i64 su] 64)).heap.size sA xs) := Lib.hid (by
                            obtain ⟨A', c', e, _, hr, _⟩ := HRd.out.out
                            injection e with e1 _ _
                            subst e1
                            exact hr.rd)
                          clear hcell hrt hr4 e4
                          go_wp2_with fail
                          refine (same_is HR5.out HR4.out HXL.out HXL.out (by omega)).mono ?_
                          rintro r we ⟨rfl, hb⟩
                          have hd : decide (xs = xs) = true := by simp
                          rw [hd]
                          have HBe := Lib.hid (below_on HBc.out hb)
                          clear hb hd
                          go_wp2_with fail
                          go_roundg (j - (t + 1))
                          case rel => exact ⟨t + 1, by omega, rfl, by go_num, HBe.out⟩
                          case measure => have := HQ2.out; omega
                      · obtain rfl : t = j := by omega
                        go_wp2_with fail
                        go_ret
                        exact ⟨rfl, HBW.out.trans ((below_on HTa.out.old HBb.out).mono HBW.out.size)⟩
            | false =>
              have HGN := Lib.hid hgn
              have HT7 := HT6
              have HZ1 := HSZ
              have HDN := Lib.hid hd101
              obtain ⟨S1, hS1⟩ : ∃ S1, S1 = S := ⟨_, rfl⟩
              subst hS1
              obtain ⟨w7, hw7⟩ : ∃ w7, w7 = w6 := ⟨_, rfl⟩
              subst hw7
              obtain ⟨FF, hFF⟩ : ∃ FF, FF = F := ⟨_, rfl⟩
              subst hFF
              clear HT6 HSZ hd101 hgn
              have HL7 := Lib.hid (fun k e => Z.lt HT7.out.d k e)
              have HWF := Lib.hid (Z.wf HT7.out.d)
              go_wp2_with fail
              go_loopg [13, 59] N (fun q v x wr => ∃ (j : Nat) (vs : List Value), j ≤ N ∧ q = N - j ∧ x = .int .i64 j ∧ Was w7 wr S1 v vs j ∧ Below w7.heap.size w7 wr)
              case atStart => exact ⟨0, [], by omega, by omega, rfl, Was.nil _ _ _, Below.refl _ _⟩
              case round =>
                obtain ⟨j, vs, hj, hq, rfl, hwas, hb⟩ := hrel
                have HQ := Lib.hid hq
                have HS := Lib.hid hwas
                have HB := Lib.hid hb
                obtain ⟨VA, vc, e0, _⟩ := hwas.row.out
                rw [hwas.len] at e0
                subst e0
                clear hq hb hwas
                by_cases hjl : j < N
                · go_wp2_with fail
                  refine (seen_at Z j (HT7.out.up HB.out).d).mono ?_
                  rintro r w8 ⟨sv, rfl, _, hb, hrow⟩
                  obtain ⟨sA, sc, e1, _⟩ := hrow.out
                  obtain ⟨sl, hsl⟩ : ∃ sl, (cellsOf8 (seenB S1 (j : Int))).length = sl := ⟨_, rfl⟩
                  rw [hsl] at e1
                  subst e1
                  generalize S1.state (j : Int) = st
                  generalize (S1.point (j : Int) : Int) = pt
                  generalize (S1.sureOf (j : Int) : Int) = su
                  have HBA : Hid (Below w8.heap.size w8 ((w8.alloc (.cells #[.int .i64 st, .int .i64 pt, .int .i64 su] 64)).alloc (.cells #[.slice sA sl sc] 35))) := Lib.hid ((Below.alloc (Below.refl _ _) (Nat.le_refl _) _).alloc (by rw [World.size_alloc]; omega) _)
                  have HB8 := Lib.hid (below_on HB.out hb)
                  have HB9 := Lib.hid (below_on HB8.out HBA.out)
                  have HS9 := Lib.hid ((HS.out.up hb).up HBA.out)
                  have HR9 := Lib.hid ((hrow.le HB.out.size).rise HBA.out)
                  have HSL := Lib.hid hsl
                  have HRD : Hid (RdV ((w8.alloc (.cells #[.int .i64 st, .int .i64 pt, .int .i64 su] 64)).alloc (.cells #[.slice sA sl sc] 35)) ((w8.alloc (.cells #[.int .i64 st, .int .i64 pt, .int .i64 su] 64)).alloc (.cells #[.slice sA sl sc] 35)).heap.size (some ⟨w8.heap.size + 1, 0, none⟩) [.slice sA sl sc]) := Lib.hid (by
                    have h := rdv_one (w8.alloc (.cells #[.int .i64 st, .int .i64 pt, .int .i64 su] 64)) (.slice sA sl sc) 35
                    rwa [World.size_alloc w8] at h)
                  have HVL := Lib.hid HS.out.len
                  clear hb hrow hsl
                  go_wp2_with (first
                    | (at_builtin; refine appR _ rfl (.tmp 68) (.tmp 70) 48 35 (.slice none 0 0) 24 rfl Tryd.underlying48 infoRow rfl (by decide) w7.heap.size j 1 1 (.slice VA j vc) vs [.slice sA sl sc] (some ⟨w8.heap.size + 1, 0, none⟩) rfl HS9.out.row HVL.out rfl rfl HRD.out (fun e => by cases e) (fun u hu => by simp at hu; subst hu; rfl) ?h1b ?h1c ?_; (case h1b => omega); (case h1c => exact HB9.out.size); intro v3 w9 ho hg; have HS10 := Lib.hid (HS9.out.more HR9.out ho hg); have HB10 := Lib.hid (HB9.out.grown hg HB9.out.size (fun k e => (HS9.out.row.own k e).1)); clear ho hg)
                    | fail)
                  go_roundg (N - (j + 1))
                  case rel => exact ⟨j + 1, _, by omega, rfl, by go_num, HS10.out, HB10.out⟩
                  case measure => have := HQ.out; omega
                · obtain rfl : j = N := by omega
                  have HT8 := Lib.hid (HT7.out.up HB.out)
                  have HX8 := Lib.hid (fun u (h : Below W.heap.size W u) => HX1.out.up h hw1)
                  have a0 := (HX8.out _ HT8.out.old).cell 0 (by simp [actCells])
                  have a1 := (HX8.out _ HT8.out.old).cell 1 (by simp [actCells])
                  have a2 := (HX8.out _ HT8.out.old).cell 2 (by simp [actCells])
                  have a3 := (HX8.out _ HT8.out.old).cell 3 (by simp [actCells])
                  have a4 := (HX8.out _ HT8.out.old).cell 4 (by simp [actCells])
                  have a5 := (HX8.out _ HT8.out.old).cell 5 (by simp [actCells])
                  simp only [actCells, List.getElem_cons_zero, List.getElem_cons_succ] at a0 a1 a2 a3 a4 a5
                  go_wp2_with fail
                  refine (do_at one _ _ _ Z HT8.out.d (HG.out.below HT8.out.old) (fun e => by have := HT8.out.f _ e; have := lt_of_cell HG.out; simp only at this; omega) HDN.out (HT8.out.act HF1.out) HO1.out HLG2.out).mono ?_
                  rintro r w9 ⟨v, rfl, hd, hk, _⟩
                  have HT9 := Lib.hid (HT8.out.done hd hk)
                  have HS9 := Lib.hid (HS.out.keep hk (fun k e => HL7.out k e))
                  have HGA : Hid ((actS S1 one).gone = false → ∀ t : Nat, t < j → (t : Int) ≠ one.zone → seenB (actS S1 one) t = seenB S1 t) := Lib.hid (fun h t ht hz => (apart_of (by rw [HZ1.out]; exact ht) H6.out HGN.out h hz).seen)
                  clear hd hk HT8 a0 a1 a2 a3 a4 a5
                  generalize (actT S1 one).n = tn
                  generalize (actT S1 one).e = te
                  go_wp2_with fail
                  refine (Z.down HT9.out.d).mono ?_
                  rintro r wa ⟨rfl, hb⟩
                  have HTa := Lib.hid (HT9.out.up hb)
                  have HSa := Lib.hid (HS9.out.up hb)
                  clear hb HT9 HS9
                  generalize actS S1 one = S2 at *
                  cases hgn2 : S2.gone with
                  | true =>
                    go_wp2_with fail
                    refine (Z.crash _ _ [] [] HTa.out.d (RowF.nil _ _) (RowF.nil _ _) (by decide) (by decide) (fun n hn => by cases hn)).mono ?_
                    rintro r wb ⟨rfl, hd, hk⟩
                    have HTb := Lib.hid (HTa.out.done hd hk)
                    clear hd hk
                    go_wp2_with fail
                    go_ret
                    exact ⟨rfl, HBW.out.trans (HTb.out.old.mono HBW.out.size)⟩
                  | false =>
                    have HSE := Lib.hid (HGA.out hgn2)
                    clear hgn2 HGA
                    go_wp2_with fail
                    go_loopg [81] j (fun q x wr => ∃ t : Nat, t ≤ j ∧ q = j - t ∧ x = .int .i64 t ∧ Below wa.heap.size wa wr)
                    case atStart => exact ⟨0, by omega, by omega, rfl, Below.refl _ _⟩
                    case round =>
                      obtain ⟨t, ht, hq, rfl, hb⟩ := hrel
                      have HQ2 := Lib.hid hq
                      have HBb := Lib.hid hb
                      clear hq hb
                      by_cases htl : t < j
                      · have htv : t < vs.length := by rw [HSa.out.len]; exact htl
                        go_wp2_with fail
                        refine (seen_at Z t (HTa.out.up HBb.out).d).mono ?_
                        rintro r wc ⟨sv, rfl, _, hb, hrow⟩
                        have hlen := seenB_len (Z.wf HTa.out.d) t
                        obtain ⟨sA, sc, e1, _⟩ := hrow.out
                        obtain ⟨xs, hxs⟩ : ∃ xs, seenB S2 (t : Int) = xs := ⟨_, rfl⟩
                        rw [hxs] at hrow hlen e1
                        obtain ⟨xl, hxl⟩ : ∃ xl, xs.length = xl := ⟨_, rfl⟩
                        rw [cells8_len, hxl] at e1
                        subst e1
                        generalize S2.state (t : Int) = st
                        generalize (S2.point (t : Int) : Int) = pt
                        generalize (S2.sureOf (t : Int) : Int) = su
                        have HBd : Hid (Below wc.heap.size wc (wc.alloc (.cells #[.int .i64 st, .int .i64 pt, .int .i64 su] 64))) := Lib.hid (Below.alloc (Below.refl _ _) (Nat.le_refl _) _)
                        have HBc := Lib.hid (below_on (below_on HBb.out hb) HBd.out)
                        have HRd := Lib.hid (hrow.rise HBd.out)
                        have HSd := Lib.hid (HSa.out.up HBc.out)
                        have a1 := (HX8.out _ (HTa.out.up HBc.out).old).cell 1 (by simp [actCells])
                        simp only [actCells, List.getElem_cons_zero, List.getElem_cons_succ] at a1
                        have HXL := Lib.hid hxl
                        have HXS := Lib.hid hxs
                        rw [hxl] at hlen
                        clear hb hrow hxs hxl
                        by_cases hz : (t : Int) = one.zone
                        · have qz : ((t : Int) != one.zone) = false := by simp [hz]
                          go_wp2_with fail
                          go_roundg (j - (t + 1))
                          case rel => exact ⟨t + 1, by omega, rfl, by go_num, HBc.out⟩
                          case measure => have := HQ2.out; omega
                        · have qz : ((t : Int) != one.zone) = true := by simpa using hz
                          have HE1 : Hid (seenB S1 t = xs) := Lib.hid (by rw [← HSE.out t htl hz]; exact HXS.out)
                          obtain ⟨B, bo, hVA, _, hcell⟩ : ∃ b o : Nat, VA = some ⟨b, o, none⟩ ∧ b < (wc.alloc (.cells #[.int .i64 st, .int .i64 pt, .int .i64 su] 64)).heap.size ∧ ∀ i (h : i < vs.length), (wc.alloc (.cells #[.int .i64 st, .int .i64 pt, .int .i64 su] 64)).cell? ⟨b, o + i, none⟩ = some vs[i] := by
                            obtain ⟨A', c', e, _, hr, _⟩ := HSd.out.row.out
                            injection e with e1 _ _
                            subst e1
                            exact hr (by omega)
                          subst hVA
                          have hct := hcell t htv
                          have hrt := HSd.out.each t htv
                          rw [HE1.out] at hrt
                          obtain ⟨A4, c4, e4, _, hr4, _⟩ := hrt.out
                          rw [cells8_len, HXL.out] at e4
                          rw [e4] at hct
                          have HR4 := Lib.hid hr4.rd
                          have HR5 : Hid (Rd (wc.alloc (.cells #[.int .i64 st, .int .i64 pt, .int .i64 su] 64)) (wc.alloc (.cells #[.int .i64 st, .int .i64 pt, .int .i64 su] 64)).heap.size sA xs) := Lib.hid (by
                            obtain ⟨A', c', e, _, hr, _⟩ := HRd.out.out
                            injection e with e1 _ _
                            subst e1
                            exact hr.rd)
                          clear hcell hrt hr4 e4
                          go_wp2_with fail
                          refine (same_is HR5.out HR4.out HXL.out HXL.out (by omega)).mono ?_
                          rintro r we ⟨rfl, hb⟩
                          have hd : decide (xs = xs) = true := by simp
                          rw [hd]
                          have HBe := Lib.hid (below_on HBc.out hb)
                          clear hb hd
                          go_wp2_with fail
                          go_roundg (j - (t + 1))
                          case rel => exact ⟨t + 1, by omega, rfl, by go_num, HBe.out⟩
                          case measure => have := HQ2.out; omega
                      · obtain rfl : t = j := by omega
                        go_wp2_with fail
                        go_ret
                        exact ⟨rfl, HBW.out.trans ((below_on HTa.out.old HBb.out).mono HBW.out.size)⟩
end Go.Proofs.YtljpkngbhdplbaaDoor
