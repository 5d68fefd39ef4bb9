/-
  platelayerlaw07.ZnsAgain answers true.
-/
import Derived.Test.YtljpkngbhdplbaaDoorZnsV
import Derived.Laws.StructEq
import Derived.ChangeKeysEq
namespace Go.Proofs.YtljpkngbhdplbaaDoor
open Go.RowKit

/-- What crashed once may crash again. -/
theorem crash_sure (S : DevS) (k : List Int) (t : List Bool) : ∀ z ∈ (S.crash k t).zones, z.sure = z.pages.length := by
  intro z hz
  simp only [DevS.crash, List.mem_map, List.mem_range] at hz
  obtain ⟨i, hi, rfl⟩ := hz
  rfl
theorem crashZ_same {z : ZoneS} (h : z.sure = z.pages.length) (k : Int) (t : Bool) : DevS.crashZ z k t = z := by
  have hs : DevS.stays z k = z.pages.length := by unfold DevS.stays; omega
  have hl : DevS.left1 z k t = z.pages := by
    unfold DevS.left1
    rw [hs]
    simp
  unfold DevS.crashZ
  rw [hl]
  obtain ⟨p, s, f⟩ := z
  simp only at h
  rw [h]
theorem crash_again (S : DevS) (k k2 : List Int) (t t2 : List Bool) : (S.crash k t).crash k2 t2 = S.crash k t := by
  have hz : ∀ T : DevS, (∀ z ∈ T.zones, z.sure = z.pages.length) → (List.range T.zones.length).map (fun i => DevS.crashZ (T.zones.getD i ZoneS.empty) (k2.getD i 0) (t2.getD i false)) = T.zones := fun T hT => by
    refine List.ext_getElem (by simp) fun j h1 h2 => ?_
    simp only [List.getElem_map, List.getElem_range]
    rw [List.getD_eq_getElem?_getD, List.getElem?_eq_getElem h2]
    exact crashZ_same (hT _ (List.getElem_mem h2)) _ _
  have e := hz (S.crash k t) (crash_sure S k t)
  show { S.crash k t with zones := (List.range (S.crash k t).zones.length).map (fun i => DevS.crashZ ((S.crash k t).zones.getD i ZoneS.empty) (k2.getD i 0) (t2.getD i false)), left := -1, gone := false } = S.crash k t
  rw [e]
  rfl
set_option maxRecDepth 100000 in
theorem int3_eq (a b c : Int) (w : World) : (Op.equalIn 10000 64 (.agg #[.int .i64 a, .int .i64 b, .int .i64 c]) (.agg #[.int .i64 a, .int .i64 b, .int .i64 c])).run Tryd.prog w = .ok true w := by
  obtain ⟨i, hi⟩ : ∃ i, Tryd.prog.info? 3 = some i := ⟨_, rfl⟩
  have hc : Tryd.prog.cellsOf 3 = 1 := by kernel_rfl
  rw [show (10000 : Nat) = 9999 + 1 from rfl, run_equalIn_array (w := w) 9999 _ _ Tryd.underlying64 hi, hc]
  simp [List.range, List.range.loop, Op.eqItems, go_sem]
theorem int3_guard (o : BinOp) (x y : Operand) (xs ys : Array Value) (w : World) : (eqGuard o 64 x y (.agg xs) (.agg ys)).run Tryd.prog w = .ok () w := run_eqGuard_agg w o 64 x y xs ys (by kernel_rfl)
theorem int3_neq (a b c : Int) (w : World) : (binOp .neq 64 (.agg #[.int .i64 a, .int .i64 b, .int .i64 c]) (.agg #[.int .i64 a, .int .i64 b, .int .i64 c])).run Tryd.prog w = .ok (.bool false) w := by
  rw [run_neq_struct, int3_eq]
  rfl
theorem put_len (S : DevS) (n : Int) (z : ZoneS) : (S.put n z).zones.length = S.zones.length := by simp [DevS.put]
theorem actS_zones (S : DevS) (x : ActS) : (actS S x).zones.length = S.zones.length := by
  have hm : ∀ e, (S.mayS e).zones.length = S.zones.length := fun e => by rw [DevS.mayS_zones]
  unfold actS
  split
  · unfold DevS.app
    split
    · rw [put_len]; exact hm _
    · exact hm _
  · split
    · unfold DevS.reset
      split
      · rw [put_len]; exact hm _
      · exact hm _
    · split
      · unfold DevS.finish
        split
        · rw [put_len]; exact hm _
        · exact hm _
      · split
        · unfold DevS.flush
          split
          · simp
          · exact hm _
        · split
          · rfl
          · split
            · simp [DevS.crash]
            · rfl
theorem seenB_len {S : DevS} (h : S.WF) (n : Int) : (seenB S n).length ≤ 544 := by
  have := seenTo_len h n (S.point n)
  have := point_le h n
  unfold seenB
  omega
/-- One device in memory, apart from what was there at first. -/
structure One (Z : ZOps) (w0 w : World) (db : Nat) (S : DevS) (F : Nat → Prop) : Prop where
  d : Z.D F w db S
  f : ∀ k, F k → w0.heap.size ≤ k
  old : Below w0.heap.size w0 w
theorem One.up {Z : ZOps} {w0 w w' : World} {db : Nat} {S : DevS} {F : Nat → Prop} (h : One Z w0 w db S F) (hb : Below w.heap.size w w') : One Z w0 w' db S F := ⟨Z.up h.d hb, h.f, below_on h.old hb⟩
theorem One.keep {Z : ZOps} {w0 w w' : World} {db : Nat} {S : DevS} {F G : Nat → Prop} (h : One Z w0 w db S F) (hk : Kept G w w') (h1 : ∀ k, G k → ¬ F k) (h2 : ∀ k, G k → w0.heap.size ≤ k) : One Z w0 w' db S F :=
  ⟨Z.keep h.d hk (fun k e e2 => h1 k e2 e), h.f, h.old.trans (hk.below h.old.size h2)⟩
theorem One.done {Z : ZOps} {w0 w w' : World} {db : Nat} {S S' : DevS} {F : Nat → Prop} (h : One Z w0 w db S F) (hd : Z.D (grow F w w') w' db S') (hk : Kept F w w') : One Z w0 w' db S' (grow F w w') :=
  ⟨hd, fun k e => e.elim (h.f k) (fun e => Nat.le_trans h.old.size e.1), h.old.trans (hk.below h.old.size h.f)⟩
theorem One.act {Z : ZOps} {w0 w : World} {db : Nat} {S : DevS} {F : Nat → Prop} {vb vk vt : Value} {x : ActS} (h : One Z w0 w db S F) (hf : ActF (fun k => k < w0.heap.size) w0 vb vk vt x) : ActF (fun k => k < w.heap.size ∧ ¬ F k) w vb vk vt x :=
  (hf.up h.old).mono (fun k e => ⟨Nat.lt_of_lt_of_le e h.old.size, fun e2 => by have := h.f k e2; omega⟩)
/-- Two acts that lie one behind the other. -/
theorem acts_two {F : Nat → Prop} {u : World} {g : Nat} {x y : ActS} {v1 v2 v3 u1 u2 u3 : Value} (h : Blk u g 39 (actCells x v1 v2 v3 ++ actCells y u1 u2 u3)) (hx : ActF F u v1 v2 v3 x) (hy : ActF F u u1 u2 u3 y) (hg : F g) : ActsF F u (some ⟨g, 0, none⟩) [x, y] := by
  intro _
  refine ⟨g, 0, rfl, lt_of_block h, hg, fun i hi => ?_⟩
  have hi2 : i < 2 := hi
  have c := fun k v (e : (actCells x v1 v2 v3 ++ actCells y u1 u2 u3)[k]? = some v) => blk_cell h k v e
  rcases (show i = 0 ∨ i = 1 by omega) with rfl | rfl
  · exact ⟨v1, v2, v3, hx, c 0 _ rfl, c 1 _ rfl, c 2 _ rfl, c 3 _ rfl, c 4 _ rfl, c 5 _ rfl⟩
  · exact ⟨u1, u2, u3, hy, c 6 _ rfl, c 7 _ rfl, c 8 _ rfl, c 9 _ rfl, c 10 _ rfl, c 11 _ rfl⟩
set_option maxHeartbeats 4000000 in
set_option maxRecDepth 100000 in
theorem zagain_true (Z : ZOps) {w : World} (hg : Gl w) (n p : Int) (A : Option Addr) (m c : Nat) (l : List ActS) (hl : l.length = m) (hA : ActsF (fun k => k < w.heap.size) w A l) (hok : ∀ x ∈ l, ActOk x)
    (one two : ActS) (v1 v2 v3 u1 u2 u3 : Value) (h1 : ActF (fun k => k < w.heap.size) w v1 v2 v3 one) (h2 : ActF (fun k => k < w.heap.size) w u1 u2 u3 two) (ho1 : ActOk one) (ho2 : ActOk two) :
    Calls Tryd.prog 7 #[.int .i64 n, .int .i64 p, .slice A m c, actV one v1 v2 v3, actV two u1 u2 u3] w (BoolB true w) := by
  obtain ⟨A1, c1, A2, c2, A3, c3, rfl, rfl, rfl⟩ := h1.form
  obtain ⟨B1, e1, B2, e2, B3, e3, rfl, rfl, rfl⟩ := h2.form
  obtain ⟨W, hW⟩ : ∃ W, (w.alloc (.cells #[.int .i64 one.Do, .int .i64 one.zone, .int .i64 one.page, .slice A1 one.B.length c1, .slice A2 one.keep.length c2, .slice A3 one.tear.length c3] 39)).alloc (.cells #[.int .i64 two.Do, .int .i64 two.zone, .int .i64 two.page, .slice B1 two.B.length e1, .slice B2 two.keep.length e2, .slice B3 two.tear.length e3] 39) = W := ⟨_, rfl⟩
  have HBW : Hid (Below w.heap.size w W) := Lib.hid (by rw [← hW]; exact (Below.alloc (Below.refl _ _) (Nat.le_refl _) _).alloc (by rw [World.size_alloc]; omega) _)
  have HG := Lib.hid (hg.below HBW.out)
  have HSW : Hid (W.heap.size = w.heap.size + 1 + 1) := Lib.hid (by rw [← hW, World.size_alloc, World.size_alloc])
  have HX1 : Hid (Blk W w.heap.size 39 (actCells one (.slice A1 one.B.length c1) (.slice A2 one.keep.length c2) (.slice A3 one.tear.length c3))) := Lib.hid (by rw [← hW]; exact Blk.up (heap_alloc_new w _) (Below.alloc (Below.refl _ _) (Nat.le_refl _) _) (by rw [World.size_alloc]; omega))
  have HX2 : Hid (Blk W (w.heap.size + 1) 39 (actCells two (.slice B1 two.B.length e1) (.slice B2 two.keep.length e2) (.slice B3 two.tear.length e3))) := Lib.hid (by
    rw [← hW]
    have := heap_alloc_new (w.alloc (.cells #[.int .i64 one.Do, .int .i64 one.zone, .int .i64 one.page, .slice A1 one.B.length c1, .slice A2 one.keep.length c2, .slice A3 one.tear.length c3] 39)) (.cells #[.int .i64 two.Do, .int .i64 two.zone, .int .i64 two.page, .slice B1 two.B.length e1, .slice B2 two.keep.length e2, .slice B3 two.tear.length e3] 39)
    rw [World.size_alloc] at this
    exact this)
  have up : ∀ k, k < w.heap.size → k < W.heap.size := fun k e => Nat.lt_of_lt_of_le e HBW.out.size
  have HA : Hid (ActsF (fun k => k < W.heap.size) W A l) := Lib.hid (by
    intro hp
    obtain ⟨b, o, e, hlt, hb, hx⟩ := (hA.up HBW.out) hp
    exact ⟨b, o, e, hlt, up b hb, fun i hi => by obtain ⟨x1, x2, x3, hf, r⟩ := hx i hi; exact ⟨x1, x2, x3, hf.mono up, r⟩⟩)
  have HF1 : Hid (ActF (fun k => k < W.heap.size) W (.slice A1 one.B.length c1) (.slice A2 one.keep.length c2) (.slice A3 one.tear.length c3) one) := Lib.hid ((h1.up HBW.out).mono up)
  have HF2 : Hid (ActF (fun k => k < W.heap.size) W (.slice B1 two.B.length e1) (.slice B2 two.keep.length e2) (.slice B3 two.tear.length e3) two) := Lib.hid ((h2.up HBW.out).mono up)
  have HL := Lib.hid hl
  have HOK := Lib.hid hok
  have HO1 := Lib.hid ho1
  have HO2 := Lib.hid ho2
  clear hg hA hok h1 h2 ho1 ho2 up
  unfold actV
  go_enter Tryd.func7, Tryd.ntmps7
  go_wp2_with fail
  clear hW
  refine (zawake_true Z HG.out).mono ?_
  rintro r w1 ⟨rfl, hb⟩
  have HB1 := Lib.hid hb
  clear hb
  go_wp2_with fail
  refine (Z.new n p).mono ?_
  cases hnw : newD n p with
  | none =>
    rintro r w3 ⟨rfl, hb⟩
    have HB3 := Lib.hid (below_on HB1.out hb)
    clear hb
    generalize errV 1 = e1
    go_wp2_with fail
    go_ret
    exact ⟨rfl, HBW.out.trans (HB3.out.mono HBW.out.size)⟩
  | some S0 =>
    have HS0 : Hid (S0.done = 0 ∧ (S0.zones.length : Int) = n) := Lib.hid (by
      unfold newD at hnw
      split at hnw
      · have := Option.some.inj hnw
        subst this
        exact ⟨rfl, by simp [DevS.new]; omega⟩
      · cases hnw)
    rintro r w3 ⟨db, rfl, hd, hb⟩
    have HB3 := Lib.hid (below_on HB1.out hb)
    have HT3 : Hid (One Z W w3 db S0 (fun k => w1.heap.size ≤ k ∧ k < w3.heap.size)) := Lib.hid ⟨hd, fun k e => by have := HB1.out.size; omega, HB3.out⟩
    clear hb hd
    go_wp2_with fail
    refine (large_is hl (HA.out.up HB3.out)).mono ?_
    rintro r w4 ⟨rfl, hb⟩
    have HT4 := Lib.hid (HT3.out.up hb)
    clear hb HT3
    cases hlg : largeA l with
    | true =>
      go_wp2_with fail
      go_ret
      exact ⟨rfl, HBW.out.trans (HT4.out.old.mono HBW.out.size)⟩
    | false =>
      have HLG := Lib.hid (large_bd hlg)
      have hm100 : m ≤ 100 := by rw [← hl]; exact HLG.out.1
      clear hlg
      have hw1 : w.heap.size < W.heap.size := by have := HSW.out; omega
      have hw2 : w.heap.size + 1 < W.heap.size := by have := HSW.out; omega
      have HX1' := Lib.hid (HX1.out.up HT4.out.old hw1)
      have HX2' := Lib.hid (HX2.out.up HT4.out.old hw2)
      have a0 := HX1'.out.cell 0 (by simp [actCells])
      have a1 := HX1'.out.cell 1 (by simp [actCells])
      have a2 := HX1'.out.cell 2 (by simp [actCells])
      have a3 := HX1'.out.cell 3 (by simp [actCells])
      have a4 := HX1'.out.cell 4 (by simp [actCells])
      have a5 := HX1'.out.cell 5 (by simp [actCells])
      have b0 := HX2'.out.cell 0 (by simp [actCells])
      have b1 := HX2'.out.cell 1 (by simp [actCells])
      have b2 := HX2'.out.cell 2 (by simp [actCells])
      have b3 := HX2'.out.cell 3 (by simp [actCells])
      have b4 := HX2'.out.cell 4 (by simp [actCells])
      have b5 := HX2'.out.cell 5 (by simp [actCells])
      simp only [actCells, List.getElem_cons_zero, List.getElem_cons_succ] at a0 a1 a2 a3 a4 a5 b0 b1 b2 b3 b4 b5
      go_wp2_with fail
      refine (large_is (F := fun _ => True) (l := [one, two]) rfl (acts_two (heap_alloc_new w4 _) ((HF1.out.up (HT4.out.old.alloc HT4.out.old.size _)).mono (fun _ _ => trivial)) ((HF2.out.up (HT4.out.old.alloc HT4.out.old.size _)).mono (fun _ _ => trivial)) trivial)).mono ?_
      rintro r w5 ⟨rfl, hb⟩
      have HT5 := Lib.hid ((HT4.out.up (Below.alloc (Below.refl _ _) (Nat.le_refl _) _)).up hb)
      clear hb HT4 HX1' HX2' a0 a1 a2 a3 a4 a5 b0 b1 b2 b3 b4 b5
      cases hlg : largeA [one, two] with
      | true =>
        go_wp2_with fail
        go_ret
        exact ⟨rfl, HBW.out.trans (HT5.out.old.mono HBW.out.size)⟩
      | false =>
        have HLG2 := Lib.hid (large_bd hlg)
        clear hlg
        obtain ⟨N, hN⟩ : ∃ N, S0.zones.length = N := ⟨_, rfl⟩
        obtain rfl : n = (N : Int) := by rw [← hN]; exact HS0.out.2.symm
        have HN := Lib.hid hN
        have hN24 : N ≤ 24 := by rw [← hN]; exact (Z.wf HT5.out.d).z1
        clear hN hnw
        go_wp2_with fail
        go_loopg [42] m (fun q x wr => ∃ (i : Nat) (S : DevS) (F : Nat → Prop), i ≤ m ∧ q = m - i ∧ x = .int .i64 i ∧ S.done ≤ i ∧ S.zones.length = N ∧ One Z W wr db S F)
        case atStart => exact ⟨0, S0, _, by omega, by omega, rfl, by rw [HS0.out.1]; omega, HN.out, HT5.out⟩
        case round =>
          clear HT5
          obtain ⟨i, S, F, hi, hq, rfl, hsd, hsz, ht⟩ := hrel
          have HQ := Lib.hid hq
          have HT := Lib.hid ht
          have HSD := Lib.hid hsd
          have HSZ := Lib.hid hsz
          clear hq ht hsd hsz
          by_cases hlt : i < m
          · have hll : i < l.length := by rw [HL.out]; exact hlt
            obtain ⟨b, o, rfl, hbl, _, hx⟩ := HA.out (by omega)
            obtain ⟨vb, vk, vt, hf, h0, h1, h2, h3, h4, h5⟩ := hx i hll
            have hxo := HOK.out l[i] (List.getElem_mem hll)
            have hxm := HLG.out.2 l[i] (List.getElem_mem hll)
            obtain ⟨x, hx⟩ : ∃ x, l[i] = x := ⟨_, rfl⟩
            rw [hx] at hf h0 h1 h2 hxo hxm
            obtain ⟨D1, d1, D2, d2, D3, d3, rfl, rfl, rfl⟩ := hf.form
            have k0 := (HT.out.old.cell (p := ⟨b, o + i * 6, none⟩) hbl).trans h0
            have k1 := (HT.out.old.cell (p := ⟨b, o + i * 6 + 1, none⟩) hbl).trans h1
            have k2 := (HT.out.old.cell (p := ⟨b, o + i * 6 + 2, none⟩) hbl).trans h2
            have k3 := (HT.out.old.cell (p := ⟨b, o + i * 6 + 3, none⟩) hbl).trans h3
            have k4 := (HT.out.old.cell (p := ⟨b, o + i * 6 + 4, none⟩) hbl).trans h4
            have k5 := (HT.out.old.cell (p := ⟨b, o + i * 6 + 5, none⟩) hbl).trans h5
            have HXO := Lib.hid hxo
            have HXM := Lib.hid hxm
            have HFX := Lib.hid hf
            have HT2 := Lib.hid (HT.out.up (w' := wr.alloc (.cells #[.int .i64 x.Do, .int .i64 x.zone, .int .i64 x.page, .slice D1 x.B.length d1, .slice D2 x.keep.length d2, .slice D3 x.tear.length d3] 39)) (Below.alloc (Below.refl _ _) (Nat.le_refl _) _))
            clear hf hx h0 h1 h2 h3 h4 h5 hxo hxm HT
            go_wp2_with fail
            refine (do_at x _ _ _ Z HT2.out.d (HG.out.below HT2.out.old) (fun e => by have := HT2.out.f _ e; have := lt_of_cell HG.out; simp only at this; omega) (by have := HSD.out; omega) (HT2.out.act HFX.out) HXO.out HXM.out).mono ?_
            rintro r w6 ⟨v, rfl, hd, hk, _⟩
            have HT3 := Lib.hid (HT2.out.done hd hk)
            clear hd hk
            generalize (actT S x).n = tn
            generalize (actT S x).e = te
            go_wp2_with fail
            go_roundg (m - (i + 1))
            case rel => exact ⟨i + 1, _, _, by omega, rfl, by go_num, by have := actS_done S x; have := HSD.out; omega, by rw [actS_zones]; exact HSZ.out, HT3.out⟩
            case measure => have := HQ.out; omega
          · obtain rfl : i = m := by omega
            have hw1 : w.heap.size < W.heap.size := by have := HSW.out; omega
            have hw2 : w.heap.size + 1 < W.heap.size := by have := HSW.out; omega
            have HX1' := Lib.hid (HX1.out.up HT.out.old hw1)
            have a4 := HX1'.out.cell 4 (by simp [actCells])
            have a5 := HX1'.out.cell 5 (by simp [actCells])
            simp only [actCells, List.getElem_cons_zero, List.getElem_cons_succ] at a4 a5
            go_wp2_with fail
            refine (Z.crash _ _ one.keep one.tear HT.out.d ((HT.out.act HF1.out).2.1.mono (fun k e => e.2)) ((HT.out.act HF1.out).2.2.mono (fun k e => e.2)) (HLG2.out.2 one (by simp)).2.1 (HLG2.out.2 one (by simp)).2.2 HO1.out.2.2).mono ?_
            rintro r w6 ⟨rfl, hd, hk⟩
            have HT6 := Lib.hid (HT.out.done hd hk)
            have HZ1 : Hid ((S.crash one.keep one.tear).zones.length = N) := Lib.hid (by simp [DevS.crash]; exact HSZ.out)
            have HCA := Lib.hid (crash_again S one.keep two.keep one.tear two.tear)
            generalize S.crash one.keep one.tear = S1 at HT6 HZ1 HCA
            clear hd hk HT a4 a5 HX1' HSZ HSD HQ
            go_wp2_with fail
            go_loopg [57] N (fun q x wr => ∃ (j : Nat) (F : Nat → Prop), j ≤ N ∧ q = N - j ∧ x = .int .i64 j ∧ One Z W wr db S1 F)
            case atStart => exact ⟨0, _, by omega, by omega, rfl, HT6.out⟩
            case round =>
              clear HT6
              obtain ⟨j, F', hj, hq, rfl, ht⟩ := hrel
              have HQ := Lib.hid hq
              have HT := Lib.hid ht
              clear hq ht
              by_cases hjl : j < N
              · have HX2' := Lib.hid (fun u (h : Below W.heap.size W u) => HX2.out.up h hw2)
                go_wp2_with fail
                refine (seen_at Z j HT.out.d).mono ?_
                rintro r w7 ⟨sv, rfl, hv, hb, _⟩
                have hlen := seenB_len (Z.wf HT.out.d) j
                have HLT := Lib.hid (fun k e => Z.lt HT.out.d k e)
                obtain ⟨st, hst⟩ : ∃ st, S1.state j = st := ⟨_, rfl⟩
                obtain ⟨pt, hpt⟩ : ∃ pt, (S1.point j : Int) = pt := ⟨_, rfl⟩
                obtain ⟨su, hsu⟩ : ∃ su, (S1.sureOf j : Int) = su := ⟨_, rfl⟩
                have HSP := Lib.hid (And.intro hst (And.intro hpt hsu))
                rw [hst, hpt, hsu]
                clear hst hpt hsu
                obtain ⟨xs, hxs⟩ : ∃ xs, seenB S1 j = xs := ⟨_, rfl⟩
                obtain ⟨xl, hxl⟩ : ∃ xl, xs.length = xl := ⟨_, rfl⟩
                rw [hxs] at hv hlen
                rw [hxl] at hlen
                obtain ⟨V1, f1, rfl, hv2⟩ := hv
                rw [hxl] at hv2
                rw [hxl]
                have HV7 : Hid (BytF (fun k => wr.heap.size ≤ k ∧ k < w7.heap.size) w7 (.slice V1 xl f1) xs) := Lib.hid ⟨V1, f1, by rw [hxl], by rw [hxl]; exact hv2.1, by rw [hxl]; exact hv2.2⟩
                have HB8 : Hid (Below w7.heap.size w7 (w7.alloc (.cells #[.int .i64 st, .int .i64 pt, .int .i64 su] 64))) := Lib.hid (Below.alloc (Below.refl _ _) (Nat.le_refl _) _)
                have HT8 := Lib.hid ((HT.out.up hb).up HB8.out)
                have HV8 := Lib.hid (HV7.out.up HB8.out)
                have HR8 : Hid (Blk (w7.alloc (.cells #[.int .i64 st, .int .i64 pt, .int .i64 su] 64)) w7.heap.size 64 [.int .i64 st, .int .i64 pt, .int .i64 su]) := Lib.hid (heap_alloc_new w7 _)
                have b4 := (HX2'.out _ HT8.out.old).cell 4 (by simp [actCells])
                have b5 := (HX2'.out _ HT8.out.old).cell 5 (by simp [actCells])
                simp only [actCells, List.getElem_cons_zero, List.getElem_cons_succ] at b4 b5
                have HSZ7 := Lib.hid hb.size
                have HXL := Lib.hid hxl
                have HXS := Lib.hid hxs
                clear hv2 hb HV7 HT hxl hxs
                go_wp2_with fail
                refine (Z.crash _ _ two.keep two.tear HT8.out.d ((HT8.out.act HF2.out).2.1.mono (fun k e => e.2)) ((HT8.out.act HF2.out).2.2.mono (fun k e => e.2)) (HLG2.out.2 two (by simp)).2.1 (HLG2.out.2 two (by simp)).2.2 HO2.out.2.2).mono ?_
                rintro r w9 ⟨rfl, hd, hk⟩
                rw [HCA.out] at hd
                have HT9 := Lib.hid (HT8.out.done hd hk)
                have HV9 := Lib.hid (HV8.out.keep hk (fun k e e2 => by have := HLT.out k e2; omega))
                have HR9 := Lib.hid (hk.blk HR8.out (fun e => by have := HLT.out _ e; have := HSZ7.out; omega))
                clear hd hk HT8 HV8 HR8 b4 b5
                go_wp2_with fail
                refine (seen_at Z j HT9.out.d).mono ?_
                rintro r wa ⟨sv, rfl, hv, hb, _⟩
                rw [HSP.out.1, HSP.out.2.1, HSP.out.2.2]
                rw [HXS.out] at hv
                have HLT9 := Lib.hid (fun k e => Z.lt HT9.out.d k e)
                obtain ⟨V2, f2, rfl, hv2⟩ := hv
                rw [HXL.out] at hv2
                rw [HXL.out]
                have HVa : Hid (BytF (fun k => w9.heap.size ≤ k ∧ k < wa.heap.size) wa (.slice V2 xl f2) xs) := Lib.hid ⟨V2, f2, by rw [HXL.out], by rw [HXL.out]; exact hv2.1, by rw [HXL.out]; exact hv2.2⟩
                have HBb : Hid (Below wa.heap.size wa (wa.alloc (.cells #[.int .i64 st, .int .i64 pt, .int .i64 su] 64))) := Lib.hid (Below.alloc (Below.refl _ _) (Nat.le_refl _) _)
                have HTb := Lib.hid ((HT9.out.up hb).up HBb.out)
                have HVb := Lib.hid (HVa.out.up HBb.out)
                have HV10 := Lib.hid ((HV9.out.up hb).up HBb.out)
                have HR10 := Lib.hid ((HR9.out.up hb (lt_of_block HR9.out)).up HBb.out (Nat.lt_of_lt_of_le (lt_of_block HR9.out) hb.size))
                have HRb : Hid (Blk (wa.alloc (.cells #[.int .i64 st, .int .i64 pt, .int .i64 su] 64)) wa.heap.size 64 [.int .i64 st, .int .i64 pt, .int .i64 su]) := Lib.hid (heap_alloc_new wa _)
                clear hv2 hb HVa HT9 HV9 HR9
                go_wp2_with fail
                refine (same_is HV10.out.parts.1 HVb.out.parts.1 HXL.out HXL.out (by omega)).mono ?_
                rintro r wc ⟨rfl, hb⟩
                have hd : decide (xs = xs) = true := by simp
                rw [hd]
                have HTc := Lib.hid (HTb.out.up hb)
                have HRc := Lib.hid (HR10.out.up hb (lt_of_block HR10.out))
                have HRd := Lib.hid (HRb.out.up hb (lt_of_block HRb.out))
                have c0 : wc.cell? ⟨w7.heap.size, 0, none⟩ = some (.int .i64 st) := blk_cell HRc.out 0 _ rfl
                have c1 : wc.cell? ⟨w7.heap.size, 1, none⟩ = some (.int .i64 pt) := blk_cell HRc.out 1 _ rfl
                have c2 : wc.cell? ⟨w7.heap.size, 2, none⟩ = some (.int .i64 su) := blk_cell HRc.out 2 _ rfl
                have d0 : wc.cell? ⟨wa.heap.size, 0, none⟩ = some (.int .i64 st) := blk_cell HRd.out 0 _ rfl
                have d1 : wc.cell? ⟨wa.heap.size, 1, none⟩ = some (.int .i64 pt) := blk_cell HRd.out 1 _ rfl
                have d2 : wc.cell? ⟨wa.heap.size, 2, none⟩ = some (.int .i64 su) := blk_cell HRd.out 2 _ rfl
                have hgd := int3_guard
                have hne := int3_eq st pt su wc
                clear hb HTb HVb HV10 HR10 HRb hd
                go_wp2_with fail
                go_roundg (N - (j + 1))
                case rel => exact ⟨j + 1, _, by omega, rfl, by go_num, HTc.out⟩
                case measure => have := HQ.out; omega
              · obtain rfl : j = N := by omega
                go_wp2_with fail
                go_ret
                exact ⟨rfl, HBW.out.trans (HT.out.old.mono HBW.out.size)⟩
end Go.Proofs.YtljpkngbhdplbaaDoor
