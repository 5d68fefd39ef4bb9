/-
  platelayerlaw07.ZnsDoes answers true.
-/
import Derived.Test.YtljpkngbhdplbaaDoorZnsS
namespace Go.Proofs.YtljpkngbhdplbaaDoor
open Go.RowKit

/-- Two devices in memory, apart from one another and from what was there at first. -/
structure Two (Z : ZOps) (w0 w : World) (db rb : Nat) (S : DevS) (F1 F2 : Nat → Prop) : Prop where
  d : Z.D F1 w db S
  r : RDev F2 w rb S
  f1 : ∀ k, F1 k → w0.heap.size ≤ k ∧ ¬ F2 k
  f2 : ∀ k, F2 k → w0.heap.size ≤ k
  old : Below w0.heap.size w0 w
theorem Two.up {Z : ZOps} {w0 w w' : World} {db rb : Nat} {S : DevS} {F1 F2 : Nat → Prop} (h : Two Z w0 w db rb S F1 F2) (hb : Below w.heap.size w w') : Two Z w0 w' db rb S F1 F2 :=
  ⟨Z.up h.d hb, h.r.up hb, h.f1, h.f2, below_on h.old hb⟩
theorem Two.tw {Z : ZOps} {w0 w : World} {db rb : Nat} {S S' : DevS} {F1 F2 : Nat → Prop} (h : Two Z w0 w db rb S F1 F2) (cs : List Value) (t : ToldS) (x1 x2 y1 y2 : Value) :
    TwI (fun G u S' => Z.D G u db S') (fun G u S' => RDev G u rb S') w0 w.heap.size cs S S' t false false false false false false x1 x2 y1 y2 (w.alloc (.cells cs.toArray 39)).drew := by
  have hb : Below w.heap.size w (w.alloc (.cells cs.toArray 39)).drew := (Below.alloc (Below.refl _ _) (Nat.le_refl _) _).drew
  have hs := h.old.size
  refine ⟨F1, F2, fun _ => False, fun _ => False, 0, 0, .nilIface, .nilIface, Z.up h.d hb, h.r.up hb, below_on h.old hb, heap_alloc_new w _, hs, fun e => by simp at e, fun e => by simp at e, fun e => by simp at e, fun e => by simp at e, fun k e => ?_, fun k e => ?_, fun k e => e.elim, fun k e => e.elim, fun e => by simp at e, fun e => by simp at e, fun e => by simp at e⟩
  · have := (holds_z Z db).lt h.d k e
    exact ⟨(h.f1 k e).1, by omega, (h.f1 k e).2, id, fun e => by simp at e, fun e => by simp at e⟩
  · have := (holds_r rb).lt h.r k e
    exact ⟨h.f2 k e, by omega, fun e2 => (h.f1 k e2).2 e, id, fun e => by simp at e, fun e => by simp at e⟩
set_option maxHeartbeats 4000000 in
set_option maxRecDepth 100000 in
theorem zdoes_true (Z : ZOps) {w : World} (hg : Gl w) (n p : Int) (A : Option Addr) (m c : Nat) (l : List ActS) (hl : l.length = m) (hA : ActsF (fun k => k < w.heap.size) w A l) (hok : ∀ x ∈ l, ActOk x) :
    Calls Tryd.prog 3 #[.int .i64 n, .int .i64 p, .slice A m c] w (BoolB true w) := by
  have HG := Lib.hid hg
  have HA := Lib.hid hA
  have HL := Lib.hid hl
  have HOK := Lib.hid hok
  clear hg hA hok
  go_enter Tryd.func3, Tryd.ntmps3
  go_wp2_with fail
  refine (zawake_true Z HG.out).mono ?_
  rintro r w1 ⟨rfl, hb⟩
  have HB1 := Lib.hid hb
  clear hb
  go_wp2_with fail
  refine (large_is hl (HA.out.up HB1.out)).mono ?_
  rintro r w2 ⟨rfl, hb⟩
  have HB2 := Lib.hid (below_on HB1.out hb)
  clear hb HB1
  cases hlg : largeA l with
  | true =>
    go_wp2_with fail
    go_ret
    exact ⟨rfl, HB2.out⟩
  | false =>
    have HLG := Lib.hid (large_bd hlg)
    have hm100 : m ≤ 100 := by rw [← hl]; exact HLG.out.1
    clear hlg
    go_wp2_with fail
    refine (Z.new n p).mono ?_
    cases hnw : newD n p with
    | none =>
      rintro r w3 ⟨rfl, hb⟩
      have HB3 := Lib.hid (below_on HB2.out hb)
      clear hb
      obtain ⟨e1, he1⟩ : ∃ e, errV 1 = e := ⟨_, rfl⟩
      rw [he1]
      go_wp2_with fail
      refine (rnew_at n p).mono ?_
      rw [hnw]
      rintro r w4 ⟨rfl, hb⟩
      have HB4 := Lib.hid (below_on HB3.out hb)
      clear hb
      go_wp2_with fail
      rw [← he1]
      refine (code_is 1 (HG.out.below HB4.out)).mono ?_
      rintro r w5 ⟨rfl, hb⟩
      have HB5 := Lib.hid (below_on HB4.out hb)
      clear hb
      go_wp2_with fail
      go_ret
      exact ⟨rfl, HB5.out⟩
    | some S0 =>
      have HS0 : Hid (S0.done = 0) := Lib.hid (by
        unfold newD at hnw
        split at hnw
        · have := Option.some.inj hnw
          subst this
          rfl
        · cases hnw)
      rintro r w3 ⟨db, rfl, hd, hb⟩
      have HB3 := Lib.hid (below_on HB2.out hb)
      have HD3 := Lib.hid hd
      clear hd
      have hs3 := hb.size
      have hs2 := HB2.out.size
      clear hb
      go_wp2_with fail
      refine (rnew_at n p).mono ?_
      rw [hnw]
      rintro r w4 ⟨rb, rfl, hr, hb⟩
      have HT4 : Hid (Two Z w w4 db rb S0 (fun k => w2.heap.size ≤ k ∧ k < w3.heap.size) (fun k => w3.heap.size ≤ k ∧ k < w4.heap.size)) := Lib.hid ⟨Z.up HD3.out hb, hr, fun k e => ⟨by omega, fun e2 => by omega⟩, fun k e => by omega, below_on HB3.out hb⟩
      clear hr hb HD3 HB3
      go_wp2_with fail
      refine (code_nil _).mono ?_
      rintro r w5 ⟨rfl, hb⟩
      have HT5 := Lib.hid (HT4.out.up hb)
      clear hb HT4
      go_wp2_with fail
      go_loopg [46] m (fun q x wr => ∃ (i : Nat) (S : DevS) (F1 F2 : Nat → Prop), i ≤ m ∧ q = m - i ∧ x = .int .i64 i ∧ S.done ≤ i ∧ Two Z w wr db rb S F1 F2)
      case atStart => exact ⟨0, S0, _, _, by omega, by omega, rfl, by rw [HS0.out]; omega, HT5.out⟩
      case round =>
        clear HT5
        obtain ⟨i, S, F1, F2, hi, hq, rfl, hsd, ht⟩ := hrel
        have HQ := Lib.hid hq
        have HT := Lib.hid ht
        have HSD' := Lib.hid hsd
        clear hq ht hsd
        by_cases hlt : i < m
        · have hll : i < l.length := by rw [HL.out]; exact hlt
          obtain ⟨b, o, rfl, hbl, _, hx⟩ := HA.out (by omega)
          obtain ⟨vb, vk, vt, hf, h0, h1, h2, h3, h4, h5⟩ := hx i hll
          have hxo := HOK.out l[i] (List.getElem_mem hll)
          have hxm := HLG.out.2 l[i] (List.getElem_mem hll)
          obtain ⟨x, hx⟩ : ∃ x, l[i] = x := ⟨_, rfl⟩
          rw [hx] at hf h0 h1 h2 hxo hxm
          obtain ⟨A1, c1, A2, c2, A3, c3, rfl, rfl, rfl⟩ := hf.form
          have k0 := (HT.out.old.cell (p := ⟨b, o + i * 6, none⟩) hbl).trans h0
          have k1 := (HT.out.old.cell (p := ⟨b, o + i * 6 + 1, none⟩) hbl).trans h1
          have k2 := (HT.out.old.cell (p := ⟨b, o + i * 6 + 2, none⟩) hbl).trans h2
          have k3 := (HT.out.old.cell (p := ⟨b, o + i * 6 + 3, none⟩) hbl).trans h3
          have k4 := (HT.out.old.cell (p := ⟨b, o + i * 6 + 4, none⟩) hbl).trans h4
          have k5 := (HT.out.old.cell (p := ⟨b, o + i * 6 + 5, none⟩) hbl).trans h5
          have HXO := Lib.hid hxo
          have HXM := Lib.hid hxm
          have HSD : Hid (S.done ≤ 1000000) := Lib.hid (by have := HSD'.out; have := HLG.out.1; omega)
          have HXA : Hid (∀ (u : World) (F : Nat → Prop), Below w.heap.size w u → (∀ k, F k → w.heap.size ≤ k) → ActF (fun k => k < u.heap.size ∧ ¬ F k) u (.slice A1 x.B.length c1) (.slice A2 x.keep.length c2) (.slice A3 x.tear.length c3) x) := Lib.hid (fun u F hb hF => (hf.up hb).mono (fun k e => ⟨Nat.lt_of_lt_of_le e hb.size, fun e2 => by have := hF k e2; omega⟩))
          have HTI : Hid (∀ x1 x2 y1 y2 : Value, TwI (fun G u S' => Z.D G u db S') (fun G u S' => RDev G u rb S') w wr.heap.size (actCells x (.slice A1 x.B.length c1) (.slice A2 x.keep.length c2) (.slice A3 x.tear.length c3)) S (actS S x) (actT S x) false false false false false false x1 x2 y1 y2 (wr.alloc (.cells #[.int .i64 x.Do, .int .i64 x.zone, .int .i64 x.page, .slice A1 x.B.length c1, .slice A2 x.keep.length c2, .slice A3 x.tear.length c3] 39)).drew) := Lib.hid (fun x1 x2 y1 y2 => HT.out.tw (actCells x (.slice A1 x.B.length c1) (.slice A2 x.keep.length c2) (.slice A3 x.tear.length c3)) (actT S x) x1 x2 y1 y2)
          have HSX2 : Hid (∀ (b1 b2 b3 b4 b5 b6 : Bool) (x1 x2 y1 y2 : Value) (u : World), TwI (fun G u S' => Z.D G u db S') (fun G u S' => RDev G u rb S') w wr.heap.size (actCells x (.slice A1 x.B.length c1) (.slice A2 x.keep.length c2) (.slice A3 x.tear.length c3)) S (actS S x) (actT S x) b1 b2 b3 b4 b5 b6 x1 x2 y1 y2 u →
              u.cell? ⟨wr.heap.size, 0, none⟩ = some (.int .i64 x.Do) ∧ u.cell? ⟨wr.heap.size, 1, none⟩ = some (.int .i64 x.zone) ∧ u.cell? ⟨wr.heap.size, 2, none⟩ = some (.int .i64 x.page) ∧ u.cell? ⟨wr.heap.size, 3, none⟩ = some (.slice A1 x.B.length c1) ∧ u.cell? ⟨wr.heap.size, 4, none⟩ = some (.slice A2 x.keep.length c2) ∧ u.cell? ⟨wr.heap.size, 5, none⟩ = some (.slice A3 x.tear.length c3)) := Lib.hid (by
            rintro b1 b2 b3 b4 b5 b6 x1 x2 y1 y2 u ⟨_, _, _, _, _, _, _, _, ht⟩
            exact ⟨ht.bx.cell 0 (by simp [actCells]), ht.bx.cell 1 (by simp [actCells]), ht.bx.cell 2 (by simp [actCells]), ht.bx.cell 3 (by simp [actCells]), ht.bx.cell 4 (by simp [actCells]), ht.bx.cell 5 (by simp [actCells])⟩)
          clear hf hx h0 h1 h2 h3 h4 h5 hxo hxm
          go_wp2_with fail
          refine wp_region_held_drew (S := fun u => u.cell? ⟨wr.heap.size, 0, none⟩ = some (.int .i64 x.Do) ∧ u.cell? ⟨wr.heap.size, 1, none⟩ = some (.int .i64 x.zone) ∧ u.cell? ⟨wr.heap.size, 2, none⟩ = some (.int .i64 x.page) ∧ u.cell? ⟨wr.heap.size, 3, none⟩ = some (.slice A1 x.B.length c1) ∧ u.cell? ⟨wr.heap.size, 4, none⟩ = some (.slice A2 x.keep.length c2) ∧ u.cell? ⟨wr.heap.size, 5, none⟩ = some (.slice A3 x.tear.length c3)) (by kernel_rfl) (HSX2.out _ _ _ _ _ _ _ _ _ _ _ (HTI.out undef undef undef undef)) (fun hHeld => ?_)
          show wpAnyH _ _ _ _ _ 10 _ _ _
          refine wpAnyH_take (i := 0) (v := ?_) rfl (by kernel_rfl) (by kernel_rfl) (by kernel_rfl) (fun _ _ _ h => h) (Or.inl ⟨by rfl, ?_⟩) (by assumption) ?_
          rotate_left
          · intro u hSu
            try dsimp only at hSu
            go_simp
            try with_reducible rfl
          simp only [Act.put, List.setIfInBounds_toArray, List.set_cons_zero, List.set_cons_succ, List.getElem_toArray, List.getElem_cons_zero]
          refine wpAnyH_take (i := 1) (v := ?_) rfl (by kernel_rfl) (by kernel_rfl) (by kernel_rfl) (fun _ _ _ h => h) (Or.inl ⟨by rfl, ?_⟩) (by assumption) ?_
          rotate_left
          · intro u hSu
            try dsimp only at hSu
            go_simp
            try with_reducible rfl
          simp only [Act.put, List.setIfInBounds_toArray, List.set_cons_zero, List.set_cons_succ, List.getElem_toArray, List.getElem_cons_zero, List.getElem_cons_succ]
          refine wpAnyH_take (i := 3) (v := ?_) rfl (by kernel_rfl) (by kernel_rfl) (by kernel_rfl) (fun _ _ _ h => h) (Or.inl ⟨by rfl, ?_⟩) (by assumption) ?_
          rotate_left
          · intro u hSu
            try dsimp only at hSu
            go_simp
            try with_reducible rfl
          simp only [Act.put, List.setIfInBounds_toArray, List.set_cons_zero, List.set_cons_succ, List.getElem_toArray, List.getElem_cons_zero, List.getElem_cons_succ]
          refine wpAnyH_take (i := 4) (v := ?_) rfl (by kernel_rfl) (by kernel_rfl) (by kernel_rfl) (fun _ _ _ h => h) (Or.inl ⟨by rfl, ?_⟩) (by assumption) ?_
          rotate_left
          · intro u hSu
            try dsimp only at hSu
            go_simp
            try with_reducible rfl
          simp only [Act.put, List.setIfInBounds_toArray, List.set_cons_zero, List.set_cons_succ, List.getElem_toArray, List.getElem_cons_zero, List.getElem_cons_succ]
          refine twins_start (fun i1 i2 i3 i4 i5 i6 x1 x2 y1 y2 u => TwI (fun G u S' => Z.D G u db S') (fun G u S' => RDev G u rb S') w wr.heap.size (actCells x (.slice A1 x.B.length c1) (.slice A2 x.keep.length c2) (.slice A3 x.tear.length c3)) S (actS S x) (actT S x) i1 i2 i3 i4 i5 i6 x1 x2 y1 y2 u) 52 55 13 14 (by kernel_rfl) (by kernel_rfl) (fun h => HSX2.out _ _ _ _ _ _ _ _ _ _ _ h) ?_ ?_ ?_ ?_ ?_ ?_ HTI.out ?_
          · intro b2 b3 b4 b6 x1 x2 y1 y2 u hi
            obtain ⟨F1', F2', G1, G2, g1, g2, v1, v2, hi⟩ := hi
            refine ⟨_, rfl, fun K hK => ?_⟩
            simp only [twinF, Act.put, List.setIfInBounds_toArray, List.set_cons_zero, List.set_cons_succ]
            have hi' := Lib.hid hi
            clear hi
            go_simp
            go_at_call 14
            refine (do_at x _ _ _ Z hi'.out.d1 (HG.out.below hi'.out.old) (fun e => by have := (hi'.out.f1 _ e).1; have := lt_of_cell HG.out; simp only at this; omega) HSD.out (HXA.out _ _ hi'.out.old (fun k e => (hi'.out.f1 k e).1)) HXO.out HXM.out).mono ?_
            rintro r u' ht
            obtain ⟨v, rfl, hn, hi2⟩ := hi'.out.call1 (holds_z Z db) (holds_r rb) ht
            exact hK.out _ _ ⟨_, rfl, _, _, _, _, _, _, _, _, hi2⟩
          · intro b1 b3 b4 b5 x1 x2 y1 y2 u hi
            obtain ⟨F1', F2', G1, G2, g1, g2, v1, v2, hi⟩ := hi
            refine ⟨_, rfl, fun K hK => ?_⟩
            simp only [twinF, Act.put, List.setIfInBounds_toArray, List.set_cons_zero, List.set_cons_succ]
            have hi' := Lib.hid hi
            clear hi
            go_simp
            go_at_call 15
            refine (own_at x _ _ _ hi'.out.d2 HSD.out (HXA.out _ _ hi'.out.old (fun k e => (hi'.out.f2 k e).1)) HXO.out HXM.out).mono ?_
            rintro r u' ht
            obtain ⟨v, rfl, hn, hi2⟩ := hi'.out.swap.call1 (holds_r rb) (holds_z Z db) ht
            exact hK.out _ _ ⟨_, rfl, _, _, _, _, _, _, _, _, hi2.swap⟩
          · intro b1 b2 b4 b6 x1 x2 y1 y2 u hi
            obtain ⟨F1', F2', G1, G2, g1, g2, v1, v2, hi⟩ := hi
            refine ⟨_, rfl, fun K hK => ?_⟩
            simp only [twinF, Act.put, List.setIfInBounds_toArray, List.set_cons_zero, List.set_cons_succ]
            have hi' := Lib.hid hi
            clear hi
            go_simp
            exact hK.out _ _ ⟨_, rfl, _, _, _, _, _, _, _, _, hi'.out.var1 (holds_z Z db) (holds_r rb)⟩
          · intro b1 b2 b3 b5 x1 x2 y1 y2 u hi
            obtain ⟨F1', F2', G1, G2, g1, g2, v1, v2, hi⟩ := hi
            refine ⟨_, rfl, fun K hK => ?_⟩
            simp only [twinF, Act.put, List.setIfInBounds_toArray, List.set_cons_zero, List.set_cons_succ]
            have hi' := Lib.hid hi
            clear hi
            go_simp
            exact hK.out _ _ ⟨_, rfl, _, _, _, _, _, _, _, _, (hi'.out.swap.var1 (holds_r rb) (holds_z Z db)).swap⟩
          · intro b2 b4 b6 x1 x2 y1 y2 u hi
            obtain ⟨F1', F2', G1, G2, g1, g2, v1, v2, hi⟩ := hi
            obtain ⟨rfl, hby⟩ := hi.m1 rfl
            obtain ⟨A4, c4, rfl, _⟩ := hby
            obtain ⟨rfl, hbl⟩ := hi.p1 rfl
            have a0 : u.cell? ⟨g1, 0, none⟩ = some (.int .i64 0) := blk_cell hbl 0 _ rfl
            have a1 : u.cell? ⟨g1, 1, none⟩ = some (.int .i64 0) := blk_cell hbl 1 _ rfl
            have a2 : u.cell? ⟨g1, 2, none⟩ = some (.slice none 0 0) := blk_cell hbl 2 _ rfl
            have f0 := hbl.free 0
            have f1 := hbl.free 1
            have f2 := hbl.free 2
            refine ⟨_, rfl, fun K hK => ?_⟩
            simp only [toldV]
            simp only [twinF, Act.put, List.setIfInBounds_toArray, List.set_cons_zero, List.set_cons_succ]
            have hi' := Lib.hid hi
            clear hi hbl
            go_simp
            exact hK.out _ _ ⟨rfl, _, _, _, _, _, _, _, _, hi'.out.store1 (holds_z Z db) (holds_r rb)⟩
          · intro b1 b3 b5 x1 x2 y1 y2 u hi
            obtain ⟨F1', F2', G1, G2, g1, g2, v1, v2, hi⟩ := hi
            obtain ⟨rfl, hby⟩ := hi.m2 rfl
            obtain ⟨A4, c4, rfl, _⟩ := hby
            obtain ⟨rfl, hbl⟩ := hi.p2 rfl
            have a0 : u.cell? ⟨g2, 0, none⟩ = some (.int .i64 0) := blk_cell hbl 0 _ rfl
            have a1 : u.cell? ⟨g2, 1, none⟩ = some (.int .i64 0) := blk_cell hbl 1 _ rfl
            have a2 : u.cell? ⟨g2, 2, none⟩ = some (.slice none 0 0) := blk_cell hbl 2 _ rfl
            have f0 := hbl.free 0
            have f1 := hbl.free 1
            have f2 := hbl.free 2
            refine ⟨_, rfl, fun K hK => ?_⟩
            simp only [toldV]
            simp only [twinF, Act.put, List.setIfInBounds_toArray, List.set_cons_zero, List.set_cons_succ]
            have hi' := Lib.hid hi
            clear hi hbl
            go_simp
            exact hK.out _ _ ⟨rfl, _, _, _, _, _, _, _, _, (hi'.out.swap.store1 (holds_r rb) (holds_z Z db)).swap⟩
          · intro x1 x2 y1 y2 u hi
            obtain ⟨F1', F2', G1, G2, g1, g2, v1, v2, hi⟩ := hi
            have hlen := actT_len (Z.wf HT.out.d) x
            have hdone := actS_done S x
            generalize actT S x = t at hi hlen
            generalize actS S x = S' at hi hdone
            obtain ⟨rfl, hb1⟩ := hi.m1 rfl
            obtain ⟨rfl, hb2⟩ := hi.m2 rfl
            have HV1 := Lib.hid hb1
            have HV2 := Lib.hid hb2
            obtain ⟨A4, c4, rfl, _⟩ := hb1
            obtain ⟨A5, c5, rfl, _⟩ := hb2
            obtain ⟨rfl, hp1⟩ := hi.p1 rfl
            obtain ⟨rfl, hp2⟩ := hi.p2 rfl
            obtain ⟨tn, te, tb⟩ := t
            obtain ⟨tl, htl⟩ : ∃ tl, tb.length = tl := ⟨_, rfl⟩
            have a0 : u.cell? ⟨g1, 0, none⟩ = some (.int .i64 tn) := blk_cell hp1 0 _ rfl
            have a1 : u.cell? ⟨g1, 1, none⟩ = some (.int .i64 te) := blk_cell hp1 1 _ rfl
            have a2 : u.cell? ⟨g1, 2, none⟩ = some (.slice A4 tb.length c4) := blk_cell hp1 2 _ rfl
            have b0 : u.cell? ⟨g2, 0, none⟩ = some (.int .i64 tn) := blk_cell hp2 0 _ rfl
            have b1 : u.cell? ⟨g2, 1, none⟩ = some (.int .i64 te) := blk_cell hp2 1 _ rfl
            have b2 : u.cell? ⟨g2, 2, none⟩ = some (.slice A5 tb.length c5) := blk_cell hp2 2 _ rfl
            have hW : Two Z w u db rb S' F1' F2' := ⟨hi.d1, hi.d2, fun k e => ⟨(hi.f1 k e).1, (hi.f1 k e).2.2.1⟩, fun k e => (hi.f2 k e).1, hi.old⟩
            have HW := Lib.hid hW
            have HTL := Lib.hid htl
            simp only at htl hlen HV1 HV2
            rw [htl] at a2 b2 hlen HV1 HV2
            simp only [toldV]
            simp only [twinF, Act.put, List.setIfInBounds_toArray, List.set_cons_zero, List.set_cons_succ]
            clear hi hp1 hp2 hW htl
            go_wp2_with fail
            refine (same_is HV1.out.parts.1 HV2.out.parts.1 HTL.out HTL.out (by omega)).mono ?_
            rintro r w6 ⟨rfl, hb⟩
            have HW6 := Lib.hid (HW.out.up hb)
            have hd : decide (tb = tb) = true := by simp
            rw [hd]
            clear hb
            go_wp2_with fail
            refine (alike_at Z HW6.out.d HW6.out.r).mono ?_
            rintro r w7 ⟨rfl, hb⟩
            have HW7 := Lib.hid (HW6.out.up hb)
            clear hb
            go_wp2_with fail
            go_roundg (m - (i + 1))
            case rel => exact ⟨i + 1, S', _, _, by omega, rfl, by go_num, by have := HSD'.out; omega, HW7.out⟩
            case measure => have := HQ.out; omega
        · obtain rfl : i = m := by omega
          go_wp2_with fail
          refine (pages_at Z HT.out.d HT.out.r (HG.out.below HT.out.old)).mono ?_
          rintro r w6 ⟨rfl, hb⟩
          have HB6 := Lib.hid (below_on HT.out.old hb)
          clear hb
          go_wp2_with fail
          go_ret
          exact ⟨rfl, HB6.out⟩
end Go.Proofs.YtljpkngbhdplbaaDoor
