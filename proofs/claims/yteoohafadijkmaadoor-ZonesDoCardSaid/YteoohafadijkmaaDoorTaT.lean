/-
  The document's table in memory: Take, Close, Give.
-/
import Derived.Test.YteoohafadijkmaaDoorTaR
namespace Go.Proofs.YteoohafadijkmaaDoor
open Go.RowKit

theorem OwnK.set {w : World} {base k n c g i : Nat} {T : TypeId} {cs : List Value} (h : OwnK w base T k (.slice (some ⟨g, 0, none⟩) n c) n cs) (u : Value) : OwnK (w.setCell ⟨g, i, none⟩ u) base T k (.slice (some ⟨g, 0, none⟩) n c) n (cs.set i u) := by
  refine ⟨by rw [List.length_set]; exact h.1, ?_⟩
  rcases h.2 with ⟨e, _⟩ | ⟨g', cap, cur, hv, hb, hg, hc, hm, hs, ht⟩
  · cases e
  · injection hv with e1 e2 e3
    have e1 := Option.some.inj e1
    injection e1 with e1
    subst e1
    refine .inr ⟨g, cap, cur.setIfInBounds i u, by rw [e3], hb, heap_setCell_same w g i cur T u hg, hc, hm, by simp [hs], ?_⟩
    rw [Array.toList_setIfInBounds, List.take_set, ht]
theorem OwnK.free {w : World} {base k n c g : Nat} {T : TypeId} {cs : List Value} (h : OwnK w base T k (.slice (some ⟨g, 0, none⟩) n c) n cs) (i : Nat) : w.frozen? ⟨g, i, none⟩ = false := by
  rcases h.2 with ⟨e, _⟩ | ⟨g', cap, cur, hv, hb, hg, hc, hm, hs, ht⟩
  · cases e
  · injection hv with e1
    have e1 := Option.some.inj e1
    injection e1 with e1
    subst e1
    exact frozen_of_row w g i cur T hg
theorem iCells_set (l : List Int) (k : Nat) (s : Int) : (iCells l).set k (.int .i64 s) = iCells (l.set k s) := by simp [iCells, List.map_set]
theorem he_i : Tryd.prog.underlying 43 = some (.slice (Tryd.prog.elem 43)) := by kernel_rfl
theorem hz_i : ∀ W : World, (sizeOf (Tryd.prog.elem 43)).run Tryd.prog W = .ok 1 W := by
  intro W
  have h : Tryd.prog.elem 43 = 3 := by kernel_rfl
  rw [h]
  simp [Tryd.sizeOf3]
section
variable {w w1 : World} {rt sb c : Nat} {vr vd v' : Value} {T : TaS}
theorem RtC.ne (h : RtC w rt sb c vr vd T) : rt < sb := h.s.own sb rfl
theorem RtC.setS (h : RtC w rt sb c vr vd T) (k : Nat) (s : Int) : RtC (w.setCell ⟨sb, k, none⟩ (.int .i64 s)) rt sb c vr vd ⟨T.st.set k s, T.row, T.done⟩ ∧ Kept (fun j => j = sb) w (w.setCell ⟨sb, k, none⟩ (.int .i64 s)) := by
  have hk : Kept (fun j => j = sb) w (w.setCell ⟨sb, k, none⟩ (.int .i64 s)) := kept_put _ _ _ _
  have hne := h.ne
  refine ⟨⟨?_, ?_, h.r.keepAt hk (fun j e1 e2 => h.ar (by rw [e1, e2])), h.d.keepAt hk (fun j e1 e2 => h.ad (by rw [e1, e2])), h.ar, h.ad⟩, hk⟩
  · have := hk.blk h.b (fun e => by omega)
    simpa using this
  · have := h.s.set (i := k) (.int .i64 s)
    rw [iCells_set] at this
    simpa using this
theorem RtC.layR (h : RtC w rt sb c vr vd T) {r : List Int} (hb : Below w.heap.size w w1) (ho : OwnK w1 w.heap.size 3 1 v' r.length (iCells r)) : RtC (w1.setCell ⟨rt, 1, none⟩ v') rt sb c v' vd ⟨T.st, r, T.done⟩ ∧ Kept (fun j => j = rt) w (w1.setCell ⟨rt, 1, none⟩ v') := by
  have hlt := lt_of_block h.b
  have hne := h.ne
  have hsl := h.s.ltAt sb rfl
  have hk : Kept (fun j => j = rt) w1 (w1.setCell ⟨rt, 1, none⟩ v') := kept_put _ _ _ _
  have h1 := h.up hb
  refine ⟨⟨?_, h1.s.keep hk (fun g hg e => by omega), (ho.keep hk (fun g hg e => by omega)).le (by omega), h1.d.keep hk (fun g hg e => by omega), fun e => ?_, h.ad⟩, (Kept.of_below hb).and hk⟩
  · have := (h1.b).put 1 v'
    simpa using this
  · have := ho.own sb e
    omega
theorem RtC.layD (h : RtC w rt sb c vr vd T) {d : List Int} (hb : Below w.heap.size w w1) (ho : OwnK w1 w.heap.size 3 1 v' d.length (iCells d)) : RtC (w1.setCell ⟨rt, 2, none⟩ v') rt sb c vr v' ⟨T.st, T.row, d⟩ ∧ Kept (fun j => j = rt) w (w1.setCell ⟨rt, 2, none⟩ v') := by
  have hlt := lt_of_block h.b
  have hne := h.ne
  have hsl := h.s.ltAt sb rfl
  have hk : Kept (fun j => j = rt) w1 (w1.setCell ⟨rt, 2, none⟩ v') := kept_put _ _ _ _
  have h1 := h.up hb
  refine ⟨⟨?_, h1.s.keep hk (fun g hg e => by omega), h1.r.keep hk (fun g hg e => by omega), (ho.keep hk (fun g hg e => by omega)).le (by omega), h.ar, fun e => ?_⟩, (Kept.of_below hb).and hk⟩
  · have := (h1.b).put 2 v'
    simpa using this
  · have := ho.own sb e
    omega
end
/-- A table behind a call. -/
def RtTo (G : Nat → Prop) (rt : Nat) (v : Value) (T' : TaS) (w : World) (r : Ending) (w' : World) : Prop := r = .returned v ∧ RtF (grow G w w') w' rt T' ∧ Kept G w w'
section
variable {G : Nat → Prop} {w w' : World} {rt sb c : Nat} {vr vd : Value} {T : TaS}
theorem RtF.grown (h : RtF G w rt T) (hb : Below w.heap.size w w') : RtF (grow G w w') w' rt T := by
  obtain ⟨sb, c, vr, vd, hc, g1, g2, g3, g4, g5, hw⟩ := h
  exact ⟨sb, c, vr, vd, hc.up hb, .inl g1, .inl g2, fun j e => .inl (g3 j e), fun j e => .inl (g4 j e), fun k hk => hk.elim (fun h => Nat.lt_of_lt_of_le (g5 k h) hb.size) (fun h => h.2), hw⟩
set_option maxHeartbeats 2000000 in
theorem rttake_at (h : RtF G w rt T) : Calls Tryd.prog 25 #[.pointer (some ⟨rt, 0, none⟩)] w (RtTo G rt (.tuple #[.int .i64 T.takeN, .bool T.takeB]) T.takeS w) := by
  have HV := Lib.hid h
  obtain ⟨sb, c, vr, vd, hc, g1, g2, g3, g4, g5, hw⟩ := h
  have hr24 := TaS.row_len hw
  obtain ⟨A, cr, rfl, hrc, _, hA0⟩ := hc.r.form
  obtain ⟨y0, y1, y2⟩ := hc.cells
  cases hr : T.row with
  | nil =>
    have HE : Hid (RtTo G rt (.tuple #[.int .i64 T.takeN, .bool T.takeB]) T.takeS w (.returned (.tuple #[.int .i64 0, .bool false])) w) := Lib.hid (by
      have e1 : T.takeN = 0 := by unfold TaS.takeN; rw [hr]; rfl
      have e2 : T.takeB = false := by unfold TaS.takeB; rw [hr]; rfl
      have e3 : T.takeS = T := by unfold TaS.takeS; rw [hr]; rfl
      rw [e1, e2, e3]
      exact ⟨rfl, HV.out.grown (Below.refl _ _), Kept.refl _ _⟩)
    have e0 : T.row.length = 0 := by rw [hr]; rfl
    rw [e0] at y1
    clear hc hw hr e0 g3 hrc
    go_enter Tryd.func25, Tryd.ntmps25
    go_wp2_with fail
    go_ret2
    exact HE.out
  | cons z r =>
    obtain ⟨hz0, hz1, hz2⟩ := TaS.take_in hw hr
    obtain ⟨k, rfl⟩ : ∃ k : Nat, z = (k : Int) := ⟨z.toNat, by omega⟩
    have hrow : T.row = (k : Int) :: r := hr
    have HE : Hid (∀ w4 v4, Below w.heap.size w w4 → OwnK w4 w.heap.size 3 1 v4 r.length (iCells r) → RtTo G rt (.tuple #[.int .i64 T.takeN, .bool T.takeB]) T.takeS w (.returned (.tuple #[.int .i64 (k : Int), .bool true])) ((w4.setCell ⟨rt, 1, none⟩ v4).setCell ⟨sb, k, none⟩ (.int .i64 1))) := Lib.hid (fun w4 v4 hb ho => by
      have e1 : T.takeN = (k : Int) := by unfold TaS.takeN; rw [hr]; rfl
      have e2 : T.takeB = true := by unfold TaS.takeB; rw [hr]; simp
      have e3 : T.takeS = ⟨T.st.set k 1, r, T.done⟩ := by unfold TaS.takeS; rw [hr, if_neg (by simp)]; simp
      have hwf := hw.take
      rw [e3] at hwf
      rw [e1, e2, e3]
      obtain ⟨l1, l2⟩ := hc.layR hb ho
      obtain ⟨m1, m2⟩ := l1.setS k 1
      have hk : Kept G w ((w4.setCell ⟨rt, 1, none⟩ v4).setCell ⟨sb, k, none⟩ (.int .i64 1)) := (l2.mono (fun j _ e => e ▸ g1)).and (m2.mono (fun j _ e => e ▸ g2))
      have hsz : ∀ j, (grow G w ((w4.setCell ⟨rt, 1, none⟩ v4).setCell ⟨sb, k, none⟩ (.int .i64 1))) j → j < ((w4.setCell ⟨rt, 1, none⟩ v4).setCell ⟨sb, k, none⟩ (.int .i64 1)).heap.size := fun j hj => hj.elim (fun h => Nat.lt_of_lt_of_le (g5 j h) hk.size) (fun h => h.2)
      exact ⟨rfl, ⟨sb, c, v4, vd, m1, .inl g1, .inl g2, fun j e => .inr ⟨ho.own j e, by have := ho.ltAt j e; simpa [World.setCell] using this⟩, fun j e => .inl (g4 j e), hsz, hwf⟩, hk⟩)
    have hsi : k < T.st.length := by omega
    have HCU : Hid (∀ u, Below w.heap.size w u → u.cell? ⟨rt, 1, none⟩ = some (.slice A T.row.length cr) ∧ u.frozen? ⟨rt, 1, none⟩ = false) := Lib.hid (fun u hu => ⟨(hc.up hu).cells.2.1, (hc.up hu).b.free 1⟩)
    have HCS : Hid (∀ u v4, Below w.heap.size w u → (u.setCell ⟨rt, 1, none⟩ v4).cell? ⟨rt, 0, none⟩ = some (.slice (some ⟨sb, 0, none⟩) T.st.length c) ∧ (∃ x, (u.setCell ⟨rt, 1, none⟩ v4).cell? ⟨sb, k, none⟩ = some x) ∧ (u.setCell ⟨rt, 1, none⟩ v4).frozen? ⟨sb, k, none⟩ = false) := Lib.hid (fun u v4 hu => by
      have h1 := hc.up hu
      have hne := hc.ne
      have hk : Kept (fun j => j = rt) u (u.setCell ⟨rt, 1, none⟩ v4) := kept_put _ _ _ _
      have hs2 := h1.s.keep hk (fun g hg e => by omega)
      refine ⟨?_, ?_, hs2.free k⟩
      · have := (h1.b).put 1 v4
        have := this.cell 0 (by simp)
        simpa using this
      · obtain ⟨b, o, e, _, hcell⟩ := hs2.rd (by rw [iCells_len]; omega)
        have e := Option.some.inj e
        injection e with e1 e2
        subst e1 e2
        have := i_cells hcell k hsi
        rw [Nat.zero_add] at this
        exact ⟨_, this⟩)
    have hrd := hc.r.rd
    obtain ⟨m, hm⟩ : ∃ m, r.length = m := ⟨_, rfl⟩
    have HM := Lib.hid hm
    have hrl : T.row.length = m + 1 := by rw [hrow, List.length_cons, hm]
    rw [hrow] at hrd
    rw [hrl] at hr24 y1 HCU hrc
    obtain ⟨b, o, e, hbl, hcell⟩ := hrd (by rw [iCells_len]; simp)
    subst e
    have c0 := i_cells hcell 0 (by simp)
    rw [Nat.add_zero] at c0
    simp only [List.getElem_cons_zero] at c0
    obtain ⟨A3, c3, hcut, hA3, hrd3⟩ := cut_tail (w := w) (Ts := 43) (k := 1) (n := m + 1) (c := cr) (j := 1) he_i hz_i hrd hA0 (by rw [iCells_len, List.length_cons, hm]; omega) (by omega) hrc (by omega)
    rw [Nat.mul_one, show (iCells ((k : Int) :: r)).drop 1 = iCells r from rfl] at hrd3
    rw [Nat.add_sub_cancel] at hcut
    obtain ⟨t1, t2⟩ := hcut
    rw [show ((1 : Nat) : Int) = 1 from rfl] at t1 t2
    have HA3 := Lib.hid hA3
    have HR3 := Lib.hid hrd3
    obtain ⟨n, hn⟩ : ∃ n, T.st.length = n := ⟨_, rfl⟩
    rw [hn] at y0 HCS hsi
    have HB1 : Hid (Below w.heap.size w (w.alloc (.cells #[] 3))) := Lib.hid ((Below.refl _ _).alloc (Nat.le_refl _) _)
    have HO1 : Hid (OwnK (w.alloc (.cells #[] 3)) w.heap.size 3 1 (.slice (some ⟨w.heap.size, 0, none⟩) 0 0) 0 []) := Lib.hid (OwnK.new w w.heap.size 3 1 0 [] (Nat.le_refl _) rfl (by omega))
    obtain ⟨w1, hw1⟩ : ∃ u, w.alloc (.cells #[] 3) = u := ⟨_, rfl⟩
    rw [hw1] at HB1 HO1
    have y1b := (HCU.out w1 HB1.out).1
    clear hc hw hr hrow hrd hcell hA3 hrd3 hrl hm hn hA0 hrc hz0 hz1 hz2 g1 g2 g3 g4 g5
    go_enter Tryd.func25, Tryd.ntmps25
    go_wp2_with (first
      | (at_builtin; go_loud (refine appP _ rfl (.tmp 18) (.tmp 23) 43 3 (.int .i64 0) 1 8 rfl Tryd.underlying43 intInfo rfl (by decide) (by decide) w.heap.size 0 m c3 (.slice (some ⟨w.heap.size, 0, none⟩) 0 0) [] (iCells r) A3 rfl HO1.out rfl (by rw [iCells_len, HM.out, Nat.mul_one]) (HR3.out _ HB1.out) HA3.out iCells_one (by omega) HB1.out.size ?_; intro v4 w4 ho hg; rw [Nat.zero_add, List.nil_append] at ho; obtain ⟨A4, c4, rfl, _, _, _⟩ := ho.form; have HO4 := Lib.hid ho; have HB4 := Lib.hid (below_grown HB1.out hg (fun e he => HO1.out.own e he)); obtain ⟨y1c, f1c⟩ := HCU.out _ HB4.out; obtain ⟨y0d, ⟨x, hx⟩, f0d⟩ := HCS.out w4 (.slice A4 m c4) HB4.out; clear ho hg y0 y1 y2 y1b c0 t1 t2))
      | fail)
    go_ret2
    exact HE.out _ _ HB4.out (by rw [HM.out]; exact HO4.out)
/-- CLOSE: written by gen/tat.py. -/
theorem tat_mark : True := trivial
set_option maxHeartbeats 2000000 in
theorem rtclose_at (z : Int) (h : RtF G w rt T) (hd : T.done.length ≤ 100000) : Calls Tryd.prog 26 #[.pointer (some ⟨rt, 0, none⟩), .int .i64 z] w (RtTo G rt (.bool (T.closeB z)) (T.closeS z) w) := by
  have HS := Lib.hid (rtstate_at z h)
  have HV := Lib.hid h
  obtain ⟨sb, c, vr, vd, hc, g1, g2, g3, g4, g5, hw⟩ := h
  have hlb : T.done.length ≤ 100000 := hd
  by_cases hs : T.stA z = 1
  · have hin := TaS.in_iff.1 (TaS.in_of (T := T) (z := z) (by omega))
    obtain ⟨k, rfl⟩ : ∃ k : Nat, z = (k : Int) := ⟨z.toNat, by omega⟩
    have hsi : k < T.st.length := by omega
    have e1 : T.closeB (k : Int) = true := by unfold TaS.closeB; simpa using hs
    have e3 : T.closeS (k : Int) = ⟨T.st.set k 2, T.row, T.done ++ [(k : Int)]⟩ := by unfold TaS.closeS; rw [if_pos hs]; simp
    have hwf := hw.close (k : Int)
    rw [e3] at hwf
    obtain ⟨sc, sk⟩ := hc.setS k 2
    obtain ⟨w1, hw1⟩ : ∃ u, w.setCell ⟨sb, k, none⟩ (.int .i64 2) = u := ⟨_, rfl⟩
    have hsz : w1.heap.size = w.heap.size := by rw [← hw1]; simp [World.setCell]
    rw [hw1] at sc sk
    have HE : Hid (∀ w5 v5, Below w1.heap.size w1 w5 → OwnK w5 w1.heap.size 3 1 v5 (T.done ++ [(k : Int)]).length (iCells (T.done ++ [(k : Int)])) → RtTo G rt (.bool (T.closeB (k : Int))) (T.closeS (k : Int)) w (.returned (.bool true)) (w5.setCell ⟨rt, 2, none⟩ v5)) := Lib.hid (fun w5 v5 hb ho => by
      rw [e1, e3]
      obtain ⟨l1, l2⟩ := sc.layD hb ho
      have hk : Kept G w (w5.setCell ⟨rt, 2, none⟩ v5) := (sk.mono (fun j _ e => e ▸ g2)).and (l2.mono (fun j _ e => e ▸ g1))
      have hlt : ∀ j, (grow G w (w5.setCell ⟨rt, 2, none⟩ v5)) j → j < (w5.setCell ⟨rt, 2, none⟩ v5).heap.size := fun j hj => hj.elim (fun h => Nat.lt_of_lt_of_le (g5 j h) hk.size) (fun h => h.2)
      have hnew : ∀ j, v5.ownBlock = some j → grow G w (w5.setCell ⟨rt, 2, none⟩ v5) j := fun j e => .inr ⟨by have := ho.own j e; omega, by have := ho.ltAt j e; simpa [World.setCell] using this⟩
      exact ⟨rfl, ⟨sb, c, vr, v5, l1, .inl g1, .inl g2, fun j e => .inl (g3 j e), hnew, hlt, hwf⟩, hk⟩)
    have hs0 : ∃ x, w.cell? ⟨sb, k, none⟩ = some x := by
      obtain ⟨b, o, e, _, hcell⟩ := hc.s.rd (by rw [iCells_len]; omega)
      have e := Option.some.inj e
      injection e with e1 e2
      subst e1 e2
      have := i_cells hcell k hsi
      rw [Nat.zero_add] at this
      exact ⟨_, this⟩
    obtain ⟨x0, hx0⟩ := hs0
    have hf0 := hc.s.free k
    have hrd : OwnK w1 (rt + 1) 3 1 vd T.done.length (iCells T.done) := sc.d
    obtain ⟨A, cr, hvv, hrc, _, hA0⟩ := hrd.form
    rw [hvv] at hrd
    have HR := Lib.hid hrd.rd
    have HA := Lib.hid hA0
    have HCU : Hid (∀ u, Below w1.heap.size w1 u → u.cell? ⟨rt, 2, none⟩ = some (.slice A T.done.length cr) ∧ u.frozen? ⟨rt, 2, none⟩ = false) := Lib.hid (fun u hu => ⟨by rw [← hvv]; exact (sc.up hu).cells.2.2, (sc.up hu).b.free 2⟩)
    obtain ⟨y0, _, _⟩ := hc.cells
    unfold StIs at HS
    obtain ⟨st, hst⟩ : ∃ s, T.stA (k : Int) = s := ⟨_, rfl⟩
    rw [hst] at HS hs
    obtain ⟨ib, hib⟩ : ∃ s, T.inB (k : Int) = s := ⟨_, rfl⟩
    rw [hib] at HS
    have q : (st != 1) = false := by simp [hs]
    obtain ⟨L, hL⟩ : ∃ l, T.done = l := ⟨_, rfl⟩
    rw [hL] at HE HR HCU hlb
    obtain ⟨m, hm⟩ : ∃ m, L.length = m := ⟨_, rfl⟩
    have HM := Lib.hid hm
    rw [hm] at HCU hlb
    obtain ⟨n, hn⟩ : ∃ n, T.st.length = n := ⟨_, rfl⟩
    rw [hn] at y0 hsi
    have HB2 : Hid (Below w1.heap.size w1 (w1.alloc (.cells #[] 3))) := Lib.hid ((Below.refl _ _).alloc (Nat.le_refl _) _)
    have HO2 : Hid (OwnK (w1.alloc (.cells #[] 3)) w1.heap.size 3 1 (.slice (some ⟨w1.heap.size, 0, none⟩) 0 0) 0 []) := Lib.hid (OwnK.new w1 w1.heap.size 3 1 0 [] (Nat.le_refl _) rfl (by omega))
    obtain ⟨w2, hw2⟩ : ∃ u, w1.alloc (.cells #[] 3) = u := ⟨_, rfl⟩
    rw [hw2] at HB2 HO2
    have yb := (HCU.out w2 HB2.out).1
    clear hc hw hwf hs hin e1 e3 sc sk hsz hvv hrc hA0 hrd hst hib hL hm hn g1 g2 g3 g4 g5
    go_enter Tryd.func26, Tryd.ntmps26
    go_wp2_with fail
    refine HS.out.mono ?_
    rintro r w' ⟨rfl, rfl⟩
    go_wp2_with (first
      | (at_builtin; (refine appP _ rfl (.tmp 22) (.tmp 26) 43 3 (.int .i64 0) 1 8 rfl Tryd.underlying43 intInfo rfl (by decide) (by decide) w1.heap.size 0 m cr (.slice (some ⟨w1.heap.size, 0, none⟩) 0 0) [] (iCells L) A rfl HO2.out rfl (by rw [iCells_len, HM.out, Nat.mul_one]) (HR.out.up HB2.out) HA.out iCells_one (by omega) HB2.out.size ?_; intro v3 w3 ho hg; rw [Nat.zero_add, List.nil_append] at ho; have HO3 := Lib.hid ho; have HB3 := Lib.hid (below_grown HB2.out hg (fun e he => HO2.out.own e he)); obtain ⟨w4, hw4⟩ : ∃ u, w3.alloc (.cells #[.int .i64 (k : Int)] 3) = u := ⟨_, rfl⟩; have hb4 : Below w3.heap.size w3 w4 := (by rw [← hw4]; exact (Below.refl _ _).alloc (Nat.le_refl _) _); have HO4 := Lib.hid (HO3.out.up hb4); have HB4 := Lib.hid (below_all HB3.out hb4); have HR4 : Hid (RdV w4 w4.heap.size (some ⟨w3.heap.size, 0, none⟩) [.int .i64 (k : Int)]) := Lib.hid (by rw [← hw4]; exact row_rd w3 [.int .i64 (k : Int)]); clear ho hg hb4 yb y0 hx0 hf0))
      | (at_builtin; (refine appP _ rfl (.tmp 27) (.tmp 29) 43 3 (.int .i64 0) 1 8 rfl Tryd.underlying43 intInfo rfl (by decide) (by decide) w1.heap.size m 1 1 v3 (iCells L) [.int .i64 (k : Int)] (some ⟨w3.heap.size, 0, none⟩) rfl HO4.out rfl rfl HR4.out (fun e => by cases e) (fun u hu => by simp only [List.mem_cons, List.not_mem_nil, or_false] at hu; rcases hu with rfl; rfl) (by omega) HB4.out.size ?_; intro v5 w5 ho hg; obtain ⟨A5, c5, rfl, _, _, _⟩ := ho.form; have HO5 : Hid (OwnK w5 w1.heap.size 3 1 (.slice A5 (m + 1) c5) (L ++ [(k : Int)]).length (iCells (L ++ [(k : Int)]))) := Lib.hid (by rw [List.length_append, HM.out]; simpa [iCells] using ho); have HB5 := Lib.hid (below_grown HB4.out hg (fun e he => HO4.out.own e he)); obtain ⟨y5, f5⟩ := HCU.out _ HB5.out; clear ho hg))
      | fail)
    go_ret
    exact HE.out _ _ HB5.out HO5.out
  · have HE : Hid (RtTo G rt (.bool (T.closeB z)) (T.closeS z) w (.returned (.bool false)) w) := Lib.hid (by
      have e1 : T.closeB z = false := by unfold TaS.closeB; simpa using hs
      have e3 : T.closeS z = T := by unfold TaS.closeS; rw [if_neg hs]
      rw [e1, e3]
      exact ⟨rfl, HV.out.grown (Below.refl _ _), Kept.refl _ _⟩)
    unfold StIs at HS
    obtain ⟨st, hst⟩ : ∃ s, T.stA z = s := ⟨_, rfl⟩
    rw [hst] at HS hs
    obtain ⟨ib, hib⟩ : ∃ s, T.inB z = s := ⟨_, rfl⟩
    rw [hib] at HS
    have q : (st != 1) = true := by simpa using hs
    clear hc hw hs hst hib
    go_enter Tryd.func26, Tryd.ntmps26
    go_wp2_with fail
    refine HS.out.mono ?_
    rintro r w' ⟨rfl, rfl⟩
    go_wp2_with fail
    go_ret
    exact HE.out
set_option maxHeartbeats 2000000 in
theorem rtgive_at (z : Int) (h : RtF G w rt T) (hd : T.done.length ≤ 100000) : Calls Tryd.prog 27 #[.pointer (some ⟨rt, 0, none⟩), .int .i64 z] w (RtTo G rt (.bool (T.giveB z)) (T.giveS z) w) := by
  have HS := Lib.hid (rtstate_at z h)
  have HV := Lib.hid h
  obtain ⟨sb, c, vr, vd, hc, g1, g2, g3, g4, g5, hw⟩ := h
  have hlb : T.row.length ≤ 100000 := Nat.le_trans (TaS.row_len hw) (by omega)
  by_cases hs : T.stA z ≠ 0
  · have hin := TaS.in_iff.1 (TaS.in_of (T := T) (z := z) (by omega))
    obtain ⟨k, rfl⟩ : ∃ k : Nat, z = (k : Int) := ⟨z.toNat, by omega⟩
    have hsi : k < T.st.length := by omega
    have e1 : T.giveB (k : Int) = true := by unfold TaS.giveB; simpa using hs
    have e3 : T.giveS (k : Int) = ⟨T.st.set k 0, T.row ++ [(k : Int)], T.done⟩ := by unfold TaS.giveS; rw [if_neg hs]; simp
    have hwf := hw.give (k : Int)
    rw [e3] at hwf
    obtain ⟨sc, sk⟩ := hc.setS k 0
    obtain ⟨w1, hw1⟩ : ∃ u, w.setCell ⟨sb, k, none⟩ (.int .i64 0) = u := ⟨_, rfl⟩
    have hsz : w1.heap.size = w.heap.size := by rw [← hw1]; simp [World.setCell]
    rw [hw1] at sc sk
    have HE : Hid (∀ w5 v5, Below w1.heap.size w1 w5 → OwnK w5 w1.heap.size 3 1 v5 (T.row ++ [(k : Int)]).length (iCells (T.row ++ [(k : Int)])) → RtTo G rt (.bool (T.giveB (k : Int))) (T.giveS (k : Int)) w (.returned (.bool true)) (w5.setCell ⟨rt, 1, none⟩ v5)) := Lib.hid (fun w5 v5 hb ho => by
      rw [e1, e3]
      obtain ⟨l1, l2⟩ := sc.layR hb ho
      have hk : Kept G w (w5.setCell ⟨rt, 1, none⟩ v5) := (sk.mono (fun j _ e => e ▸ g2)).and (l2.mono (fun j _ e => e ▸ g1))
      have hlt : ∀ j, (grow G w (w5.setCell ⟨rt, 1, none⟩ v5)) j → j < (w5.setCell ⟨rt, 1, none⟩ v5).heap.size := fun j hj => hj.elim (fun h => Nat.lt_of_lt_of_le (g5 j h) hk.size) (fun h => h.2)
      have hnew : ∀ j, v5.ownBlock = some j → grow G w (w5.setCell ⟨rt, 1, none⟩ v5) j := fun j e => .inr ⟨by have := ho.own j e; omega, by have := ho.ltAt j e; simpa [World.setCell] using this⟩
      exact ⟨rfl, ⟨sb, c, v5, vd, l1, .inl g1, .inl g2, hnew, fun j e => .inl (g4 j e), hlt, hwf⟩, hk⟩)
    have hs0 : ∃ x, w.cell? ⟨sb, k, none⟩ = some x := by
      obtain ⟨b, o, e, _, hcell⟩ := hc.s.rd (by rw [iCells_len]; omega)
      have e := Option.some.inj e
      injection e with e1 e2
      subst e1 e2
      have := i_cells hcell k hsi
      rw [Nat.zero_add] at this
      exact ⟨_, this⟩
    obtain ⟨x0, hx0⟩ := hs0
    have hf0 := hc.s.free k
    have hrd : OwnK w1 (rt + 1) 3 1 vr T.row.length (iCells T.row) := sc.r
    obtain ⟨A, cr, hvv, hrc, _, hA0⟩ := hrd.form
    rw [hvv] at hrd
    have HR := Lib.hid hrd.rd
    have HA := Lib.hid hA0
    have HCU : Hid (∀ u, Below w1.heap.size w1 u → u.cell? ⟨rt, 1, none⟩ = some (.slice A T.row.length cr) ∧ u.frozen? ⟨rt, 1, none⟩ = false) := Lib.hid (fun u hu => ⟨by rw [← hvv]; exact (sc.up hu).cells.2.1, (sc.up hu).b.free 1⟩)
    obtain ⟨y0, _, _⟩ := hc.cells
    unfold StIs at HS
    obtain ⟨st, hst⟩ : ∃ s, T.stA (k : Int) = s := ⟨_, rfl⟩
    rw [hst] at HS hs
    obtain ⟨ib, hib⟩ : ∃ s, T.inB (k : Int) = s := ⟨_, rfl⟩
    rw [hib] at HS
    have q : (st == 0) = false := by simpa using hs
    obtain ⟨L, hL⟩ : ∃ l, T.row = l := ⟨_, rfl⟩
    rw [hL] at HE HR HCU hlb
    obtain ⟨m, hm⟩ : ∃ m, L.length = m := ⟨_, rfl⟩
    have HM := Lib.hid hm
    rw [hm] at HCU hlb
    obtain ⟨n, hn⟩ : ∃ n, T.st.length = n := ⟨_, rfl⟩
    rw [hn] at y0 hsi
    have HB2 : Hid (Below w1.heap.size w1 (w1.alloc (.cells #[] 3))) := Lib.hid ((Below.refl _ _).alloc (Nat.le_refl _) _)
    have HO2 : Hid (OwnK (w1.alloc (.cells #[] 3)) w1.heap.size 3 1 (.slice (some ⟨w1.heap.size, 0, none⟩) 0 0) 0 []) := Lib.hid (OwnK.new w1 w1.heap.size 3 1 0 [] (Nat.le_refl _) rfl (by omega))
    obtain ⟨w2, hw2⟩ : ∃ u, w1.alloc (.cells #[] 3) = u := ⟨_, rfl⟩
    rw [hw2] at HB2 HO2
    have yb := (HCU.out w2 HB2.out).1
    clear hc hw hwf hs hin e1 e3 sc sk hsz hvv hrc hA0 hrd hst hib hL hm hn g1 g2 g3 g4 g5
    go_enter Tryd.func27, Tryd.ntmps27
    go_wp2_with fail
    refine HS.out.mono ?_
    rintro r w' ⟨rfl, rfl⟩
    go_wp2_with (first
      | (at_builtin; (refine appP _ rfl (.tmp 22) (.tmp 26) 43 3 (.int .i64 0) 1 8 rfl Tryd.underlying43 intInfo rfl (by decide) (by decide) w1.heap.size 0 m cr (.slice (some ⟨w1.heap.size, 0, none⟩) 0 0) [] (iCells L) A rfl HO2.out rfl (by rw [iCells_len, HM.out, Nat.mul_one]) (HR.out.up HB2.out) HA.out iCells_one (by omega) HB2.out.size ?_; intro v3 w3 ho hg; rw [Nat.zero_add, List.nil_append] at ho; have HO3 := Lib.hid ho; have HB3 := Lib.hid (below_grown HB2.out hg (fun e he => HO2.out.own e he)); obtain ⟨w4, hw4⟩ : ∃ u, w3.alloc (.cells #[.int .i64 (k : Int)] 3) = u := ⟨_, rfl⟩; have hb4 : Below w3.heap.size w3 w4 := (by rw [← hw4]; exact (Below.refl _ _).alloc (Nat.le_refl _) _); have HO4 := Lib.hid (HO3.out.up hb4); have HB4 := Lib.hid (below_all HB3.out hb4); have HR4 : Hid (RdV w4 w4.heap.size (some ⟨w3.heap.size, 0, none⟩) [.int .i64 (k : Int)]) := Lib.hid (by rw [← hw4]; exact row_rd w3 [.int .i64 (k : Int)]); clear ho hg hb4 yb y0 hx0 hf0))
      | (at_builtin; (refine appP _ rfl (.tmp 27) (.tmp 29) 43 3 (.int .i64 0) 1 8 rfl Tryd.underlying43 intInfo rfl (by decide) (by decide) w1.heap.size m 1 1 v3 (iCells L) [.int .i64 (k : Int)] (some ⟨w3.heap.size, 0, none⟩) rfl HO4.out rfl rfl HR4.out (fun e => by cases e) (fun u hu => by simp only [List.mem_cons, List.not_mem_nil, or_false] at hu; rcases hu with rfl; rfl) (by omega) HB4.out.size ?_; intro v5 w5 ho hg; obtain ⟨A5, c5, rfl, _, _, _⟩ := ho.form; have HO5 : Hid (OwnK w5 w1.heap.size 3 1 (.slice A5 (m + 1) c5) (L ++ [(k : Int)]).length (iCells (L ++ [(k : Int)]))) := Lib.hid (by rw [List.length_append, HM.out]; simpa [iCells] using ho); have HB5 := Lib.hid (below_grown HB4.out hg (fun e he => HO4.out.own e he)); obtain ⟨y5, f5⟩ := HCU.out _ HB5.out; clear ho hg))
      | fail)
    go_ret
    exact HE.out _ _ HB5.out HO5.out
  · have HE : Hid (RtTo G rt (.bool (T.giveB z)) (T.giveS z) w (.returned (.bool false)) w) := Lib.hid (by
      have e1 : T.giveB z = false := by unfold TaS.giveB; simpa using hs
      have e3 : T.giveS z = T := by unfold TaS.giveS; rw [if_pos (by simpa using hs)]
      rw [e1, e3]
      exact ⟨rfl, HV.out.grown (Below.refl _ _), Kept.refl _ _⟩)
    unfold StIs at HS
    obtain ⟨st, hst⟩ : ∃ s, T.stA z = s := ⟨_, rfl⟩
    rw [hst] at HS hs
    obtain ⟨ib, hib⟩ : ∃ s, T.inB z = s := ⟨_, rfl⟩
    rw [hib] at HS
    have q : (st == 0) = true := by simpa using hs
    clear hc hw hs hst hib
    go_enter Tryd.func27, Tryd.ntmps27
    go_wp2_with fail
    refine HS.out.mono ?_
    rintro r w' ⟨rfl, rfl⟩
    go_wp2_with fail
    go_ret
    exact HE.out
end
end Go.Proofs.YteoohafadijkmaaDoor
