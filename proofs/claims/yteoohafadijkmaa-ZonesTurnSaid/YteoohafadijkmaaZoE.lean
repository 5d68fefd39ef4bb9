/-
  Rows of closed zones: the closure, IndexFunc, at, Delete, leave, join. Written by gen/zo.py.
-/
import Derived.Test.YteoohafadijkmaaZoA
import Derived.Test.YteoohafadijkmaaQuietIn
import Derived.Test.YteoohafadijkmaaHand
import Derived.Lib.AppendZeros
namespace Go.Proofs.Yteoohafadijkmaa
open Go.RowKit

theorem zofE_at (x : Int) (y : Nat) {w : World} : Calls Try.prog 17 #[.agg #[.int .i64 x, .int .u32 (y : Int)]] w (IntB x w) := by
  have HB : Hid (Below w.heap.size w (w.alloc (.cells #[.int .i64 x, .int .u32 (y : Int)] 48))) := Lib.hid ((Below.refl _ _).alloc (Nat.le_refl _) _)
  go_enter Try.func17, Try.ntmps17
  go_wp2_with fail
  go_ret
  exact ⟨rfl, HB.out⟩
set_option maxHeartbeats 2000000 in
theorem zocE_at {x : Int} {y : Nat} {z : Int} {g1 g2 tb : Nat} {w : World} (k1 : w.cell? ⟨g1, 0, none⟩ = some (.pointer (some ⟨tb, 3, none⟩))) (k2 : w.cell? ⟨g2, 0, none⟩ = some (.int .i64 z)) (k3 : w.cell? ⟨tb, 4, none⟩ = some (.func (.func 17) #[] #[])) : Calls Try.prog 28 #[.agg #[.int .i64 x, .int .u32 (y : Int)], .pointer (some ⟨g1, 0, none⟩), .pointer (some ⟨g2, 0, none⟩)] w (BoolB (x == z) w) := by
  have hb0 : Below w.heap.size w (w.alloc (.cells #[.int .i64 x, .int .u32 (y : Int)] 48)) := (Below.refl _ _).alloc (Nat.le_refl _) _
  have hx0 : Blk (w.alloc (.cells #[.int .i64 x, .int .u32 (y : Int)] 48)) w.heap.size 48 [.int .i64 x, .int .u32 (y : Int)] := heap_alloc_new w _
  have HC : Hid (∀ u, Below w.heap.size w u → u.cell? ⟨g1, 0, none⟩ = some (.pointer (some ⟨tb, 3, none⟩)) ∧ u.cell? ⟨g2, 0, none⟩ = some (.int .i64 z) ∧ u.cell? ⟨tb, 4, none⟩ = some (.func (.func 17) #[] #[])) := Lib.hid (fun u hu =>
    ⟨(hu.cell (p := ⟨g1, 0, none⟩) (World.block_lt_of_cell? w _ k1)).trans k1, (hu.cell (p := ⟨g2, 0, none⟩) (World.block_lt_of_cell? w _ k2)).trans k2, (hu.cell (p := ⟨tb, 4, none⟩) (World.block_lt_of_cell? w _ k3)).trans k3⟩)
  clear k1 k2 k3
  have HX := Lib.hid hx0
  have HB0 := Lib.hid hb0
  obtain ⟨w1, hw1⟩ : ∃ u, w.alloc (.cells #[.int .i64 x, .int .u32 (y : Int)] 48) = u := ⟨_, rfl⟩
  rw [hw1] at HX HB0
  obtain ⟨a, ha⟩ : ∃ a, w.heap.size = a := ⟨_, rfl⟩
  have HA := Lib.hid ha
  rw [ha] at HX
  clear hb0 hx0
  have HUP : Hid (∀ {a b : World}, Below w1.heap.size w1 a → Below a.heap.size a b → Below w1.heap.size w1 b) := Lib.hid (fun h k => below_all h k)
  go_enter Try.func28, Try.ntmps28
  go_wp2_with fail
  clear hw1
  refine wp_region_in (fun u => Below w1.heap.size w1 u) (Below.refl _ _).drew (by kernel_rfl) (by kernel_rfl) (fun ne => ?_)
  have y1 := fun m : In (fun u => Below w1.heap.size w1 u) => (HC.out m.w (below_all HB0.out m.ok)).1
  have y2 := fun m : In (fun u => Below w1.heap.size w1 u) => (HC.out m.w (below_all HB0.out m.ok)).2.1
  have y3 := fun m : In (fun u => Below w1.heap.size w1 u) => (HC.out m.w (below_all HB0.out m.ok)).2.2
  have y4 := fun m : In (fun u => Below w1.heap.size w1 u) => (HX.out.up m.ok (lt_of_block HX.out)).cell 0 (by simp)
  have y5 := fun m : In (fun u => Below w1.heap.size w1 u) => (HX.out.up m.ok (lt_of_block HX.out)).cell 1 (by simp)
  have HCL : Hid (∀ m : In (fun u => Below w1.heap.size w1 u), Calls Try.prog 17 #[.agg #[.int .i64 x, .int .u32 (y : Int)]] m.w (fun e w' => e = .returned (.int .i64 x) ∧ Below m.w.heap.size m.w w')) := Lib.hid (fun m => zofE_at x y)
  repeat (go_big_quiet_step (first | (go_at_call 17; (with_reducible exact In.more HUP.out (HCL.out _)))))
  refine wpQuiet_nil ?_
  intro nq
  have HB9 : Hid (Below w.heap.size w nq.w) := Lib.hid (below_all HB0.out nq.ok)
  clear y1 y2 y3 y4 y5
  go_wp2_with fail
  go_ret
  exact ⟨rfl, HB9.out⟩
theorem atlE_no {l : List (Int × Nat)} {z : Int} {i : Nat} (hi : i < l.length) (h : ∀ j, j < i → ∀ hj : j < l.length, l[j].1 ≠ z) (h2 : l[i].1 ≠ z) : ∀ j, j < i + 1 → ∀ hj : j < l.length, l[j].1 ≠ z := by
  intro j hj hjl
  rcases Nat.lt_or_ge j i with h3 | h3
  · exact h j h3 hjl
  · obtain rfl : j = i := by omega
    exact h2
theorem atlE_out {l : List (Int × Nat)} {z : Int} {n : Nat} (hl : l.length = n) (h : ∀ j, j < n → ∀ hj : j < l.length, l[j].1 ≠ z) : AtL (l.map (·.1)) z (-1) := by
  refine .inr ⟨rfl, fun hm => ?_⟩
  obtain ⟨a, ha, e2⟩ := List.mem_map.1 hm
  obtain ⟨j, hj, e⟩ := List.getElem_of_mem ha
  exact h j (by rw [← hl]; exact hj) hj (by rw [e]; exact e2)
set_option maxHeartbeats 2000000 in
set_option maxRecDepth 100000 in
theorem zoidxE_at {w : World} {A : Option Addr} {n c g1 g2 tb : Nat} (z : Int) (l : List (Int × Nat)) (hl : l.length = n) (hr : RdV w w.heap.size A (esC l)) (hn : n ≤ 1000) (k1 : w.cell? ⟨g1, 0, none⟩ = some (.pointer (some ⟨tb, 3, none⟩))) (k2 : w.cell? ⟨g2, 0, none⟩ = some (.int .i64 z)) (k3 : w.cell? ⟨tb, 4, none⟩ = some (.func (.func 17) #[] #[])) :
    Calls Try.prog 27 #[.slice A n c, .func (.func 28) #[] #[.pointer (some ⟨g1, 0, none⟩), .pointer (some ⟨g2, 0, none⟩)]] w (ZoAt (l.map (·.1)) z w) := by
  have HR := Lib.hid hr
  have HN := Lib.hid hl
  have HK : Hid (∀ u, Below w.heap.size w u → u.cell? ⟨g1, 0, none⟩ = some (.pointer (some ⟨tb, 3, none⟩)) ∧ u.cell? ⟨g2, 0, none⟩ = some (.int .i64 z) ∧ u.cell? ⟨tb, 4, none⟩ = some (.func (.func 17) #[] #[])) := Lib.hid (fun u hu =>
    ⟨(hu.cell (p := ⟨g1, 0, none⟩) (World.block_lt_of_cell? w _ k1)).trans k1, (hu.cell (p := ⟨g2, 0, none⟩) (World.block_lt_of_cell? w _ k2)).trans k2, (hu.cell (p := ⟨tb, 4, none⟩) (World.block_lt_of_cell? w _ k3)).trans k3⟩)
  clear hr hl k1 k2 k3
  go_enter Try.func27, Try.ntmps27
  go_wp2_with fail
  go_loopg [8] n (fun q y wr => ∃ i : Nat, i ≤ n ∧ q = n - i ∧ y = .int .i64 (i : Int) ∧ (∀ j, j < i → ∀ hj : j < l.length, l[j].1 ≠ z) ∧ Below w.heap.size w wr)
  case atStart => exact ⟨0, by omega, rfl, rfl, fun j hj => by omega, Below.refl _ _⟩
  case round =>
    obtain ⟨i, hi, hq, rfl, hh, hb⟩ := hrel
    have HQ := Lib.hid hq
    have HH := Lib.hid hh
    have HB := Lib.hid hb
    clear hq hh hb
    by_cases hlt : i < n
    · have hll : i < l.length := by rw [HN.out]; exact hlt
      obtain ⟨b, o, rfl, _, hcell⟩ := (HR.out.below HB.out) (by rw [esC_len, HN.out]; omega)
      obtain ⟨c0, c1⟩ := e_cells hcell i hll
      have HST := Lib.hid (fun h => atlE_no hll HH.out (z := z) h)
      have HYE : Hid ((l[i]'hll).1 = z → AtL (l.map (·.1)) z (i : Int)) := Lib.hid (fun h => .inl ⟨i, rfl, by rw [List.length_map]; exact hll, by rw [List.getElem_map]; exact h⟩)
      obtain ⟨k1, k2, k3⟩ := HK.out wr HB.out
      obtain ⟨x, hx⟩ : ∃ x, l[i].1 = x := ⟨_, rfl⟩
      rw [hx] at c0 HST HYE
      obtain ⟨y, hy⟩ : ∃ y, l[i].2 = y := ⟨_, rfl⟩
      rw [hy] at c1
      have HCC := Lib.hid (zocE_at (x := x) (y := y) k1 k2 k3)
      clear hcell hx k1 k2 k3 hy
      go_wp2_with fail
      refine HCC.out.mono ?_
      rintro r w' ⟨rfl, hb⟩
      have HB2 := Lib.hid (below_all HB.out hb)
      clear hb c0 c1 HCC
      by_cases hxz : x = z
      · have ht : (x == z) = true := by simpa using hxz
        have HE : Hid (ZoAt (l.map (·.1)) z w (.returned (.int .i64 (i : Int))) w') := Lib.hid ⟨⟨_, rfl, HYE.out hxz⟩, HB2.out⟩
        rw [ht]
        clear hxz ht
        go_wp2_with fail
        go_ret
        exact HE.out
      · have ht : (x == z) = false := by simpa using hxz
        have HNX := Lib.hid (HST.out hxz)
        rw [ht]
        clear hxz ht
        go_wp2_with fail
        go_roundg (n - (i + 1))
        case rel => exact ⟨i + 1, by omega, rfl, by go_num, HNX.out, HB2.out⟩
        case measure => have := HQ.out; omega
    · obtain rfl : i = n := by omega
      have HE : Hid (ZoAt (l.map (·.1)) z w (.returned (.int .i64 (-1))) wr) := Lib.hid ⟨⟨_, rfl, atlE_out HN.out HH.out⟩, HB.out⟩
      go_wp2_with fail
      go_ret
      exact HE.out
set_option maxHeartbeats 2000000 in
set_option maxRecDepth 100000 in
theorem zoatE_at {F : Nat → Prop} {w : World} {tb n m : Nat} {v1 v2 : Value} {fr : List Int} {es : List (Int × Nat)} (z : Int) (h : ZtM F w tb n v1 v2 fr es m) (hn : es.length ≤ 1000) : Calls Try.prog 21 #[.pointer (some ⟨tb, 3, none⟩), .int .i64 z] w (ZoAt (es.map (·.1)) z w) := by
  obtain ⟨A, c, hv, _, _, _⟩ := h.r2.form
  obtain ⟨w1, hw1⟩ : ∃ u, w.alloc (.cells #[.pointer (some ⟨tb, 3, none⟩)] 58) = u := ⟨_, rfl⟩
  obtain ⟨w2, hw2⟩ : ∃ u, w1.alloc (.cells #[.int .i64 z] 3) = u := ⟨_, rfl⟩
  have hb1 : Below w.heap.size w w1 := by rw [← hw1]; exact (Below.refl _ _).alloc (Nat.le_refl _) _
  have hb2 : Below w1.heap.size w1 w2 := by rw [← hw2]; exact (Below.refl _ _).alloc (Nat.le_refl _) _
  have hx1 : Blk w1 w.heap.size 58 [.pointer (some ⟨tb, 3, none⟩)] := by rw [← hw1]; exact heap_alloc_new w _
  have hx2 : Blk w2 w1.heap.size 3 [.int .i64 z] := by rw [← hw2]; exact heap_alloc_new w1 _
  have hB := below_all hb1 hb2
  have h2 := h.up hB
  have hx1' := hx1.up hb2 (lt_of_block hx1)
  obtain ⟨_, d1, d2, d3, d4, _⟩ := h2.cells
  have hrow := h2.r2
  subst hv
  have HI := Lib.hid (zoidxE_at (c := c) z es rfl hrow.rd hn (hx1'.cell 0 (by simp)) (hx2.cell 0 (by simp)) d4)
  have y1 := hx1'.cell 0 (by simp)
  have HB := Lib.hid hB
  obtain ⟨k, hk⟩ : ∃ k, es.length = k := ⟨_, rfl⟩
  rw [hk] at HI d3
  clear h h2 hb1 hb2 hB hx1 hx2 hx1' hrow hk hn d1 d2 d4
  go_enter Try.func21, Try.ntmps21
  go_wp2_with fail
  refine HI.out.mono ?_
  rintro r w3 ⟨⟨i, rfl, hi⟩, hb⟩
  have HE : Hid (ZoAt (es.map (·.1)) z w (.returned (.int .i64 i)) w3) := Lib.hid ⟨⟨i, rfl, hi⟩, below_all HB.out hb⟩
  clear hi hb y1 d3 hw1 hw2
  go_wp2_with fail
  go_ret
  exact HE.out
theorem zodzE (w : World) : (zeroValue 48).run Try.prog w = .ok (.agg #[.int .i64 0, .int .u32 0]) w := by kernel_rfl
theorem zoclearE (w : World) (ty : TypeId) (g o c : Nat) (hc : ∀ j, j < 2 → (w.cell? ⟨g, o + j, none⟩).isSome = true) (hf : ∀ j, w.frozen? ⟨g, j, none⟩ = false) : (Builtin.clear_ #[50] ty #[.slice (some ⟨g, o, none⟩) 1 c]).run Try.prog w = .ok (.tuple #[]) (w.setCells g o [.int .i64 0, .int .u32 0]) := by
  have hst := run_storeCells_cells (P := Try.prog) g o [.int .i64 0, .int .u32 0] 0 w (by intro j hj; exact hc j (by simpa using hj)) (by intro j _; exact hf _) (by decide)
  simp only [Nat.add_zero] at hst
  have hzc : (Builtin.zeroCells (.agg #[.int .i64 0, .int .u32 0] : Value).cells 1).toList = [.int .i64 0, .int .u32 0] := by kernel_rfl
  simp [Builtin.clear_, run_underlying Try.underlying50, zodzE, hzc, hst]
theorem zo_stepE (w : World) {ops : Array Oper} {o : Oper} {a : Act} {K : Act → World → Prop} {Q : Exit → Act → World → Prop} {E : Prop} (hgd : o.guard = none) (s x : Operand) (t tn : TypeId)
    (ho : o.op = .call { callee := .builtin .append, args := #[s, x], argTypes := #[t, tn] }) (vs vx : Value) (hs : a.eval s = vs) (hx : a.eval x = vx)
    (v' : Value) (w' : World) (hr : (Builtin.append_ #[t, tn] o.type #[vs, vx]).run Try.prog w = .ok v' w') (h : K (a.put o.dst v') w') : if Region.wanted o (yielded ops a.tmps) = true then Oper.wp Try.prog o a w K Q else E := by
  have hw : Region.wanted o (yielded ops a.tmps) = true := by simp [Region.wanted, hgd]
  rw [if_pos hw]
  exact Lib.wp_append_run w s x t tn ho vs vx hs hx v' w' hr h
/-- One element less. -/
def ZoDelE (g c s : Nat) (l : List (Int × Nat)) (w : World) (r : Ending) (w' : World) : Prop := r = .returned (.slice (some ⟨g, 0, none⟩) s c) ∧ OwnK w' 0 48 2 (.slice (some ⟨g, 0, none⟩) s c) s (esC l) ∧ Kept (fun k => k = g) w w'
set_option maxHeartbeats 2000000 in
set_option maxRecDepth 100000 in
theorem zodelE_at {w : World} {g n c p q s : Nat} (l : List (Int × Nat)) (h : OwnK w 0 48 2 (.slice (some ⟨g, 0, none⟩) n c) n (esC l)) (hl : l.length = n) (hp : p < n) (hq : q = p + 1) (hs : s + 1 = n) : Calls Try.prog 32 #[.slice (some ⟨g, 0, none⟩) n c, .int .i64 (p : Int), .int .i64 (q : Int)] w (ZoDelE g c s (l.eraseIdx p) w) := by
  obtain ⟨i0, hi, hz0, hz1, hz2⟩ := info_parts endInfo
  have hfm : ∃ A' c', Value.slice (some ⟨g, 0, none⟩) n c = .slice A' n c' ∧ n ≤ c' ∧ c' ≤ maxLen := by
    obtain ⟨A', c', e, h1, h2, _⟩ := h.form
    exact ⟨A', c', e, h1, h2⟩
  have hnc : n ≤ c := by
    obtain ⟨A', c', e, h1, _⟩ := hfm
    injection e with _ _ e
    omega
  have hcm : c ≤ 9223372036854775807 := by
    obtain ⟨A', c', e, _, h2⟩ := hfm
    injection e with _ _ e
    unfold maxLen at h2
    omega
  have hd : OwnK w.drew 0 48 2 (.slice (some ⟨g, 0, none⟩) n c) n (esC l) := h.up (Below.refl _ _).drew
  have hrd : ∀ j (hj : j < (esC l).length), w.drew.cell? ⟨g, j, none⟩ = some (esC l)[j] := fun j hj => by
    obtain ⟨b, o, e, _, hc⟩ := hd.rd (by omega)
    have e := Option.some.inj e
    injection e with e1 e2
    subst e1 e2
    have := hc j hj
    rwa [Nat.zero_add] at this
  have hlen : (esC l).length = n * 2 := by rw [esC_len, hl]
  have hfr : ∀ j, w.drew.frozen? ⟨g, j, none⟩ = false := fun j => by
    rcases hd.2 with ⟨e, _⟩ | ⟨g', c', cur, hv, _, hg, _⟩
    · cases e
    · injection hv with e1
      have e1 := Option.some.inj e1
      injection e1 with e1
      subst e1
      exact frozen_of_row _ g j cur _ hg
  obtain ⟨news, hnews⟩ : ∃ x, esC (l.drop q) = x := ⟨_, rfl⟩
  have hnl : news.length = (n - q) * 2 := by rw [← hnews, esC_len, List.length_drop, hl]
  have hng : ∀ t u, news[t]? = some u → w.drew.cell? ⟨g, q * 2 + t, none⟩ = some u := fun t u hu => by
    have ht : t < news.length := (List.getElem?_eq_some_iff.1 hu).1
    have e : esC l = esC (l.take q) ++ news := by rw [← hnews]; unfold esC; rw [← List.flatMap_append, List.take_append_drop]
    have ht2 : (esC (l.take q)).length = q * 2 := by rw [esC_len, List.length_take, hl]; omega
    have e2 : (esC l)[q * 2 + t]? = some u := by rw [e, List.getElem?_append_right (by omega), ht2, Nat.add_sub_cancel_left]; exact hu
    obtain ⟨h3, h4⟩ := List.getElem?_eq_some_iff.1 e2
    rw [hrd _ h3, h4]
  obtain ⟨A, hA, hsrc⟩ : ∃ A : Addr, (if c = q then (some (⟨g, 0, none⟩ : Addr)) else some ⟨g, q * 2, none⟩) = some A ∧ (∀ t u, news[t]? = some u → w.drew.cell? (A.add t) = some u) := by
    by_cases e : c = q
    · refine ⟨⟨g, 0, none⟩, by rw [if_pos e], fun t u hu => ?_⟩
      have ht : t < news.length := (List.getElem?_eq_some_iff.1 hu).1
      have : n - q = 0 := by omega
      rw [hnl, this] at ht
      omega
    · refine ⟨⟨g, q * 2, none⟩, by rw [if_neg e], fun t u hu => ?_⟩
      have := hng t u hu
      rcases t with _ | t
      · simpa [Addr.add] using this
      · simpa [Addr.add] using this
  have hrun := fun ty => run_append_room_cells (P := Try.prog) w.drew 50 ty 48 i0 Try.underlying50 hi g 0 p c A (n - q) (c - q) news (by rw [hz1]; exact hnl) hsrc (fun u hu => esC_one u (by rw [hnews]; exact hu)) (by omega)
    (fun j hj => by
      rw [hz1, Nat.zero_add, hrd _ (by rw [hnl] at hj; omega)]
      rfl)
    (fun j hj => hfr _)
  rw [hz1, Nat.zero_add] at hrun
  have hps : p + (n - q) = s := by omega
  rw [hps] at hrun
  obtain ⟨W1, hW1⟩ : ∃ u, w.drew.setCells g (p * 2) news = u := ⟨_, rfl⟩
  have hk1 : Kept (fun k => k = g) w W1 := by rw [← hW1]; exact cells_keep g _ _ w w.drew (Kept.refl _ _).drew
  have he := fun zs hz => own_erase eC (k := 2) (fun _ => rfl) (l := l) (by exact hd) hl hp hs zs hz
  have hnews2 : (l.drop (p + 1)).flatMap eC = news := by rw [← hq, ← hnews]; rfl
  rw [hnews2, hW1] at he
  have he := he [.int .i64 0, .int .u32 0] rfl
  rw [hW1] at hrun
  have hcl := fun ty => zoclearE W1 ty g (s * 2) (c - s) (fun j hj => by
      rw [← hW1]
      rcases hd.2 with ⟨e, _⟩ | ⟨g', c', cur, hv, _, hg, hc, _, hsz, _⟩
      · cases e
      · injection hv with e1 e2 e3
        have e1 := Option.some.inj e1
        injection e1 with e1
        subst e1 e3
        have hb := cells_lay g 48 news (p * 2) w.drew cur.toList hg (by rw [hnl]; simp; omega)
        rw [hb.cell _ (by simp only [List.length_append, List.length_take, List.length_drop]; simp; omega)]
        rfl)
    (fun j => by
      rw [← hW1]
      rcases hd.2 with ⟨e, _⟩ | ⟨g', c', cur, hv, _, hg, hc, _, hsz, _⟩
      · cases e
      · injection hv with e1 e2 e3
        have e1 := Option.some.inj e1
        injection e1 with e1
        subst e1 e3
        exact (cells_lay g 48 news (p * 2) w.drew cur.toList hg (by rw [hnl]; simp; omega)).free j)
  have HCL := Lib.hid hcl
  have HRUN := Lib.hid hrun
  have HE : Hid (ZoDelE g c s (l.eraseIdx p) w (.returned (.slice (some ⟨g, 0, none⟩) s c)) (W1.setCells g (s * 2) [.int .i64 0, .int .u32 0])) := Lib.hid ⟨rfl, by exact he, cells_keep g _ _ w W1 hk1⟩
  have hpq : ((p : Int) == (q : Int)) = false := by simp; omega
  have hqn : q ≤ n := by omega
  have hqc : q ≤ c := by omega
  have hpc : p ≤ c := by omega
  have hple : p ≤ q := by omega
  have hns : n - s = 1 := by omega
  have hsn : s ≤ n := by omega
  have hsc : s ≤ c := by omega
  have hcs : ¬ c = s := by omega
  have hnp : ¬ n = p := by omega
  clear h hd hl hp hs hq hfm hlen hrd hfr hnews hnl hng hsrc hrun hk1 he hnews2 hcl hW1 hps hi hz0 hz1 hz2
  go_enter Try.func32, Try.ntmps32
  go_wp2_with fail
  refine wp_region_any (by kernel_rfl) ?_
  try (change wpAny _ _ _ _ _ _ _ (World.drew _))
  refine wpAny_take (i := 0) (v := ?_) rfl (by kernel_rfl) (by kernel_rfl) (by kernel_rfl) (fun _ _ _ h => h) (Or.inl ⟨by rfl, ?_⟩) ?_
  rotate_left
  · intro u
    go_simp
    try with_reducible rfl
  try simp only [Act.put, List.setIfInBounds_toArray, List.set_cons_zero, List.set_cons_succ, List.getElem_toArray, List.getElem_cons_zero, List.getElem_cons_succ]
  refine wpAny_take (i := 1) (v := ?_) rfl (by kernel_rfl) (by kernel_rfl) (by kernel_rfl) (fun _ _ _ h => h) (Or.inl ⟨by rfl, ?_⟩) ?_
  rotate_left
  · intro u
    go_simp
    try with_reducible rfl
  try simp only [Act.put, List.setIfInBounds_toArray, List.set_cons_zero, List.set_cons_succ, List.getElem_toArray, List.getElem_cons_zero, List.getElem_cons_succ]
  refine wpAny_take (i := 2) (v := ?_) rfl (by kernel_rfl) (by kernel_rfl) (by kernel_rfl) (fun _ _ _ h => h) (Or.inl ⟨by rfl, ?_⟩) ?_
  rotate_left
  · intro u
    go_simp
    try with_reducible rfl
  try simp only [Act.put, List.setIfInBounds_toArray, List.set_cons_zero, List.set_cons_succ, List.getElem_toArray, List.getElem_cons_zero, List.getElem_cons_succ]
  refine wpAny_take (i := 3) (v := ?_) rfl (by kernel_rfl) (by kernel_rfl) (by kernel_rfl) (fun _ _ _ h => h) (Or.inl ⟨by rfl, ?_⟩) ?_
  rotate_left
  · intro u
    go_simp
    try with_reducible rfl
  try simp only [Act.put, List.setIfInBounds_toArray, List.set_cons_zero, List.set_cons_succ, List.getElem_toArray, List.getElem_cons_zero, List.getElem_cons_succ]
  refine wpAny_take (i := 4) (v := ?_) rfl (by kernel_rfl) (by kernel_rfl) (by kernel_rfl) (fun _ _ _ h => h) (Or.inl ⟨by rfl, ?_⟩) ?_
  rotate_left
  · intro u
    go_simp
    try with_reducible rfl
  try simp only [Act.put, List.setIfInBounds_toArray, List.set_cons_zero, List.set_cons_succ, List.getElem_toArray, List.getElem_cons_zero, List.getElem_cons_succ]
  refine wpAny_take (i := 5) (v := ?_) rfl (by kernel_rfl) (by kernel_rfl) (by kernel_rfl) (fun _ _ _ h => h) (Or.inl ⟨by rfl, ?_⟩) ?_
  rotate_left
  · intro u
    go_simp
    try with_reducible rfl
  try simp only [Act.put, List.setIfInBounds_toArray, List.set_cons_zero, List.set_cons_succ, List.getElem_toArray, List.getElem_cons_zero, List.getElem_cons_succ]
  refine wpAny_ready (rs := [6]) (by kernel_rfl) (by simp) ?_
  refine AllReady.cons rfl (fun K hK => ?_) AllReady.nil
  refine zo_stepE _ (by rfl) (.tmp 22) (.tmp 25) 50 50 (by rfl) _ _ (by rfl) (by rfl) _ _ (HRUN.out _) ?_
  refine hK _ _ ?_
  clear hK K
  try simp only [Act.put]
  refine wpAny_ready (rs := [7]) (by kernel_rfl) (by simp) ?_
  refine AllReady.cons rfl (fun K hK => ?_) AllReady.nil
  go_simp
  refine hK _ _ ?_
  clear hK K
  refine wpAny_done (by kernel_rfl) ?_ _
  have hcl := HCL.out
  go_wp2_with fail
  go_ret
  exact HE.out
set_option maxHeartbeats 2000000 in
set_option maxRecDepth 100000 in
theorem zoleaveE_at {F : Nat → Prop} {w : World} {tb n m : Nat} {v1 v2 : Value} {fr : List Int} {es : List (Int × Nat)} (z : Int) (h : ZtM F w tb n v1 v2 fr es m) (hnd : (es.map (·.1)).Nodup) (hn : es.length ≤ 1000) : Calls Try.prog 26 #[.pointer (some ⟨tb, 3, none⟩), .int .i64 z] w (ZtTo F tb n (.bool (decide (z ∈ es.map (·.1)))) fr (es.filter (fun e => decide (e.1 ≠ z))) m w) := by
  have HA := Lib.hid (zoatE_at z h hn)
  have HM := Lib.hid h
  by_cases hz : z ∈ (es.map (·.1))
  · have HE : Hid (∀ (w1 w' : World) (v : Value) (p : Nat) (hp : p < es.length), es[p].1 = z → Below w.heap.size w w1 → Kept (fun j => v2.ownBlock = some j) w1 w' → OwnK w' 0 48 2 v (es.eraseIdx p).length (esC (es.eraseIdx p)) → (∀ j, v.ownBlock = some j → v2.ownBlock = some j) → ZtTo F tb n (.bool (decide (z ∈ es.map (·.1)))) fr (es.filter (fun e => decide (e.1 ≠ z))) m w (.returned (.bool true)) (w'.setCell ⟨tb, 3, none⟩ v)) := Lib.hid (fun w1 w' v p hp e hb hk ho hj => by
      rw [erase_filter (fun (e : Int × Nat) => e.1) hp hnd e] at ho
      rw [decide_eq_true hz]
      have h1 := HM.out.up hb
      obtain ⟨q1, q2⟩ := h1.put2 hk ho (fun j e => .inl (hj j e))
      have hsz := hb.size
      have hK : Kept F w (w'.setCell ⟨tb, 3, none⟩ v) := (Kept.of_below hb).and q2
      refine ⟨rfl, ⟨v1, v, ?_⟩, hK⟩
      refine ⟨.inl h1.fb, fun k hk => hk.elim (fun h2 => Nat.lt_of_lt_of_le (HM.out.lt k h2) hK.size) (fun h2 => h2.2), q1.b, q1.r1, q1.r2, fun j e => ?_, fun j e => ?_, q1.ap⟩
      · obtain ⟨a, b⟩ := q1.o1 j e
        exact ⟨a.elim .inl (fun h2 => .inr ⟨by omega, h2.2⟩), b⟩
      · obtain ⟨a, b⟩ := q1.o2 j e
        exact ⟨a.elim .inl (fun h2 => .inr ⟨by omega, h2.2⟩), b⟩)
    have hpos : 0 < es.length := by
      rcases es with _ | ⟨a, r⟩
      · simp at hz
      · simp
    obtain ⟨g, c, hv, _, _⟩ := h.r2.form2 hpos
    subst hv
    have HC : Hid (∀ u, Below w.heap.size w u → u.cell? ⟨tb, 3, none⟩ = some (.slice (some ⟨g, 0, none⟩) es.length c)) := Lib.hid (fun u hu => (h.up hu).cells.2.2.2.1)
    have HFZ : Hid (∀ u u', Below w.heap.size w u → Kept (fun k => k = g) u u' → u'.cell? ⟨tb, 3, none⟩ = some (.slice (some ⟨g, 0, none⟩) es.length c) ∧ u'.frozen? ⟨tb, 3, none⟩ = false) := Lib.hid (fun u u' hu hk => by
      have h1 := h.up hu
      have hb := hk.blk h1.b (fun e => (h1.o2 g rfl).2 e.symm)
      exact ⟨hb.cell 3 (by simp), hb.free 3⟩)
    have HDL : Hid (∀ (u : World) (p : Nat), Below w.heap.size w u → p < es.length → Calls Try.prog 32 #[.slice (some ⟨g, 0, none⟩) es.length c, .int .i64 (p : Int), .int .i64 ((p + 1 : Nat) : Int)] u (ZoDelE g c (es.length - 1) (es.eraseIdx p) u)) := Lib.hid (fun u p hu hp => zodelE_at es (h.r2.up hu) rfl hp rfl (by omega))
    have HLN : Hid (∀ p, p < es.length → (es.eraseIdx p).length = es.length - 1) := Lib.hid (fun p hp => List.length_eraseIdx_of_lt hp)
    obtain ⟨k, hk⟩ : ∃ k, es.length = k := ⟨_, rfl⟩
    have HK := Lib.hid hk
    rw [hk] at HC HDL HFZ HLN hn
    have HZ := Lib.hid hz
    clear h hz hnd hpos hk
    go_enter Try.func26, Try.ntmps26
    go_wp2_with fail
    refine HA.out.mono ?_
    rintro r w1 ⟨⟨i, rfl, hi⟩, hb⟩
    rcases hi with ⟨p, rfl, hp, hpe⟩ | ⟨_, hno⟩
    · have hp2 : p < es.length := by simpa using hp
      have HE2 := Lib.hid (fun w' v hkp ho hj => HE.out w1 w' v p hp2 (by simpa using hpe) hb hkp ho hj)
      have hpk : p < k := by rw [← HK.out]; exact hp2
      have y1 := HC.out w1 hb
      have HD := Lib.hid (HDL.out w1 p hb hpk)
      have HF := Lib.hid (fun u' hk => HFZ.out w1 u' hb hk)
      have HL := Lib.hid (HLN.out p hpk)
      have hcast : ((p + 1 : Nat) : Int) = (p : Int) + 1 := by omega
      rw [hcast] at HD
      have hw : IntKind.i64.wrap ((p : Int) + 1) = (p : Int) + 1 := IntWalk.i64_in _ (by omega)
      clear hp hpe hp2 hb HE HC HDL HFZ HA hcast
      go_wp2_with fail
      refine HD.out.mono ?_
      rintro r w2 ⟨rfl, ho, hkp⟩
      obtain ⟨y2, f2⟩ := HF.out w2 hkp
      have HE3 := Lib.hid (HE2.out w2 (.slice (some ⟨g, 0, none⟩) (k - 1) c) (hkp.mono (fun j _ e => by subst e; rfl)) (by rw [HL.out]; exact ho) (fun j e => e))
      clear ho hkp HE2 HF HD HL y1
      go_wp2_with fail
      go_ret
      exact HE3.out
    · exact absurd HZ.out hno
  · have HE : Hid (∀ w1, Below w.heap.size w w1 → ZtTo F tb n (.bool (decide (z ∈ es.map (·.1)))) fr (es.filter (fun e => decide (e.1 ≠ z))) m w (.returned (.bool false)) w1) := Lib.hid (fun w1 hb => by
      rw [decide_eq_false hz, filter_out (fun (e : Int × Nat) => e.1) (by simpa using hz)]
      exact ⟨rfl, ⟨v1, v2, HM.out.grown hb⟩, Kept.of_below hb⟩)
    have HZ := Lib.hid hz
    clear h hz hnd
    go_enter Try.func26, Try.ntmps26
    go_wp2_with fail
    refine HA.out.mono ?_
    rintro r w1 ⟨⟨i, rfl, hi⟩, hb⟩
    rcases hi with ⟨p, rfl, hp, hpe⟩ | ⟨rfl, _⟩
    · exact absurd (by rw [← hpe]; exact List.getElem_mem hp) HZ.out
    · have HE2 := Lib.hid (HE.out w1 hb)
      clear hb HE HA
      go_wp2_with fail
      go_ret
      exact HE2.out
set_option maxHeartbeats 4000000 in
set_option maxRecDepth 100000 in
theorem zojoinE_at {F : Nat → Prop} {w : World} {tb n m : Nat} {v1 v2 : Value} {fr : List Int} {es : List (Int × Nat)} (x : Int) (y : Nat) (h : ZtM F w tb n v1 v2 fr es m) (hn : es.length ≤ 1000) : Calls Try.prog 25 #[.pointer (some ⟨tb, 3, none⟩), .agg #[.int .i64 x, .int .u32 (y : Int)]] w (ZtTo F tb n (.tuple #[]) fr (es ++ [(x, y)]) m w) := by
  have HM := Lib.hid h
  obtain ⟨wb, hwb⟩ : ∃ u, w.alloc (.cells #[.int .i64 x, .int .u32 (y : Int)] 48) = u := ⟨_, rfl⟩
  have hbb : Below w.heap.size w wb := by rw [← hwb]; exact (Below.refl _ _).alloc (Nat.le_refl _) _
  have hxb : Blk wb w.heap.size 48 [.int .i64 x, .int .u32 (y : Int)] := by rw [← hwb]; exact heap_alloc_new w _
  have hbd : Below wb.heap.size wb wb.drew := (Below.refl _ _).drew
  obtain ⟨w1, hw1⟩ : ∃ u, wb.drew.alloc (.cells #[.int .i64 x, .int .u32 (y : Int)] 48) = u := ⟨_, rfl⟩
  have hb1' : Below wb.drew.heap.size wb.drew w1 := by rw [← hw1]; exact (Below.refl _ _).alloc (Nat.le_refl _) _
  have hb1 : Below w.heap.size w w1 := below_all (below_all hbb hbd) hb1'
  have HR : Hid (RdV w1 w1.heap.size (some ⟨wb.heap.size, 0, none⟩) [.int .i64 x, .int .u32 (y : Int)]) := Lib.hid (by
    rw [← hw1]
    exact fun _ => ⟨wb.heap.size, 0, rfl, by simp, fun i hi => by rw [Nat.zero_add]; exact Blk.cell (T := 48) (cs := [.int .i64 x, .int .u32 (y : Int)]) (heap_alloc_new wb.drew _) i hi⟩)
  have h1 := h.up hb1
  obtain ⟨A, c, hv, _, _, _⟩ := h.r2.form
  have HO := Lib.hid h1.r2
  have HYB : Hid (∀ u, Below wb.heap.size wb u → u.cell? ⟨tb, 3, none⟩ = some v2 ∧ u.cell? ⟨w.heap.size, 0, none⟩ = some (.int .i64 x) ∧ u.cell? ⟨w.heap.size, 1, none⟩ = some (.int .u32 (y : Int))) := Lib.hid (fun u hu => by
    have hx := hxb.up hu (lt_of_block hxb)
    exact ⟨(h.up (below_all hbb hu)).cells.2.2.2.1, hx.cell 0 (by simp), hx.cell 1 (by simp)⟩)
  have HE : Hid (∀ w' g cap, OwnK w' 0 48 2 (.slice (some ⟨g, 0, none⟩) (es.length + 1) cap) (es.length + 1) (esC (es ++ [(x, y)])) → w1.grownBy w' v2.ownBlock → (v2.ownBlock = some g ∨ g = w1.heap.size) → (w'.cell? ⟨tb, 3, none⟩ = some v2 ∧ w'.frozen? ⟨tb, 3, none⟩ = false) ∧ ZtTo F tb n (.tuple #[]) fr (es ++ [(x, y)]) m w (.returned (.tuple #[])) (w'.setCell ⟨tb, 3, none⟩ (.slice (some ⟨g, 0, none⟩) (es.length + 1) cap))) := Lib.hid (fun w' g cap ho hg hl => by
    have hk : Kept (fun j => v2.ownBlock = some j) w1 w' := (Kept.refl _ _).grown hg (fun k e => .inl e)
    have hbt := hk.blk h1.b (fun e => (h1.o2 tb e).2 rfl)
    have ho2 : OwnK w' 0 48 2 (.slice (some ⟨g, 0, none⟩) (es.length + 1) cap) (es ++ [(x, y)]).length (esC (es ++ [(x, y)])) := by rw [List.length_append]; exact ho
    obtain ⟨q1, q2⟩ := h1.put2 hk ho2 (fun j e => by simp [Value.ownBlock] at e; subst e; exact hl.imp id (fun e => by omega))
    have hK : Kept F w (w'.setCell ⟨tb, 3, none⟩ (.slice (some ⟨g, 0, none⟩) (es.length + 1) cap)) := (Kept.of_below hb1).and q2
    have hsz := hb1.size
    refine ⟨⟨hbt.cell 3 (by simp), hbt.free 3⟩, rfl, ⟨v1, .slice (some ⟨g, 0, none⟩) (es.length + 1) cap, ?_⟩, hK⟩
    refine ⟨.inl h1.fb, fun k hk => hk.elim (fun h2 => Nat.lt_of_lt_of_le (HM.out.lt k h2) hK.size) (fun h2 => h2.2), q1.b, q1.r1, q1.r2, fun j e => ?_, fun j e => ?_, q1.ap⟩
    · obtain ⟨a, b⟩ := q1.o1 j e
      exact ⟨a.elim .inl (fun h2 => .inr ⟨by omega, h2.2⟩), b⟩
    · obtain ⟨a, b⟩ := q1.o2 j e
      exact ⟨a.elim .inl (fun h2 => .inr ⟨by omega, h2.2⟩), b⟩)
  subst hv
  obtain ⟨k, hk⟩ : ∃ k, es.length = k := ⟨_, rfl⟩
  rw [hk] at HO HE HYB hn
  obtain ⟨i0, hi, hz0, hz1, hz2⟩ := info_parts endInfo
  have HI := Lib.hid hi
  have HZ0 := Lib.hid hz0
  have HZ1 := Lib.hid hz1
  have HZ2 := Lib.hid hz2
  clear hi hz0 hz1 hz2
  obtain ⟨y1, y2, y3⟩ := HYB.out wb (Below.refl _ _)
  have y4 := (HYB.out w1 (below_all hbd hb1')).1
  clear h h1 hb1 hb1' hbb hbd hxb HM hk
  go_enter Try.func25, Try.ntmps25
  go_wp2_with fail
  clear hwb
  go_region_law ((refine step_append_lies _ (by rfl) _ _ _ (by rfl) 0 48 i0 _ 2 16 Try.underlying50 HI.out HZ0.out HZ1.out HZ2.out rfl (by omega) (.slice A k c) k (esC es) (by rfl) HO.out ⟨wb.heap.size, 0, none⟩ 1 1 [.int .i64 x, .int .u32 (y : Int)] (by rfl) rfl (srcK HR.out rfl) (fun u hu => by simp only [List.mem_cons, List.not_mem_nil, or_false] at hu; rcases hu with rfl | rfl <;> rfl) (by omega) (by unfold maxLen; omega) (by omega) (Nat.zero_le _) w1.heap.size rfl ?_; intro g8 c8 w8 ho hg hgg _; obtain ⟨⟨y8, f8⟩, hE⟩ := HE.out w8 g8 c8 (by rw [esC_app]; exact ho) hg hgg; have HE2 := Lib.hid hE; clear ho hg hgg hE))
  all_goals (go_end0; exact HE2.out)
theorem zsumE {l : List (Int × Nat)} {i : Nat} (h : i < l.length) : iCells ((l.take (i + 1)).map (·.1)) = iCells ((l.take i).map (·.1)) ++ [.int .i64 l[i].1] := by
  rw [List.take_succ_eq_append_getElem h]
  simp only [iCells, List.map_append, List.map_cons, List.map_nil]
set_option maxHeartbeats 4000000 in
set_option maxRecDepth 100000 in
theorem zozonesE_at {F : Nat → Prop} {w : World} {tb n m : Nat} {v1 v2 : Value} {fr : List Int} {es : List (Int × Nat)} (h : ZtM F w tb n v1 v2 fr es m) (hn : es.length ≤ 1000) : Calls Try.prog 20 #[.pointer (some ⟨tb, 3, none⟩)] w (NumsO (es.map (·.1)) w) := by
  obtain ⟨A, c, hv, _, _, _⟩ := h.r2.form
  have HM := Lib.hid h
  have hrr := h.r2
  subst hv
  have HR := Lib.hid hrr.rd
  have HC : Hid (∀ u, Below w.heap.size w u → u.cell? ⟨tb, 4, none⟩ = some (.func (.func 17) #[] #[])) := Lib.hid (fun u hu => (HM.out.up hu).cells.2.2.2.2.1)
  have y1 : w.cell? ⟨tb, 3, none⟩ = some (.slice A es.length c) := h.cells.2.2.2.1
  obtain ⟨k, hk⟩ : ∃ k, es.length = k := ⟨_, rfl⟩
  have HN := Lib.hid hk
  rw [hk] at y1 hn
  have HO0 : Hid (OwnK w w.heap.size 3 1 (.slice none 0 0) 0 []) := Lib.hid (OwnK.nil _ _ _ _)
  clear h hrr hk HM
  go_enter Try.func20, Try.ntmps20
  go_wp2_with fail
  clear y1
  go_loopg [3, 11] k (fun q x y wr => ∃ i : Nat, i ≤ k ∧ q = k - i ∧ y = .int .i64 (i : Int) ∧ OwnK wr w.heap.size 3 1 x i (iCells ((es.take i).map (·.1))) ∧ Below w.heap.size w wr)
  case atStart => exact ⟨0, by omega, rfl, rfl, by simpa [iCells] using HO0.out, Below.refl _ _⟩
  case round =>
    clear HO0
    obtain ⟨i, hi, hq, rfl, ho, hb⟩ := hrel
    have HQ := Lib.hid hq
    have HO := Lib.hid ho
    have HB := Lib.hid hb
    clear hq ho hb
    by_cases hlt : i < k
    · have hll : i < es.length := by rw [HN.out]; exact hlt
      obtain ⟨b, o, rfl, _, hcell⟩ := (HR.out.below HB.out) (by rw [esC_len, HN.out]; omega)
      obtain ⟨c0, c1⟩ := e_cells hcell i hll
      have HT := Lib.hid (zsumE hll)
      have yf := HC.out wr HB.out
      obtain ⟨x, hx⟩ : ∃ x, es[i].1 = x := ⟨_, rfl⟩
      rw [hx] at c0 HT
      obtain ⟨y, hy⟩ : ∃ y, es[i].2 = y := ⟨_, rfl⟩
      rw [hy] at c1
      obtain ⟨cs, hcs⟩ : ∃ cs, iCells ((es.take i).map (·.1)) = cs := ⟨_, rfl⟩
      rw [hcs] at HT HO
      obtain ⟨w6, hw6⟩ : ∃ w6, wr.alloc (.cells #[.int .i64 x, .int .u32 (y : Int)] 48) = w6 := ⟨_, rfl⟩
      have hb6 : Below wr.heap.size wr w6 := by rw [← hw6]; exact (Below.refl _ _).alloc (Nat.le_refl _) _
      have hx6 : Blk w6 wr.heap.size 48 [.int .i64 x, .int .u32 (y : Int)] := by rw [← hw6]; exact heap_alloc_new wr _
      have HOB : Hid (∀ j, u3.ownBlock = some j → j ≠ wr.heap.size) := Lib.hid (fun j e => by have := HO.out.zlt j e; omega)
      have HX6 := Lib.hid hx6
      have HB6 := Lib.hid (below_all HB.out hb6)
      have HO6 := Lib.hid (HO.out.up hb6)
      have HF := Lib.hid (fun (u : World) => zofE_at x y (w := u))
      obtain ⟨a, ha⟩ : ∃ a, wr.heap.size = a := ⟨_, rfl⟩
      rw [ha] at HX6 HOB
      clear hcell hx hy hcs hb6 hx6 HO HB
      go_wp2_with fail
      clear hw6 c0 c1 yf
      refine wp_region_held_drew (S := fun u => Below w.heap.size w u ∧ Blk u a 48 [.int .i64 x, .int .u32 (y : Int)]) (by kernel_rfl) (⟨HB6.out.drew, HX6.out⟩) (fun hHeld => ?_)
      show wpAnyH _ _ _ _ _ 10 _ _ _
      refine wpAnyH_take (i := 0) (v := ?_) rfl (by kernel_rfl) (by kernel_rfl) (by kernel_rfl) (fun _ _ _ h => h) (Or.inl ⟨by rfl, ?_⟩) hHeld ?_
      rotate_left
      · intro u hSu
        obtain ⟨hS1, hS2⟩ := hSu
        go_simp
        try with_reducible rfl
      try simp only [Act.put, List.setIfInBounds_toArray, List.set_cons_zero, List.set_cons_succ, List.getElem_toArray, List.getElem_cons_zero, List.getElem_cons_succ]
      refine wpAnyH_take (i := 1) (v := ?_) rfl (by kernel_rfl) (by kernel_rfl) (by kernel_rfl) (fun _ _ _ h => h) (Or.inl ⟨by rfl, ?_⟩) hHeld ?_
      rotate_left
      · intro u hSu
        obtain ⟨hS1, hS2⟩ := hSu
        go_simp
        try with_reducible rfl
      try simp only [Act.put, List.setIfInBounds_toArray, List.set_cons_zero, List.set_cons_succ, List.getElem_toArray, List.getElem_cons_zero, List.getElem_cons_succ]
      refine wpAnyH_take (i := 2) (v := ?_) rfl (by kernel_rfl) (by kernel_rfl) (by kernel_rfl) (fun _ _ _ h => h) (Or.inl ⟨by rfl, ?_⟩) hHeld ?_
      rotate_left
      · intro u hSu
        obtain ⟨hS1, hS2⟩ := hSu
        go_simp
        try with_reducible rfl
      try simp only [Act.put, List.setIfInBounds_toArray, List.set_cons_zero, List.set_cons_succ, List.getElem_toArray, List.getElem_cons_zero, List.getElem_cons_succ]
      refine wpAnyH_take (i := 3) (v := ?_) rfl (by kernel_rfl) (by kernel_rfl) (by kernel_rfl) (fun _ _ _ h => h) (Or.inl ⟨by rfl, ?_⟩) hHeld ?_
      rotate_left
      · intro u hSu
        obtain ⟨hS1, hS2⟩ := hSu
        go_simp
        try with_reducible rfl
      try simp only [Act.put, List.setIfInBounds_toArray, List.set_cons_zero, List.set_cons_succ, List.getElem_toArray, List.getElem_cons_zero, List.getElem_cons_succ]
      refine wpAnyH_take (i := 4) (v := ?_) rfl (by kernel_rfl) (by kernel_rfl) (by kernel_rfl) (fun _ _ _ h => h) (Or.inl ⟨by rfl, ?_⟩) hHeld ?_
      rotate_left
      · intro u hSu
        obtain ⟨hS1, hS2⟩ := hSu
        have yf := HC.out u hS1
        go_simp
        try with_reducible rfl
      try simp only [Act.put, List.setIfInBounds_toArray, List.set_cons_zero, List.set_cons_succ, List.getElem_toArray, List.getElem_cons_zero, List.getElem_cons_succ]
      refine wpAnyH_take (i := 5) (v := ?_) rfl (by kernel_rfl) (by kernel_rfl) (by kernel_rfl) (fun _ _ _ h => h) (Or.inl ⟨by rfl, ?_⟩) hHeld ?_
      rotate_left
      · intro u hSu
        obtain ⟨hS1, hS2⟩ := hSu
        have y1 := hS2.cell 0 (by simp)
        have y2 := hS2.cell 1 (by simp)
        simp only [List.getElem_cons_zero, List.getElem_cons_succ] at y1 y2
        go_simp
        try with_reducible rfl
      try simp only [Act.put, List.setIfInBounds_toArray, List.set_cons_zero, List.set_cons_succ, List.getElem_toArray, List.getElem_cons_zero, List.getElem_cons_succ]
      refine wpAnyH_ready (rs := [6]) (by kernel_rfl) (by simp) ?_
      refine (AllReadyH.cons rfl (fun K hK => ?_) AllReadyH.nil)
      go_simp
      refine (HF.out _).mono ?_
      rintro r w7 ⟨rfl, hb7⟩
      have HB7 := Lib.hid (below_all HB6.out (below_all (Below.refl w6.heap.size w6).drew hb7))
      have HX7 := Lib.hid (HX6.out.up (below_all (Below.refl w6.heap.size w6).drew hb7) (lt_of_block HX6.out))
      have HO7 := Lib.hid (HO6.out.up (below_all (Below.refl w6.heap.size w6).drew hb7))
      clear hb7
      refine hK.out _ _ ?_ (fun hHeld2 => ?_)
      · exact ⟨HB7.out, HX7.out⟩
      clear hK K hHeld
      have hHeld := hHeld2
      clear hHeld2
      try simp only [Act.put, List.setIfInBounds_toArray, List.set_cons_zero, List.set_cons_succ, List.getElem_toArray, List.getElem_cons_zero, List.getElem_cons_succ]
      obtain ⟨w8, hw8⟩ : ∃ u, w7.alloc (.cells #[.int .i64 x] 3) = u := ⟨_, rfl⟩
      have hb8 : Below w7.heap.size w7 w8 := by rw [← hw8]; exact (Below.refl _ _).alloc (Nat.le_refl _) _
      have HB8 := Lib.hid (below_all HB7.out hb8)
      have HO8 := Lib.hid (HO7.out.up hb8)
      have HX8 := Lib.hid (HX7.out.up hb8 (lt_of_block HX7.out))
      have HR8 : Hid (RdV w8 w8.heap.size (some ⟨w7.heap.size, 0, none⟩) [.int .i64 x]) := Lib.hid (by rw [← hw8]; exact row_rd w7 [.int .i64 x])
      clear hb8
      refine wpAnyH_ready (rs := [7]) (by kernel_rfl) (by simp) ?_
      refine (AllReadyH.cons rfl (fun K hK => ?_) AllReadyH.nil)
      go_simp
      try rw [hw8]
      refine hK.out _ _ ?_ (fun hHeld2 => ?_)
      · exact ⟨HB8.out, HX8.out⟩
      clear hK K hHeld
      have hHeld := hHeld2
      clear hHeld2
      try simp only [Act.put, List.setIfInBounds_toArray, List.set_cons_zero, List.set_cons_succ, List.getElem_toArray, List.getElem_cons_zero, List.getElem_cons_succ]
      refine wpAnyH_ready (rs := [8]) (by kernel_rfl) (by simp) ?_
      refine (AllReadyH.cons rfl (fun K hK => ?_) AllReadyH.nil)
      refine stepP w8 (by rfl) (.tmp 15) (.tmp 22) 29 3 (.int .i64 0) 1 8 (by rfl) Try.underlying29 intInfo rfl (by decide) (by decide) w.heap.size i 1 1 u3 cs [.int .i64 x] (some ⟨w7.heap.size, 0, none⟩) (by rfl) HO8.out (by rfl) rfl HR8.out (fun e => by cases e) (fun u hu => by simp only [List.mem_cons, List.not_mem_nil, or_false] at hu; rcases hu with rfl; rfl) (by omega) HB8.out.size ?_
      intro v9 w9 ho hg
      have HO9 : Hid (OwnK w9 w.heap.size 3 1 v9 (i + 1) (iCells ((es.take (i + 1)).map (·.1)))) := Lib.hid (by rw [HT.out]; exact ho)
      have HB9 := Lib.hid (below_grown HB8.out hg (fun e he => HO8.out.own e he))
      have HX9 := Lib.hid (HX8.out.kept hg (fun e => HOB.out _ e.symm rfl))
      clear ho hg
      refine hK.out _ _ ?_ (fun hHeld2 => ?_)
      · exact ⟨HB9.out, HX9.out⟩
      clear hK K hHeld
      have hHeld := hHeld2
      clear hHeld2
      try simp only [Act.put, List.setIfInBounds_toArray, List.set_cons_zero, List.set_cons_succ, List.getElem_toArray, List.getElem_cons_zero, List.getElem_cons_succ]
      refine wpAnyH_take (i := 9) (v := ?_) rfl (by kernel_rfl) (by kernel_rfl) (by kernel_rfl) (fun _ _ _ h => h) (Or.inl ⟨by rfl, ?_⟩) hHeld ?_
      rotate_left
      · intro u hSu
        obtain ⟨hS1, hS2⟩ := hSu
        go_simp
        try with_reducible rfl
      try simp only [Act.put, List.setIfInBounds_toArray, List.set_cons_zero, List.set_cons_succ, List.getElem_toArray, List.getElem_cons_zero, List.getElem_cons_succ]
      refine wpAnyH_done (by kernel_rfl) ?_ _
      go_wp2_with fail
      go_roundg (k - (i + 1))
      case rel => exact ⟨i + 1, by omega, rfl, by go_num, HO9.out, HB9.out⟩
      case measure => have := HQ.out; omega
    · obtain rfl : i = k := by omega
      have hto : es.take i = es := List.take_of_length_le (by rw [HN.out]; exact Nat.le_refl _)
      rw [hto] at HO
      have HE : Hid (NumsO (es.map (·.1)) w (.returned u3) wr) := Lib.hid ⟨_, rfl, by rw [show (es.map (·.1)).length = i by rw [List.length_map]; exact HN.out]; exact HO.out, HB.out⟩
      clear HO hto
      go_wp2_with fail
      go_ret
      exact HE.out
end Go.Proofs.Yteoohafadijkmaa
