/-
  Rows of zones: the closure, IndexFunc, at, Delete, leave, join. Written by gen/zo.py.
-/
import Derived.Test.YteoohafadijkmaaZoA
import Derived.Test.YteoohafadijkmaaQuietIn
import Derived.Test.YteoohafadijkmaaHand
import Derived.Lib.AppendZeros
namespace Go.Proofs.Yteoohafadijkmaa
open Go.RowKit

theorem zofI_at (x : Int) {w : World} : Calls Try.prog 16 #[.int .i64 x] w (IntIs x w) := by
  go_enter Try.func16, Try.ntmps16
  go_wp2_with fail
  go_ret
  exact ⟨rfl, rfl⟩
set_option maxHeartbeats 2000000 in
theorem zocI_at {x : Int} {z : Int} {g1 g2 tb : Nat} {w : World} (k1 : w.cell? ⟨g1, 0, none⟩ = some (.pointer (some ⟨tb, 1, none⟩))) (k2 : w.cell? ⟨g2, 0, none⟩ = some (.int .i64 z)) (k3 : w.cell? ⟨tb, 2, none⟩ = some (.func (.func 16) #[] #[])) : Calls Try.prog 30 #[.int .i64 x, .pointer (some ⟨g1, 0, none⟩), .pointer (some ⟨g2, 0, none⟩)] w (BoolB (x == z) w) := by
  have HC : Hid (∀ u, Below w.heap.size w u → u.cell? ⟨g1, 0, none⟩ = some (.pointer (some ⟨tb, 1, none⟩)) ∧ u.cell? ⟨g2, 0, none⟩ = some (.int .i64 z) ∧ u.cell? ⟨tb, 2, none⟩ = some (.func (.func 16) #[] #[])) := Lib.hid (fun u hu =>
    ⟨(hu.cell (p := ⟨g1, 0, none⟩) (World.block_lt_of_cell? w _ k1)).trans k1, (hu.cell (p := ⟨g2, 0, none⟩) (World.block_lt_of_cell? w _ k2)).trans k2, (hu.cell (p := ⟨tb, 2, none⟩) (World.block_lt_of_cell? w _ k3)).trans k3⟩)
  clear k1 k2 k3
  have HUP : Hid (∀ {a b : World}, Below w.heap.size w a → Below a.heap.size a b → Below w.heap.size w b) := Lib.hid (fun h k => below_all h k)
  go_enter Try.func30, Try.ntmps30
  go_wp2_with fail
  refine wp_region_in (fun u => Below w.heap.size w u) (Below.refl _ _).drew (by kernel_rfl) (by kernel_rfl) (fun ne => ?_)
  have y1 := fun m : In (fun u => Below w.heap.size w u) => (HC.out m.w (m.ok)).1
  have y2 := fun m : In (fun u => Below w.heap.size w u) => (HC.out m.w (m.ok)).2.1
  have y3 := fun m : In (fun u => Below w.heap.size w u) => (HC.out m.w (m.ok)).2.2
  have HCL : Hid (∀ m : In (fun u => Below w.heap.size w u), Calls Try.prog 16 #[.int .i64 x] m.w (fun e w' => e = .returned (.int .i64 x) ∧ m.w = w')) := Lib.hid (fun m => zofI_at x)
  repeat (go_big_quiet_step (first | (go_at_call 16; (with_reducible exact In.same (HCL.out _)))))
  refine wpQuiet_nil ?_
  intro nq
  have HB9 : Hid (Below w.heap.size w nq.w) := Lib.hid (nq.ok)
  clear y1 y2 y3
  go_wp2_with fail
  go_ret
  exact ⟨rfl, HB9.out⟩
theorem atlI_no {l : List Int} {z : Int} {i : Nat} (hi : i < l.length) (h : ∀ j, j < i → ∀ hj : j < l.length, l[j] ≠ z) (h2 : l[i] ≠ z) : ∀ j, j < i + 1 → ∀ hj : j < l.length, l[j] ≠ z := by
  intro j hj hjl
  rcases Nat.lt_or_ge j i with h3 | h3
  · exact h j h3 hjl
  · obtain rfl : j = i := by omega
    exact h2
theorem atlI_out {l : List Int} {z : Int} {n : Nat} (hl : l.length = n) (h : ∀ j, j < n → ∀ hj : j < l.length, l[j] ≠ z) : AtL (l) z (-1) := by
  refine .inr ⟨rfl, fun hm => ?_⟩
  obtain ⟨j, hj, e⟩ := List.getElem_of_mem hm
  exact h j (by rw [← hl]; exact hj) hj e
set_option maxHeartbeats 2000000 in
set_option maxRecDepth 100000 in
theorem zoidxI_at {w : World} {A : Option Addr} {n c g1 g2 tb : Nat} (z : Int) (l : List Int) (hl : l.length = n) (hr : RdV w w.heap.size A (iCells l)) (hn : n ≤ 1000) (k1 : w.cell? ⟨g1, 0, none⟩ = some (.pointer (some ⟨tb, 1, none⟩))) (k2 : w.cell? ⟨g2, 0, none⟩ = some (.int .i64 z)) (k3 : w.cell? ⟨tb, 2, none⟩ = some (.func (.func 16) #[] #[])) :
    Calls Try.prog 29 #[.slice A n c, .func (.func 30) #[] #[.pointer (some ⟨g1, 0, none⟩), .pointer (some ⟨g2, 0, none⟩)]] w (ZoAt (l) z w) := by
  have HR := Lib.hid hr
  have HN := Lib.hid hl
  have HK : Hid (∀ u, Below w.heap.size w u → u.cell? ⟨g1, 0, none⟩ = some (.pointer (some ⟨tb, 1, none⟩)) ∧ u.cell? ⟨g2, 0, none⟩ = some (.int .i64 z) ∧ u.cell? ⟨tb, 2, none⟩ = some (.func (.func 16) #[] #[])) := Lib.hid (fun u hu =>
    ⟨(hu.cell (p := ⟨g1, 0, none⟩) (World.block_lt_of_cell? w _ k1)).trans k1, (hu.cell (p := ⟨g2, 0, none⟩) (World.block_lt_of_cell? w _ k2)).trans k2, (hu.cell (p := ⟨tb, 2, none⟩) (World.block_lt_of_cell? w _ k3)).trans k3⟩)
  clear hr hl k1 k2 k3
  go_enter Try.func29, Try.ntmps29
  go_wp2_with fail
  go_loopg [8] n (fun q y wr => ∃ i : Nat, i ≤ n ∧ q = n - i ∧ y = .int .i64 (i : Int) ∧ (∀ j, j < i → ∀ hj : j < l.length, l[j] ≠ z) ∧ Below w.heap.size w wr)
  case atStart => exact ⟨0, by omega, rfl, rfl, fun j hj => by omega, Below.refl _ _⟩
  case round =>
    obtain ⟨i, hi, hq, rfl, hh, hb⟩ := hrel
    have HQ := Lib.hid hq
    have HH := Lib.hid hh
    have HB := Lib.hid hb
    clear hq hh hb
    by_cases hlt : i < n
    · have hll : i < l.length := by rw [HN.out]; exact hlt
      obtain ⟨b, o, rfl, _, hcell⟩ := (HR.out.below HB.out) (by rw [iCells_len, HN.out]; omega)
      have c0 := rdv_i (B := 0) hcell i hll
      have HST := Lib.hid (fun h => atlI_no hll HH.out (z := z) h)
      have HYE : Hid ((l[i]'hll) = z → AtL (l) z (i : Int)) := Lib.hid (fun h => .inl ⟨i, rfl, hll, h⟩)
      obtain ⟨k1, k2, k3⟩ := HK.out wr HB.out
      obtain ⟨x, hx⟩ : ∃ x, l[i] = x := ⟨_, rfl⟩
      rw [hx] at c0 HST HYE
      have HCC := Lib.hid (zocI_at (x := x) k1 k2 k3)
      clear hcell hx k1 k2 k3
      go_wp2_with fail
      refine HCC.out.mono ?_
      rintro r w' ⟨rfl, hb⟩
      have HB2 := Lib.hid (below_all HB.out hb)
      clear hb c0 HCC
      by_cases hxz : x = z
      · have ht : (x == z) = true := by simpa using hxz
        have HE : Hid (ZoAt (l) z w (.returned (.int .i64 (i : Int))) w') := Lib.hid ⟨⟨_, rfl, HYE.out hxz⟩, HB2.out⟩
        rw [ht]
        clear hxz ht
        go_wp2_with fail
        go_ret
        exact HE.out
      · have ht : (x == z) = false := by simpa using hxz
        have HNX := Lib.hid (HST.out hxz)
        rw [ht]
        clear hxz ht
        go_wp2_with fail
        go_roundg (n - (i + 1))
        case rel => exact ⟨i + 1, by omega, rfl, by go_num, HNX.out, HB2.out⟩
        case measure => have := HQ.out; omega
    · obtain rfl : i = n := by omega
      have HE : Hid (ZoAt (l) z w (.returned (.int .i64 (-1))) wr) := Lib.hid ⟨⟨_, rfl, atlI_out HN.out HH.out⟩, HB.out⟩
      go_wp2_with fail
      go_ret
      exact HE.out
set_option maxHeartbeats 2000000 in
set_option maxRecDepth 100000 in
theorem zoatI_at {F : Nat → Prop} {w : World} {tb n m : Nat} {v1 v2 : Value} {fr : List Int} {es : List (Int × Nat)} (z : Int) (h : ZtM F w tb n v1 v2 fr es m) (hn : fr.length ≤ 1000) : Calls Try.prog 22 #[.pointer (some ⟨tb, 1, none⟩), .int .i64 z] w (ZoAt (fr) z w) := by
  obtain ⟨A, c, hv, _, _, _⟩ := h.r1.form
  obtain ⟨w1, hw1⟩ : ∃ u, w.alloc (.cells #[.pointer (some ⟨tb, 1, none⟩)] 57) = u := ⟨_, rfl⟩
  obtain ⟨w2, hw2⟩ : ∃ u, w1.alloc (.cells #[.int .i64 z] 3) = u := ⟨_, rfl⟩
  have hb1 : Below w.heap.size w w1 := by rw [← hw1]; exact (Below.refl _ _).alloc (Nat.le_refl _) _
  have hb2 : Below w1.heap.size w1 w2 := by rw [← hw2]; exact (Below.refl _ _).alloc (Nat.le_refl _) _
  have hx1 : Blk w1 w.heap.size 57 [.pointer (some ⟨tb, 1, none⟩)] := by rw [← hw1]; exact heap_alloc_new w _
  have hx2 : Blk w2 w1.heap.size 3 [.int .i64 z] := by rw [← hw2]; exact heap_alloc_new w1 _
  have hB := below_all hb1 hb2
  have h2 := h.up hB
  have hx1' := hx1.up hb2 (lt_of_block hx1)
  obtain ⟨_, d1, d2, d3, d4, _⟩ := h2.cells
  have hrow := h2.r1
  subst hv
  have HI := Lib.hid (zoidxI_at (c := c) z fr rfl hrow.rd hn (hx1'.cell 0 (by simp)) (hx2.cell 0 (by simp)) d2)
  have y1 := hx1'.cell 0 (by simp)
  have HB := Lib.hid hB
  obtain ⟨k, hk⟩ : ∃ k, fr.length = k := ⟨_, rfl⟩
  rw [hk] at HI d1
  clear h h2 hb1 hb2 hB hx1 hx2 hx1' hrow hk hn d2 d3 d4
  go_enter Try.func22, Try.ntmps22
  go_wp2_with fail
  refine HI.out.mono ?_
  rintro r w3 ⟨⟨i, rfl, hi⟩, hb⟩
  have HE : Hid (ZoAt (fr) z w (.returned (.int .i64 i)) w3) := Lib.hid ⟨⟨i, rfl, hi⟩, below_all HB.out hb⟩
  clear hi hb y1 d1 hw1 hw2
  go_wp2_with fail
  go_ret
  exact HE.out
theorem zodzI (w : World) : (zeroValue 3).run Try.prog w = .ok (.int .i64 0) w := by kernel_rfl
theorem zoclearI (w : World) (ty : TypeId) (g o c : Nat) (hc : ∀ j, j < 1 → (w.cell? ⟨g, o + j, none⟩).isSome = true) (hf : ∀ j, w.frozen? ⟨g, j, none⟩ = false) : (Builtin.clear_ #[29] ty #[.slice (some ⟨g, o, none⟩) 1 c]).run Try.prog w = .ok (.tuple #[]) (w.setCells g o [.int .i64 0]) := by
  have hst := run_storeCells_cells (P := Try.prog) g o [.int .i64 0] 0 w (by intro j hj; exact hc j (by simpa using hj)) (by intro j _; exact hf _) (by decide)
  simp only [Nat.add_zero] at hst
  have hzc : (Builtin.zeroCells (.int .i64 0 : Value).cells 1).toList = [.int .i64 0] := by kernel_rfl
  simp [Builtin.clear_, run_underlying Try.underlying29, zodzI, hzc, hst]
theorem zo_stepI (w : World) {ops : Array Oper} {o : Oper} {a : Act} {K : Act → World → Prop} {Q : Exit → Act → World → Prop} {E : Prop} (hgd : o.guard = none) (s x : Operand) (t tn : TypeId)
    (ho : o.op = .call { callee := .builtin .append, args := #[s, x], argTypes := #[t, tn] }) (vs vx : Value) (hs : a.eval s = vs) (hx : a.eval x = vx)
    (v' : Value) (w' : World) (hr : (Builtin.append_ #[t, tn] o.type #[vs, vx]).run Try.prog w = .ok v' w') (h : K (a.put o.dst v') w') : if Region.wanted o (yielded ops a.tmps) = true then Oper.wp Try.prog o a w K Q else E := by
  have hw : Region.wanted o (yielded ops a.tmps) = true := by simp [Region.wanted, hgd]
  rw [if_pos hw]
  exact Lib.wp_append_run w s x t tn ho vs vx hs hx v' w' hr h
/-- One element less. -/
def ZoDelI (g c s : Nat) (l : List Int) (w : World) (r : Ending) (w' : World) : Prop := r = .returned (.slice (some ⟨g, 0, none⟩) s c) ∧ OwnK w' 0 3 1 (.slice (some ⟨g, 0, none⟩) s c) s (iCells l) ∧ Kept (fun k => k = g) w w'
set_option maxHeartbeats 2000000 in
set_option maxRecDepth 100000 in
theorem zodelI_at {w : World} {g n c p q s : Nat} (l : List Int) (h : OwnK w 0 3 1 (.slice (some ⟨g, 0, none⟩) n c) n (iCells l)) (hl : l.length = n) (hp : p < n) (hq : q = p + 1) (hs : s + 1 = n) : Calls Try.prog 31 #[.slice (some ⟨g, 0, none⟩) n c, .int .i64 (p : Int), .int .i64 (q : Int)] w (ZoDelI g c s (l.eraseIdx p) w) := by
  obtain ⟨i0, hi, hz0, hz1, hz2⟩ := info_parts intInfo
  have hfm : ∃ A' c', Value.slice (some ⟨g, 0, none⟩) n c = .slice A' n c' ∧ n ≤ c' ∧ c' ≤ maxLen := by
    obtain ⟨A', c', e, h1, h2, _⟩ := h.form
    exact ⟨A', c', e, h1, h2⟩
  have hnc : n ≤ c := by
    obtain ⟨A', c', e, h1, _⟩ := hfm
    injection e with _ _ e
    omega
  have hcm : c ≤ 9223372036854775807 := by
    obtain ⟨A', c', e, _, h2⟩ := hfm
    injection e with _ _ e
    unfold maxLen at h2
    omega
  have hd : OwnK w.drew 0 3 1 (.slice (some ⟨g, 0, none⟩) n c) n (iCells l) := h.up (Below.refl _ _).drew
  have hrd : ∀ j (hj : j < (iCells l).length), w.drew.cell? ⟨g, j, none⟩ = some (iCells l)[j] := fun j hj => by
    obtain ⟨b, o, e, _, hc⟩ := hd.rd (by omega)
    have e := Option.some.inj e
    injection e with e1 e2
    subst e1 e2
    have := hc j hj
    rwa [Nat.zero_add] at this
  have hlen : (iCells l).length = n * 1 := by rw [iCells_len, hl]; omega
  have hfr : ∀ j, w.drew.frozen? ⟨g, j, none⟩ = false := fun j => by
    rcases hd.2 with ⟨e, _⟩ | ⟨g', c', cur, hv, _, hg, _⟩
    · cases e
    · injection hv with e1
      have e1 := Option.some.inj e1
      injection e1 with e1
      subst e1
      exact frozen_of_row _ g j cur _ hg
  obtain ⟨news, hnews⟩ : ∃ x, iCells (l.drop q) = x := ⟨_, rfl⟩
  have hnl : news.length = (n - q) * 1 := by rw [← hnews, iCells_len, List.length_drop, hl]; omega
  have hng : ∀ t u, news[t]? = some u → w.drew.cell? ⟨g, q * 1 + t, none⟩ = some u := fun t u hu => by
    have ht : t < news.length := (List.getElem?_eq_some_iff.1 hu).1
    have e : iCells l = iCells (l.take q) ++ news := by rw [← hnews]; unfold iCells; rw [← List.map_append, List.take_append_drop]
    have ht2 : (iCells (l.take q)).length = q * 1 := by rw [iCells_len, List.length_take, hl]; omega
    have e2 : (iCells l)[q * 1 + t]? = some u := by rw [e, List.getElem?_append_right (by omega), ht2, Nat.add_sub_cancel_left]; exact hu
    obtain ⟨h3, h4⟩ := List.getElem?_eq_some_iff.1 e2
    rw [hrd _ h3, h4]
  obtain ⟨A, hA, hsrc⟩ : ∃ A : Addr, (if c = q then (some (⟨g, 0, none⟩ : Addr)) else some ⟨g, q, none⟩) = some A ∧ (∀ t u, news[t]? = some u → w.drew.cell? (A.add t) = some u) := by
    by_cases e : c = q
    · refine ⟨⟨g, 0, none⟩, by rw [if_pos e], fun t u hu => ?_⟩
      have ht : t < news.length := (List.getElem?_eq_some_iff.1 hu).1
      have : n - q = 0 := by omega
      rw [hnl, this] at ht
      omega
    · refine ⟨⟨g, q, none⟩, by rw [if_neg e], fun t u hu => ?_⟩
      have := hng t u hu
      rcases t with _ | t
      · simpa [Addr.add] using this
      · simpa [Addr.add] using this
  have hrun := fun ty => run_append_room_cells (P := Try.prog) w.drew 29 ty 3 i0 Try.underlying29 hi g 0 p c A (n - q) (c - q) news (by rw [hz1]; exact hnl) hsrc (fun u hu => iCells_one u (by rw [hnews]; exact hu)) (by omega)
    (fun j hj => by
      rw [hz1, Nat.zero_add, hrd _ (by rw [hnl] at hj; omega)]
      rfl)
    (fun j hj => hfr _)
  rw [hz1, Nat.zero_add] at hrun
  have hps : p + (n - q) = s := by omega
  rw [hps] at hrun
  obtain ⟨W1, hW1⟩ : ∃ u, w.drew.setCells g (p * 1) news = u := ⟨_, rfl⟩
  have hk1 : Kept (fun k => k = g) w W1 := by rw [← hW1]; exact cells_keep g _ _ w w.drew (Kept.refl _ _).drew
  have he := fun zs hz => own_erase iC (k := 1) (fun _ => rfl) (l := l) (by rw [← iC_all]; exact hd) hl hp hs zs hz
  have hnews2 : (l.drop (p + 1)).flatMap iC = news := by rw [← hq, ← hnews]; exact (iC_all _).symm
  rw [hnews2, hW1] at he
  have he := he [.int .i64 0] rfl
  rw [hW1] at hrun
  have hcl := fun ty => zoclearI W1 ty g (s) (c - s) (fun j hj => by
      rw [← hW1]
      rcases hd.2 with ⟨e, _⟩ | ⟨g', c', cur, hv, _, hg, hc, _, hsz, _⟩
      · cases e
      · injection hv with e1 e2 e3
        have e1 := Option.some.inj e1
        injection e1 with e1
        subst e1 e3
        have hb := cells_lay g 3 news (p * 1) w.drew cur.toList hg (by rw [hnl]; simp; omega)
        rw [hb.cell _ (by simp only [List.length_append, List.length_take, List.length_drop]; simp; omega)]
        rfl)
    (fun j => by
      rw [← hW1]
      rcases hd.2 with ⟨e, _⟩ | ⟨g', c', cur, hv, _, hg, hc, _, hsz, _⟩
      · cases e
      · injection hv with e1 e2 e3
        have e1 := Option.some.inj e1
        injection e1 with e1
        subst e1 e3
        exact (cells_lay g 3 news (p * 1) w.drew cur.toList hg (by rw [hnl]; simp; omega)).free j)
  have HCL := Lib.hid hcl
  have HRUN := Lib.hid hrun
  have HE : Hid (ZoDelI g c s (l.eraseIdx p) w (.returned (.slice (some ⟨g, 0, none⟩) s c)) (W1.setCells g (s) [.int .i64 0])) := Lib.hid ⟨rfl, by rw [iC_all]; simpa using he, cells_keep g _ _ w W1 hk1⟩
  have hpq : ((p : Int) == (q : Int)) = false := by simp; omega
  have hqn : q ≤ n := by omega
  have hqc : q ≤ c := by omega
  have hpc : p ≤ c := by omega
  have hple : p ≤ q := by omega
  have hns : n - s = 1 := by omega
  have hsn : s ≤ n := by omega
  have hsc : s ≤ c := by omega
  have hcs : ¬ c = s := by omega
  have hnp : ¬ n = p := by omega
  clear h hd hl hp hs hq hfm hlen hrd hfr hnews hnl hng hsrc hrun hk1 he hnews2 hcl hW1 hps hi hz0 hz1 hz2
  go_enter Try.func31, Try.ntmps31
  go_wp2_with fail
  refine wp_region_any (by kernel_rfl) ?_
  try (change wpAny _ _ _ _ _ _ _ (World.drew _))
  refine wpAny_take (i := 0) (v := ?_) rfl (by kernel_rfl) (by kernel_rfl) (by kernel_rfl) (fun _ _ _ h => h) (Or.inl ⟨by rfl, ?_⟩) ?_
  rotate_left
  · intro u
    go_simp
    try with_reducible rfl
  try simp only [Act.put, List.setIfInBounds_toArray, List.set_cons_zero, List.set_cons_succ, List.getElem_toArray, List.getElem_cons_zero, List.getElem_cons_succ]
  refine wpAny_take (i := 1) (v := ?_) rfl (by kernel_rfl) (by kernel_rfl) (by kernel_rfl) (fun _ _ _ h => h) (Or.inl ⟨by rfl, ?_⟩) ?_
  rotate_left
  · intro u
    go_simp
    try with_reducible rfl
  try simp only [Act.put, List.setIfInBounds_toArray, List.set_cons_zero, List.set_cons_succ, List.getElem_toArray, List.getElem_cons_zero, List.getElem_cons_succ]
  refine wpAny_take (i := 2) (v := ?_) rfl (by kernel_rfl) (by kernel_rfl) (by kernel_rfl) (fun _ _ _ h => h) (Or.inl ⟨by rfl, ?_⟩) ?_
  rotate_left
  · intro u
    go_simp
    try with_reducible rfl
  try simp only [Act.put, List.setIfInBounds_toArray, List.set_cons_zero, List.set_cons_succ, List.getElem_toArray, List.getElem_cons_zero, List.getElem_cons_succ]
  refine wpAny_take (i := 3) (v := ?_) rfl (by kernel_rfl) (by kernel_rfl) (by kernel_rfl) (fun _ _ _ h => h) (Or.inl ⟨by rfl, ?_⟩) ?_
  rotate_left
  · intro u
    go_simp
    try with_reducible rfl
  try simp only [Act.put, List.setIfInBounds_toArray, List.set_cons_zero, List.set_cons_succ, List.getElem_toArray, List.getElem_cons_zero, List.getElem_cons_succ]
  refine wpAny_take (i := 4) (v := ?_) rfl (by kernel_rfl) (by kernel_rfl) (by kernel_rfl) (fun _ _ _ h => h) (Or.inl ⟨by rfl, ?_⟩) ?_
  rotate_left
  · intro u
    go_simp
    try with_reducible rfl
  try simp only [Act.put, List.setIfInBounds_toArray, List.set_cons_zero, List.set_cons_succ, List.getElem_toArray, List.getElem_cons_zero, List.getElem_cons_succ]
  refine wpAny_take (i := 5) (v := ?_) rfl (by kernel_rfl) (by kernel_rfl) (by kernel_rfl) (fun _ _ _ h => h) (Or.inl ⟨by rfl, ?_⟩) ?_
  rotate_left
  · intro u
    go_simp
    try with_reducible rfl
  try simp only [Act.put, List.setIfInBounds_toArray, List.set_cons_zero, List.set_cons_succ, List.getElem_toArray, List.getElem_cons_zero, List.getElem_cons_succ]
  refine wpAny_ready (rs := [6]) (by kernel_rfl) (by simp) ?_
  refine AllReady.cons rfl (fun K hK => ?_) AllReady.nil
  refine zo_stepI _ (by rfl) (.tmp 22) (.tmp 25) 29 29 (by rfl) _ _ (by rfl) (by rfl) _ _ (HRUN.out _) ?_
  refine hK _ _ ?_
  clear hK K
  try simp only [Act.put]
  refine wpAny_ready (rs := [7]) (by kernel_rfl) (by simp) ?_
  refine AllReady.cons rfl (fun K hK => ?_) AllReady.nil
  go_simp
  refine hK _ _ ?_
  clear hK K
  refine wpAny_done (by kernel_rfl) ?_ _
  have hcl := HCL.out
  go_wp2_with fail
  go_ret
  exact HE.out
set_option maxHeartbeats 2000000 in
set_option maxRecDepth 100000 in
theorem zoleaveI_at {F : Nat → Prop} {w : World} {tb n m : Nat} {v1 v2 : Value} {fr : List Int} {es : List (Int × Nat)} (z : Int) (h : ZtM F w tb n v1 v2 fr es m) (hnd : fr.Nodup) (hn : fr.length ≤ 1000) : Calls Try.prog 23 #[.pointer (some ⟨tb, 1, none⟩), .int .i64 z] w (ZtTo F tb n (.bool (decide (z ∈ fr))) (fr.filter (fun e => decide (e ≠ z))) es m w) := by
  have HA := Lib.hid (zoatI_at z h hn)
  have HM := Lib.hid h
  by_cases hz : z ∈ fr
  · have HE : Hid (∀ (w1 w' : World) (v : Value) (p : Nat) (hp : p < fr.length), fr[p] = z → Below w.heap.size w w1 → Kept (fun j => v1.ownBlock = some j) w1 w' → OwnK w' 0 3 1 v (fr.eraseIdx p).length (iCells (fr.eraseIdx p)) → (∀ j, v.ownBlock = some j → v1.ownBlock = some j) → ZtTo F tb n (.bool (decide (z ∈ fr))) (fr.filter (fun e => decide (e ≠ z))) es m w (.returned (.bool true)) (w'.setCell ⟨tb, 1, none⟩ v)) := Lib.hid (fun w1 w' v p hp e hb hk ho hj => by
      rw [erase_filter (fun (e : Int) => e) hp (by simpa using hnd) e] at ho
      rw [decide_eq_true hz]
      have h1 := HM.out.up hb
      obtain ⟨q1, q2⟩ := h1.put1 hk ho (fun j e => .inl (hj j e))
      have hsz := hb.size
      have hK : Kept F w (w'.setCell ⟨tb, 1, none⟩ v) := (Kept.of_below hb).and q2
      refine ⟨rfl, ⟨v, v2, ?_⟩, hK⟩
      refine ⟨.inl h1.fb, fun k hk => hk.elim (fun h2 => Nat.lt_of_lt_of_le (HM.out.lt k h2) hK.size) (fun h2 => h2.2), q1.b, q1.r1, q1.r2, fun j e => ?_, fun j e => ?_, q1.ap⟩
      · obtain ⟨a, b⟩ := q1.o1 j e
        exact ⟨a.elim .inl (fun h2 => .inr ⟨by omega, h2.2⟩), b⟩
      · obtain ⟨a, b⟩ := q1.o2 j e
        exact ⟨a.elim .inl (fun h2 => .inr ⟨by omega, h2.2⟩), b⟩)
    have hpos : 0 < fr.length := by
      rcases fr with _ | ⟨a, r⟩
      · simp at hz
      · simp
    obtain ⟨g, c, hv, _, _⟩ := h.r1.form2 hpos
    subst hv
    have HC : Hid (∀ u, Below w.heap.size w u → u.cell? ⟨tb, 1, none⟩ = some (.slice (some ⟨g, 0, none⟩) fr.length c)) := Lib.hid (fun u hu => (h.up hu).cells.2.1)
    have HFZ : Hid (∀ u u', Below w.heap.size w u → Kept (fun k => k = g) u u' → u'.cell? ⟨tb, 1, none⟩ = some (.slice (some ⟨g, 0, none⟩) fr.length c) ∧ u'.frozen? ⟨tb, 1, none⟩ = false) := Lib.hid (fun u u' hu hk => by
      have h1 := h.up hu
      have hb := hk.blk h1.b (fun e => (h1.o1 g rfl).2 e.symm)
      exact ⟨hb.cell 1 (by simp), hb.free 1⟩)
    have HDL : Hid (∀ (u : World) (p : Nat), Below w.heap.size w u → p < fr.length → Calls Try.prog 31 #[.slice (some ⟨g, 0, none⟩) fr.length c, .int .i64 (p : Int), .int .i64 ((p + 1 : Nat) : Int)] u (ZoDelI g c (fr.length - 1) (fr.eraseIdx p) u)) := Lib.hid (fun u p hu hp => zodelI_at fr (h.r1.up hu) rfl hp rfl (by omega))
    have HLN : Hid (∀ p, p < fr.length → (fr.eraseIdx p).length = fr.length - 1) := Lib.hid (fun p hp => List.length_eraseIdx_of_lt hp)
    obtain ⟨k, hk⟩ : ∃ k, fr.length = k := ⟨_, rfl⟩
    have HK := Lib.hid hk
    rw [hk] at HC HDL HFZ HLN hn
    have HZ := Lib.hid hz
    clear h hz hnd hpos hk
    go_enter Try.func23, Try.ntmps23
    go_wp2_with fail
    refine HA.out.mono ?_
    rintro r w1 ⟨⟨i, rfl, hi⟩, hb⟩
    rcases hi with ⟨p, rfl, hp, hpe⟩ | ⟨_, hno⟩
    · have hp2 : p < fr.length := by simpa using hp
      have HE2 := Lib.hid (fun w' v hkp ho hj => HE.out w1 w' v p hp2 hpe hb hkp ho hj)
      have hpk : p < k := by rw [← HK.out]; exact hp2
      have y1 := HC.out w1 hb
      have HD := Lib.hid (HDL.out w1 p hb hpk)
      have HF := Lib.hid (fun u' hk => HFZ.out w1 u' hb hk)
      have HL := Lib.hid (HLN.out p hpk)
      have hcast : ((p + 1 : Nat) : Int) = (p : Int) + 1 := by omega
      rw [hcast] at HD
      have hw : IntKind.i64.wrap ((p : Int) + 1) = (p : Int) + 1 := IntWalk.i64_in _ (by omega)
      clear hp hpe hp2 hb HE HC HDL HFZ HA hcast
      go_wp2_with fail
      refine HD.out.mono ?_
      rintro r w2 ⟨rfl, ho, hkp⟩
      obtain ⟨y2, f2⟩ := HF.out w2 hkp
      have HE3 := Lib.hid (HE2.out w2 (.slice (some ⟨g, 0, none⟩) (k - 1) c) (hkp.mono (fun j _ e => by subst e; rfl)) (by rw [HL.out]; exact ho) (fun j e => e))
      clear ho hkp HE2 HF HD HL y1
      go_wp2_with fail
      go_ret
      exact HE3.out
    · exact absurd HZ.out hno
  · have HE : Hid (∀ w1, Below w.heap.size w w1 → ZtTo F tb n (.bool (decide (z ∈ fr))) (fr.filter (fun e => decide (e ≠ z))) es m w (.returned (.bool false)) w1) := Lib.hid (fun w1 hb => by
      rw [decide_eq_false hz, filter_out (fun (e : Int) => e) (by simpa using hz)]
      exact ⟨rfl, ⟨v1, v2, HM.out.grown hb⟩, Kept.of_below hb⟩)
    have HZ := Lib.hid hz
    clear h hz hnd
    go_enter Try.func23, Try.ntmps23
    go_wp2_with fail
    refine HA.out.mono ?_
    rintro r w1 ⟨⟨i, rfl, hi⟩, hb⟩
    rcases hi with ⟨p, rfl, hp, hpe⟩ | ⟨rfl, _⟩
    · exact absurd (by rw [← hpe]; exact List.getElem_mem hp) HZ.out
    · have HE2 := Lib.hid (HE.out w1 hb)
      clear hb HE HA
      go_wp2_with fail
      go_ret
      exact HE2.out
set_option maxHeartbeats 4000000 in
set_option maxRecDepth 100000 in
theorem zojoinI_at {F : Nat → Prop} {w : World} {tb n m : Nat} {v1 v2 : Value} {fr : List Int} {es : List (Int × Nat)} (x : Int) (h : ZtM F w tb n v1 v2 fr es m) (hn : fr.length ≤ 1000) : Calls Try.prog 18 #[.pointer (some ⟨tb, 1, none⟩), .int .i64 x] w (ZtTo F tb n (.tuple #[]) (fr ++ [x]) es m w) := by
  have HM := Lib.hid h
  have hb1 : Below w.heap.size w (w.alloc (.cells #[.int .i64 x] 3)) := (Below.refl _ _).alloc (Nat.le_refl _) _
  have HR : Hid (RdV (w.alloc (.cells #[.int .i64 x] 3)) (w.alloc (.cells #[.int .i64 x] 3)).heap.size (some ⟨w.heap.size, 0, none⟩) [.int .i64 x]) := Lib.hid (row_rd w [.int .i64 x])
  obtain ⟨w1, hw1⟩ : ∃ u, w.alloc (.cells #[.int .i64 x] 3) = u := ⟨_, rfl⟩
  rw [hw1] at hb1 HR
  have h1 := h.up hb1
  obtain ⟨A, c, hv, _, _, _⟩ := h.r1.form
  have HO := Lib.hid h1.r1
  obtain ⟨_, y1, _⟩ := h.cells
  have HE : Hid (∀ w' g cap, OwnK w' 0 3 1 (.slice (some ⟨g, 0, none⟩) (fr.length + 1) cap) (fr.length + 1) (iCells (fr ++ [x])) → w1.grownBy w' v1.ownBlock → (v1.ownBlock = some g ∨ g = w1.heap.size) → (w'.cell? ⟨tb, 1, none⟩ = some v1 ∧ w'.frozen? ⟨tb, 1, none⟩ = false) ∧ ZtTo F tb n (.tuple #[]) (fr ++ [x]) es m w (.returned (.tuple #[])) (w'.setCell ⟨tb, 1, none⟩ (.slice (some ⟨g, 0, none⟩) (fr.length + 1) cap))) := Lib.hid (fun w' g cap ho hg hl => by
    have hk : Kept (fun j => v1.ownBlock = some j) w1 w' := (Kept.refl _ _).grown hg (fun k e => .inl e)
    have hbt := hk.blk h1.b (fun e => (h1.o1 tb e).2 rfl)
    have ho2 : OwnK w' 0 3 1 (.slice (some ⟨g, 0, none⟩) (fr.length + 1) cap) (fr ++ [x]).length (iCells (fr ++ [x])) := by rw [List.length_append]; exact ho
    obtain ⟨q1, q2⟩ := h1.put1 hk ho2 (fun j e => by simp [Value.ownBlock] at e; subst e; exact hl.imp id (fun e => by omega))
    have hK : Kept F w (w'.setCell ⟨tb, 1, none⟩ (.slice (some ⟨g, 0, none⟩) (fr.length + 1) cap)) := (Kept.of_below hb1).and q2
    have hsz := hb1.size
    refine ⟨⟨hbt.cell 1 (by simp), hbt.free 1⟩, rfl, ⟨.slice (some ⟨g, 0, none⟩) (fr.length + 1) cap, v2, ?_⟩, hK⟩
    refine ⟨.inl h1.fb, fun k hk => hk.elim (fun h2 => Nat.lt_of_lt_of_le (HM.out.lt k h2) hK.size) (fun h2 => h2.2), q1.b, q1.r1, q1.r2, fun j e => ?_, fun j e => ?_, q1.ap⟩
    · obtain ⟨a, b⟩ := q1.o1 j e
      exact ⟨a.elim .inl (fun h2 => .inr ⟨by omega, h2.2⟩), b⟩
    · obtain ⟨a, b⟩ := q1.o2 j e
      exact ⟨a.elim .inl (fun h2 => .inr ⟨by omega, h2.2⟩), b⟩)
  subst hv
  obtain ⟨k, hk⟩ : ∃ k, fr.length = k := ⟨_, rfl⟩
  rw [hk] at HO HE y1 hn
  clear h h1 hb1 HM hk
  go_enter Try.func18, Try.ntmps18
  go_wp2_with (first
    | (at_builtin; (refine zappI _ rfl (.tmp 8) (.tmp 10) rfl 0 k 1 w.heap.size _ fr x rfl HO.out rfl HR.out (by omega) (Nat.zero_le _) ?_; intro w8 g8 c8 ho hg hgg; obtain ⟨⟨y8, f8⟩, hE⟩ := HE.out w8 g8 c8 ho hg hgg; have HE2 := Lib.hid hE; clear ho hg hgg hE y1))
    | fail)
  go_end0
  exact HE2.out
theorem zsumI {l : List Int} {i : Nat} (h : i < l.length) : iCells (l.take (i + 1)) = iCells (l.take i) ++ [.int .i64 l[i]] := by
  rw [List.take_succ_eq_append_getElem h]
  simp only [iCells, List.map_append, List.map_cons, List.map_nil]
set_option maxHeartbeats 4000000 in
set_option maxRecDepth 100000 in
theorem zozonesI_at {F : Nat → Prop} {w : World} {tb n m : Nat} {v1 v2 : Value} {fr : List Int} {es : List (Int × Nat)} (h : ZtM F w tb n v1 v2 fr es m) (hn : fr.length ≤ 1000) : Calls Try.prog 19 #[.pointer (some ⟨tb, 1, none⟩)] w (NumsO fr w) := by
  obtain ⟨A, c, hv, _, _, _⟩ := h.r1.form
  have HM := Lib.hid h
  have hrr := h.r1
  subst hv
  have HR := Lib.hid hrr.rd
  have HC : Hid (∀ u, Below w.heap.size w u → u.cell? ⟨tb, 2, none⟩ = some (.func (.func 16) #[] #[])) := Lib.hid (fun u hu => (HM.out.up hu).cells.2.2.1)
  have y1 : w.cell? ⟨tb, 1, none⟩ = some (.slice A fr.length c) := h.cells.2.1
  obtain ⟨k, hk⟩ : ∃ k, fr.length = k := ⟨_, rfl⟩
  have HN := Lib.hid hk
  rw [hk] at y1 hn
  have HO0 : Hid (OwnK w w.heap.size 3 1 (.slice none 0 0) 0 []) := Lib.hid (OwnK.nil _ _ _ _)
  clear h hrr hk HM
  go_enter Try.func19, Try.ntmps19
  go_wp2_with fail
  clear y1
  go_loopg [3, 11] k (fun q x y wr => ∃ i : Nat, i ≤ k ∧ q = k - i ∧ y = .int .i64 (i : Int) ∧ OwnK wr w.heap.size 3 1 x i (iCells (fr.take i)) ∧ Below w.heap.size w wr)
  case atStart => exact ⟨0, by omega, rfl, rfl, by simpa [iCells] using HO0.out, Below.refl _ _⟩
  case round =>
    clear HO0
    obtain ⟨i, hi, hq, rfl, ho, hb⟩ := hrel
    have HQ := Lib.hid hq
    have HO := Lib.hid ho
    have HB := Lib.hid hb
    clear hq ho hb
    by_cases hlt : i < k
    · have hll : i < fr.length := by rw [HN.out]; exact hlt
      obtain ⟨b, o, rfl, _, hcell⟩ := (HR.out.below HB.out) (by rw [iCells_len, HN.out]; omega)
      have c0 := rdv_i (B := 0) hcell i hll
      have HT := Lib.hid (zsumI hll)
      have yf := HC.out wr HB.out
      obtain ⟨x, hx⟩ : ∃ x, fr[i] = x := ⟨_, rfl⟩
      rw [hx] at c0 HT
      obtain ⟨cs, hcs⟩ : ∃ cs, iCells (fr.take i) = cs := ⟨_, rfl⟩
      rw [hcs] at HT HO
      obtain ⟨w7, hw7⟩ : ∃ w7, wr.alloc (.cells #[.int .i64 x] 3) = w7 := ⟨_, rfl⟩
      have hb7 : Below wr.heap.size wr w7 := by rw [← hw7]; exact (Below.refl _ _).alloc (Nat.le_refl _) _
      have HO7 := Lib.hid (HO.out.up hb7)
      have HB7 := Lib.hid (below_all HB.out hb7)
      have HR7 : Hid (RdV w7 w7.heap.size (some ⟨wr.heap.size, 0, none⟩) [.int .i64 x]) := Lib.hid (by rw [← hw7]; exact row_rd wr [.int .i64 x])
      have HF := Lib.hid (zofI_at x (w := wr))
      clear hcell hx hcs hb7 HO HB
      go_wp2_with fail
      refine HF.out.mono ?_
      rintro r w' ⟨rfl, rfl⟩
      go_wp2_with (first
        | (at_builtin; go_loud (refine appP _ rfl (.tmp 15) (.tmp 22) 29 3 (.int .i64 0) 1 8 rfl Try.underlying29 intInfo rfl (by decide) (by decide) w.heap.size i 1 1 u3 cs [.int .i64 x] (some ⟨wr.heap.size, 0, none⟩) rfl HO7.out rfl rfl HR7.out (fun e => by cases e) (fun u hu => by simp only [List.mem_cons, List.not_mem_nil, or_false] at hu; rcases hu with rfl; rfl) (by omega) HB7.out.size ?_; intro v8 w8 ho hg; have HO8 : Hid (OwnK w8 w.heap.size 3 1 v8 (i + 1) (iCells (fr.take (i + 1)))) := Lib.hid (by rw [HT.out]; exact ho); have HB8 := Lib.hid (below_grown HB7.out hg (fun e he => HO7.out.own e he)); clear ho hg))
        | fail)
      go_wp2_with fail
      go_roundg (k - (i + 1))
      case rel => exact ⟨i + 1, by omega, rfl, by go_num, HO8.out, HB8.out⟩
      case measure => have := HQ.out; omega
    · obtain rfl : i = k := by omega
      have hto : fr.take i = fr := List.take_of_length_le (by rw [HN.out]; exact Nat.le_refl _)
      rw [hto] at HO
      have HE : Hid (NumsO fr w (.returned u3) wr) := Lib.hid ⟨_, rfl, by rw [show fr.length = i by exact HN.out]; exact HO.out, HB.out⟩
      clear HO hto
      go_wp2_with fail
      go_ret
      exact HE.out
end Go.Proofs.Yteoohafadijkmaa
