/-
  Acts, lists of lists of bytes, ints and bools that came in, opened.
-/
import Derived.Test.YtljpkngbhdplbaaDoorLawBytesB
import Derived.Test.YtljpkngbhdplbaaDoorLawLaidA
import Derived.Test.YtljpkngbhdplbaaDoorZnsN
import Derived.Deep.Matrix
import Derived.Deep.Grids
import Derived.Deep.Slices
import Derived.Lib.SmallJoins
namespace Go.Proofs.YtljpkngbhdplbaaDoor
open Go.ChangeShapes Go.WideShapes Go.RowKit Go.Joins Go.Deep

section
variable {H : Type} {enc : TypeId × Value → H} {W : World}

/-- The cells at a are those of a row. -/
theorem row_at {a : Addr} {vs : List Value} (h : ∀ i (hi : i < vs.length), W.cell? (a.add i) = some vs[i]) : RdV W W.heap.size (some a) vs := by
  intro hn
  obtain ⟨b, o, spot⟩ := a
  have hspot : spot = none := by simpa [Addr.add] using World.cell?_spot (h 0 hn)
  subst hspot
  refine ⟨b, o, rfl, World.block_lt_of_cell? W ⟨b, o, none⟩ (by simpa [Addr.add] using h 0 hn), fun i hi => ?_⟩
  have := h i hi
  rcases i with _ | i
  · simpa [Addr.add] using this
  · simpa [Addr.add] using this
theorem inN_lt {A : Option Addr} {vs : List Value} (h : RdV W W.heap.size A vs) : InN vs.length (fun k => k < W.heap.size) A := fun hp => by
  obtain ⟨b, o, rfl, hb, _⟩ := h hp
  exact InF.one hb
theorem choose_for {α : Type} [Inhabited α] {n : Nat} {p : Nat → α → Prop} (h : ∀ i, i < n → ∃ y, p i y) : ∃ f : Nat → α, ∀ i, i < n → p i (f i) :=
  ⟨fun i => if hi : i < n then (h i hi).choose else default, fun i hi => by simpa [hi] using (h i hi).choose_spec⟩

theorem open8 {n : Nat} {v : Value} {x : DataW H × List MemPlace} (h : DataW.trod enc Tryd.prog W 0 (fun _ => true) true n 35 [v] = some x) : ∃ xs : List Int, BytF (fun k => k < W.heap.size) W v xs ∧ Byt xs := by
  rcases Go.ChangeShapes.open_ints Tryd.underlying35 Tryd.underlying5 (by kernel_rfl) h with ⟨hc, _⟩ | ⟨a, len, cap, zs, hc, _, hl, _, hz, _, hall, hwf⟩
  · simp only [List.cons.injEq, and_true] at hc
    exact ⟨[], ⟨none, 0, hc, by simp, Rd.nil, (InF.none _).n, fun _ => rfl⟩, Byt.nil⟩
  · simp only [List.cons.injEq, and_true] at hc
    simp only [if_true] at hz
    have hlen : (zs.take len).length = len := by simp; omega
    have hr : RdV W W.heap.size (some a) (cellsOf8 (zs.take len)) := row_at fun i hi => by
      rw [cells8_len, hlen] at hi
      rw [hall i (by omega)]
      simp only [cellsOf8, List.getElem_map, List.getElem_take]
      rw [List.getD_eq_getElem?_getD, List.getElem?_eq_getElem (by omega), Option.getD_some]
    exact ⟨zs.take len, ⟨some a, cap, by rw [hlen]; exact hc, by rw [hlen]; exact hl, hr.rd, fun hp => inN_lt hr (by rw [cells8_len]; exact hp), fun e => (by cases e)⟩, fun x hx => byte_wf (hwf x (List.mem_of_mem_take hx))⟩
theorem openK {n : Nat} {v : Value} {x : DataW H × List MemPlace} (h : DataW.trod enc Tryd.prog W 0 (fun _ => true) true n 36 [v] = some x) : ∃ xs : List Int, RowF (fun k => k < W.heap.size) W v (kCells xs) ∧ ∀ k ∈ xs, Wd k := by
  rcases Go.ChangeShapes.open_ints Tryd.underlying36 Tryd.underlying3 (by kernel_rfl) h with ⟨hc, _⟩ | ⟨a, len, cap, zs, hc, _, hl, _, hz, _, hall, hwf⟩
  · simp only [List.cons.injEq, and_true] at hc
    exact ⟨[], ⟨none, 0, hc, by simp [kCells], RdV.nil, (InF.none _).n, fun _ => rfl⟩, fun k hk => by cases hk⟩
  · simp only [List.cons.injEq, and_true] at hc
    simp only [if_true] at hz
    have hlen : (zs.take len).length = len := by simp; omega
    have hr : RdV W W.heap.size (some a) (kCells (zs.take len)) := row_at fun i hi => by
      rw [kCells_len, hlen] at hi
      rw [hall i (by omega)]
      simp only [kCells, List.getElem_map, List.getElem_take]
      rw [List.getD_eq_getElem?_getD, List.getElem?_eq_getElem (by omega), Option.getD_some]
    refine ⟨zs.take len, ⟨some a, cap, by rw [kCells_len, hlen]; exact hc, by rw [kCells_len, hlen]; exact hl, hr, inN_lt hr, fun e => (by cases e)⟩, fun k hk => ?_⟩
    have := hwf k (List.mem_of_mem_take hk)
    simp only [Lit.wf, Bool.and_eq_true, decide_eq_true_eq] at this
    exact this
theorem openT {n : Nat} {v : Value} {x : DataW H × List MemPlace} (h : DataW.trod enc Tryd.prog W 0 (fun _ => true) true n 37 [v] = some x) : ∃ xs : List Bool, RowF (fun k => k < W.heap.size) W v (tCells xs) := by
  rcases open_bools Tryd.underlying37 Tryd.underlying4 (by kernel_rfl) h with ⟨hc, _⟩ | ⟨a, len, cap, B, hc, _, hl, _, _, hall⟩
  · simp only [List.cons.injEq, and_true] at hc
    exact ⟨[], ⟨none, 0, hc, by simp [tCells], RdV.nil, (InF.none _).n, fun _ => rfl⟩⟩
  · simp only [List.cons.injEq, and_true] at hc
    have hr : RdV W W.heap.size (some a) (tCells ((List.range len).map B)) := row_at fun i hi => by
      simp [tCells] at hi
      rw [hall i (by omega)]
      simp [tCells]
    exact ⟨(List.range len).map B, ⟨some a, cap, by rw [tCells_len]; simpa using hc, by rw [tCells_len]; simpa using hl, hr, inN_lt hr, fun e => (by cases e)⟩⟩
theorem openR {n : Nat} {v : Value} {x : DataW H × List MemPlace} (h : DataW.trod enc Tryd.prog W 0 (fun _ => true) true n 48 [v] = some x) : ∃ l : List (List Int), RowsF (fun k => k < W.heap.size) W v l ∧ ∀ b ∈ l, Byt b := by
  rcases open_slice1 Tryd.underlying48 (by kernel_rfl) h with ⟨hc, _⟩ | ⟨a, len, cap, m, k, V, D, Pl, hc, _, hl, _, hm, _, hall⟩
  · simp only [List.cons.injEq, and_true] at hc
    rw [hc]
    exact ⟨[], RowsF.nil _ _, fun b hb => by cases hb⟩
  · simp only [List.cons.injEq, and_true] at hc
    simp only [if_true] at hm
    obtain ⟨f, hf⟩ := choose_for (α := List Int) (n := len) (p := fun i xs => BytF (fun k => k < W.heap.size) W (V i) xs ∧ Byt xs) (fun i hi => open8 (hall i (by omega)).2)
    have hr : RdV W W.heap.size (some a) ((List.range len).map V) := row_at fun i hi => by
      simp at hi
      rw [(hall i (by omega)).1]
      simp
    refine ⟨(List.range len).map f, ⟨some a, cap, (List.range len).map V, by simpa using hc, by simpa using hl, hr, inN_lt hr, fun e => (by cases e), by simp, fun i h1 h2 => ?_⟩, fun b hb => ?_⟩
    · simp at h1
      simpa using (hf i h1).1
    · simp only [List.mem_map, List.mem_range] at hb
      obtain ⟨i, hi, rfl⟩ := hb
      exact (hf i hi).2
set_option maxRecDepth 100000 in
theorem openRR {v : Value} {d : DataW H} {p : List MemPlace} {r : Reach} {b0 : Nat} (hv : Value.okWide Tryd.prog W r b0 47 v) (h : DataW.Trod enc Tryd.prog W 0 (fun _ => true) true 47 v d p) : ∃ l : List (List (List Int)), Rows3 W v l ∧ ∀ z ∈ l, ∀ b ∈ z, Byt b := by
  obtain ⟨A0, len0, cap0, rfl⟩ := okWide_slice Tryd.underlying47 hv
  obtain ⟨fuel, hf⟩ := h
  rcases open_slice1 Tryd.underlying47 (by kernel_rfl) hf with ⟨hc, _⟩ | ⟨a, len, cap, m, k, V, D, Pl, hc, _, hl, _, hm, _, hall⟩
  · simp only [Value.cells, List.cons.injEq, and_true] at hc
    rw [hc]
    exact ⟨[], ⟨none, 0, [], rfl, by simp, RdV.nil, fun _ => rfl, rfl, fun i h => by simp at h⟩, fun z hz => by cases hz⟩
  · simp only [Value.cells, List.cons.injEq, and_true] at hc
    simp only [if_true] at hm
    obtain ⟨f, hf⟩ := choose_for (α := List (List Int)) (n := len) (p := fun i l => RowsF (fun k => k < W.heap.size) W (V i) l ∧ ∀ b ∈ l, Byt b) (fun i hi => openR (hall i (by omega)).2)
    have hr : RdV W W.heap.size (some a) ((List.range len).map V) := row_at fun i hi => by
      simp at hi
      rw [(hall i (by omega)).1]
      simp
    refine ⟨(List.range len).map f, ⟨some a, cap, (List.range len).map V, by simpa using hc, by simpa using hl, hr, fun e => (by cases e), by simp, fun i h1 h2 => ?_⟩, fun z hz b hb => ?_⟩
    · simp at h1
      simpa using (hf i h1).1
    · simp only [List.mem_map, List.mem_range] at hz
      obtain ⟨i, hi, rfl⟩ := hz
      exact (hf i hi).2 b hb

theorem list6 {α : Type} {xs : List α} (h : xs.length = 6) : ∃ a b c d e f, xs = [a, b, c, d, e, f] := by
  match xs, h with
  | [a, b, c, d, e, f], _ => exact ⟨a, b, c, d, e, f, rfl⟩
theorem i64_wf {n : Int} (h : (Lit.int .i64 n).wf = true) : Wd n := by
  simp only [Lit.wf, Bool.and_eq_true, decide_eq_true_eq] at h
  exact h
set_option maxRecDepth 100000 in
/-- An act's cells. -/
theorem open_act {n : Nat} {cs : List Value} {x : DataW H × List MemPlace} (hn : cs.length = 6) (h : DataW.trod enc Tryd.prog W 0 (fun _ => true) true n 39 cs = some x) :
    ∃ (y : ActS) (vb vk vt : Value), cs = actCells y vb vk vt ∧ ActF (fun k => k < W.heap.size) W vb vk vt y ∧ ActOk y := by
  have hs := Tryd.underlying39
  have hI : Tryd.prog.cellsOf 3 = 1 := by kernel_rfl
  have hB : Tryd.prog.cellsOf 35 = 1 := by kernel_rfl
  have hK : Tryd.prog.cellsOf 36 = 1 := by kernel_rfl
  have hT : Tryd.prog.cellsOf 37 = 1 := by kernel_rfl
  obtain ⟨c0, c1, c2, c3, c4, c5, rfl⟩ := list6 hn
  obtain ⟨xs, m, _, _, _, hxl, hfld⟩ := DataW.trod_struct hs h
  obtain ⟨y0, y1, y2, y3, y4, y5, rfl⟩ := list6 hxl
  have f0 : DataW.trod enc Tryd.prog W 0 (fun _ => true) true m 3 ((([c0, c1, c2, c3, c4, c5] : List Value).drop 0).take (Tryd.prog.cellsOf 3)) = some y0 := hfld 0 _ rfl
  have f1 : DataW.trod enc Tryd.prog W 0 (fun _ => true) true m 3 ((([c0, c1, c2, c3, c4, c5] : List Value).drop 1).take (Tryd.prog.cellsOf 3)) = some y1 := hfld 1 _ rfl
  have f2 : DataW.trod enc Tryd.prog W 0 (fun _ => true) true m 3 ((([c0, c1, c2, c3, c4, c5] : List Value).drop 2).take (Tryd.prog.cellsOf 3)) = some y2 := hfld 2 _ rfl
  have f3 : DataW.trod enc Tryd.prog W 0 (fun _ => true) true m 35 ((([c0, c1, c2, c3, c4, c5] : List Value).drop 3).take (Tryd.prog.cellsOf 35)) = some y3 := hfld 3 _ rfl
  have f4 : DataW.trod enc Tryd.prog W 0 (fun _ => true) true m 36 ((([c0, c1, c2, c3, c4, c5] : List Value).drop 4).take (Tryd.prog.cellsOf 36)) = some y4 := hfld 4 _ rfl
  have f5 : DataW.trod enc Tryd.prog W 0 (fun _ => true) true m 37 ((([c0, c1, c2, c3, c4, c5] : List Value).drop 5).take (Tryd.prog.cellsOf 37)) = some y5 := hfld 5 _ rfl
  simp only [hI, hB, hK, hT, List.drop_zero, List.drop_succ_cons, List.take_succ_cons, List.take_zero] at f0 f1 f2 f3 f4 f5
  obtain ⟨a, e0, rfl, w0⟩ := DataW.trod_int Tryd.underlying3 f0
  obtain ⟨b, e1, rfl, w1⟩ := DataW.trod_int Tryd.underlying3 f1
  obtain ⟨c, e2, rfl, w2⟩ := DataW.trod_int Tryd.underlying3 f2
  simp only [List.cons.injEq, and_true] at e0 e1 e2
  subst e0 e1 e2
  obtain ⟨B, hB1, hB2⟩ := open8 f3
  obtain ⟨K, hK1, hK2⟩ := openK f4
  obtain ⟨T, hT1⟩ := openT f5
  exact ⟨⟨a, b, c, B, K, T⟩, c3, c4, c5, rfl, ⟨hB1, hK1, hT1⟩, ⟨(i64_wf w2).2, hB2, hK2⟩⟩
set_option maxRecDepth 100000 in
/-- An act that came in. -/
theorem open_act_arg {v : Value} {d : DataW H} {p : List MemPlace} {r : Reach} {b0 : Nat} (hv : Value.okWide Tryd.prog W r b0 39 v) (h : DataW.Trod enc Tryd.prog W 0 (fun _ => true) true 39 v d p) :
    ∃ (y : ActS) (vb vk vt : Value), v = actV y vb vk vt ∧ ActF (fun k => k < W.heap.size) W vb vk vt y ∧ ActOk y := by
  obtain ⟨cs, rfl, hsz⟩ := okWide_struct Tryd.underlying39 hv
  have hC : Tryd.prog.cellsOf 39 = 6 := by kernel_rfl
  obtain ⟨fuel, hf⟩ := h
  obtain ⟨y, vb, vk, vt, e, h1, h2⟩ := open_act (cs := (Value.agg cs).cells.toList) (by simp [Value.cells, hsz, hC]) hf
  refine ⟨y, vb, vk, vt, ?_, h1, h2⟩
  simp only [Value.cells] at e
  unfold actV
  congr 1
  exact Array.toList_inj.1 e
set_option maxRecDepth 100000 in
/-- Acts that came in. -/
theorem open_acts {v : Value} {d : DataW H} {p : List MemPlace} {r : Reach} {b0 : Nat} (hv : Value.okWide Tryd.prog W r b0 22 v) (h : DataW.Trod enc Tryd.prog W 0 (fun _ => true) true 22 v d p) :
    ∃ (A : Option Addr) (c : Nat) (l : List ActS), v = .slice A l.length c ∧ ActsF (fun k => k < W.heap.size) W A l ∧ (A = none → c = 0) ∧ ∀ x ∈ l, ActOk x := by
  obtain ⟨A0, len0, cap0, rfl⟩ := okWide_slice Tryd.underlying22 hv
  have hC : Tryd.prog.cellsOf 39 = 6 := by kernel_rfl
  obtain ⟨fuel, hf⟩ := h
  rcases open_slice Tryd.underlying22 hf with ⟨hc, _⟩ | ⟨a, len, cap, m, k, D, Pl, hc, _, hl, _, hm, _, hall⟩
  · simp only [Value.cells, List.cons.injEq, and_true] at hc
    rw [hc]
    exact ⟨none, 0, [], rfl, fun h => by simp at h, fun _ => rfl, fun x hx => by cases hx⟩
  · simp only [Value.cells, List.cons.injEq, and_true] at hc
    simp only [if_true] at hm
    rw [hC] at hall
    have : Inhabited ActS := ⟨⟨0, 0, 0, [], [], []⟩⟩
    have : Inhabited (ActS × Value × Value × Value) := ⟨(⟨0, 0, 0, [], [], []⟩, .nilIface, .nilIface, .nilIface)⟩
    obtain ⟨f, hf⟩ := choose_for (α := ActS × Value × Value × Value) (n := len) (p := fun i q => (∀ j, j < 6 → W.cell? (a.add (i * 6 + j)) = (actCells q.1 q.2.1 q.2.2.1 q.2.2.2)[j]?) ∧ ActF (fun k => k < W.heap.size) W q.2.1 q.2.2.1 q.2.2.2 q.1 ∧ ActOk q.1) (fun i hi => by
      obtain ⟨cs', h1, h2⟩ := hall i (by omega)
      obtain ⟨_, hl6, hcl⟩ := World.cells?_some h1
      obtain ⟨y, vb, vk, vt, e, h3, h4⟩ := open_act hl6 h2
      refine ⟨(y, vb, vk, vt), fun j hj => ?_, h3, h4⟩
      have := hcl j hj
      rw [e] at this
      rw [← this]
      congr 1
      obtain ⟨b, o, s⟩ := a
      rcases j with _ | j
      · rcases i with _ | i <;> simp [Addr.add]
      · rcases i with _ | i <;> simp [Addr.add, Nat.add_assoc])
    refine ⟨some a, cap, (List.range len).map (fun i => (f i).1), by simpa using hc, fun hn => ?_, fun e => (by cases e), fun x hx => ?_⟩
    · simp at hn
      obtain ⟨b, o, spot⟩ := a
      have h00 := (hf 0 hn).1 0 (by omega)
      have hspot : spot = none := by simpa [Addr.add] using World.cell?_spot h00
      subst hspot
      have hb : b < W.heap.size := by simpa [Addr.add] using World.block_lt_of_cell? W _ h00
      refine ⟨b, o, rfl, hb, hb, fun i hi => ?_⟩
      simp at hi
      obtain ⟨h1, h2, _⟩ := hf i hi
      have key : ∀ j, j < 6 → W.cell? ⟨b, o + i * 6 + j, none⟩ = (actCells (f i).1 (f i).2.1 (f i).2.2.1 (f i).2.2.2)[j]? := fun j hj => by
        rw [← h1 j hj]
        congr 1
        by_cases h0 : i * 6 + j = 0
        · have e1 : i * 6 = 0 := by omega
          have e2 : j = 0 := by omega
          simp [Addr.add, e1, e2]
        · obtain ⟨t, ht⟩ : ∃ t, i * 6 + j = t + 1 := ⟨i * 6 + j - 1, by omega⟩
          rw [ht]
          simp [Addr.add]
          omega
      simp only [List.getElem_map, List.getElem_range]
      exact ⟨_, _, _, h2, key 0 (by omega), key 1 (by omega), key 2 (by omega), key 3 (by omega), key 4 (by omega), key 5 (by omega)⟩
    · simp only [List.mem_map, List.mem_range] at hx
      obtain ⟨i, hi, rfl⟩ := hx
      exact (hf i hi).2.2
set_option maxRecDepth 100000 in
theorem openK_arg {v : Value} {d : DataW H} {p : List MemPlace} {r : Reach} {b0 : Nat} (hv : Value.okWide Tryd.prog W r b0 36 v) (h : DataW.Trod enc Tryd.prog W 0 (fun _ => true) true 36 v d p) : ∃ xs : List Int, RowF (fun k => k < W.heap.size) W v (kCells xs) ∧ ∀ k ∈ xs, Wd k := by
  obtain ⟨A0, len0, cap0, rfl⟩ := okWide_slice Tryd.underlying36 hv
  obtain ⟨fuel, hf⟩ := h
  exact openK (v := .slice A0 len0 cap0) hf
set_option maxRecDepth 100000 in
theorem openT_arg {v : Value} {d : DataW H} {p : List MemPlace} {r : Reach} {b0 : Nat} (hv : Value.okWide Tryd.prog W r b0 37 v) (h : DataW.Trod enc Tryd.prog W 0 (fun _ => true) true 37 v d p) : ∃ xs : List Bool, RowF (fun k => k < W.heap.size) W v (tCells xs) := by
  obtain ⟨A0, len0, cap0, rfl⟩ := okWide_slice Tryd.underlying37 hv
  obtain ⟨fuel, hf⟩ := h
  exact openT (v := .slice A0 len0 cap0) hf
theorem trodAll_five {P : Program} {w : World} {base : Nat} {spare : Nat → Bool} {held : Bool} {t ta tb tc td : TypeId} {args : Array Value} {ds : List (DataW H)} {ps : List MemPlace} (h : DataW.TrodAll enc P w base spare held [t, ta, tb, tc, td] args.toList ds ps) :
    ∃ v va vb vc vd d da db dc dd p pa pb pc pd, args = #[v, va, vb, vc, vd] ∧ ds = [d, da, db, dc, dd] ∧ ps = p ++ pa ++ pb ++ pc ++ pd ∧ DataW.Trod enc P w base spare held t v d p ∧ DataW.Trod enc P w base spare held ta va da pa ∧ DataW.Trod enc P w base spare held tb vb db pb ∧ DataW.Trod enc P w base spare held tc vc dc pc ∧ DataW.Trod enc P w base spare held td vd dd pd := by
  obtain ⟨v, vs, d, es, p, q, hargs, rfl, rfl, hd, hrest⟩ := trodAll_cons h
  obtain ⟨va, vs1, da, es1, pa, q1, rfl, rfl, rfl, hd1, hrest1⟩ := trodAll_cons hrest
  obtain ⟨vb, vs2, db, es2, pb, q2, rfl, rfl, rfl, hd2, hrest2⟩ := trodAll_cons hrest1
  obtain ⟨vc, vs3, dc, es3, pc, q3, rfl, rfl, rfl, hd3, hrest3⟩ := trodAll_cons hrest2
  obtain ⟨vd, vs4, dd, es4, pd, q4, rfl, rfl, rfl, hd4, hrest4⟩ := trodAll_cons hrest3
  obtain ⟨rfl, rfl, rfl⟩ := trodAll_nil hrest4
  exact ⟨v, va, vb, vc, vd, d, da, db, dc, dd, p, pa, pb, pc, pd, by cases args; simp_all, rfl, by simp, hd, hd1, hd2, hd3, hd4⟩
end
end Go.Proofs.YtljpkngbhdplbaaDoor
