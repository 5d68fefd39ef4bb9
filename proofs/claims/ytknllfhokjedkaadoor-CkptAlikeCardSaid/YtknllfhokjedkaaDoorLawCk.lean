/-
  Checkpoints and blocks that came in, opened.
-/
import Derived.Test.YtknllfhokjedkaaDoorLawBytesB
import Derived.Test.YtknllfhokjedkaaDoorCkptE
import Derived.Deep.Matrix
import Derived.Lib.SmallJoins
namespace Go.Proofs.YtknllfhokjedkaaDoor
open Go.ChangeShapes Go.WideShapes Go.RowKit Go.Joins

section
variable {H : Type} {enc : TypeId × Value → H} {W : World}

/-- The cells at a are those of a row. -/
theorem row_at {a : Addr} {vs : List Value} (h : ∀ i (hi : i < vs.length), W.cell? (a.add i) = some vs[i]) : RdV W W.heap.size (some a) vs := by
  intro hn
  obtain ⟨b, o, spot⟩ := a
  have hspot : spot = none := by simpa [Addr.add] using World.cell?_spot (h 0 hn)
  subst hspot
  refine ⟨b, o, rfl, World.block_lt_of_cell? W ⟨b, o, none⟩ (by simpa [Addr.add] using h 0 hn), fun i hi => ?_⟩
  have := h i hi
  rcases i with _ | i
  · simpa [Addr.add] using this
  · simpa [Addr.add] using this

theorem open_nums {P : Program} {t e : TypeId} {fuel : Nat} {cs : List Value} {x : DataW H × List MemPlace} (ht : P.underlying t = some (.slice e)) (he : P.underlying e = some (.int .u32)) (ce : P.cellsOf e = 1) (h : DataW.trod enc P W 0 (fun _ => true) true fuel t cs = some x) :
    ∃ (A : Option Addr) (ns : List Int) (c : Nat), cs = [.slice A ns.length c] ∧ ns.length ≤ c ∧ Words ns ∧ RdV W W.heap.size A (u32s ns) := by
  rcases open_ints ht he ce h with ⟨rfl, _⟩ | ⟨a, len, cap, zs, rfl, _, hl, _, hz, _, hall, hwf⟩
  · exact ⟨none, [], 0, rfl, by simp, (fun n hn => by cases hn), RdV.nil⟩
  · simp only [if_true] at hz
    have hlen : (zs.take len).length = len := by simp; omega
    refine ⟨some a, zs.take len, cap, by rw [hlen], by rw [hlen]; exact hl, fun n hn => u32_wf (hwf n (List.mem_of_mem_take hn)), row_at fun i hi => ?_⟩
    rw [u32s_len, hlen] at hi
    have h1 := hall i (by omega)
    rw [List.getD_eq_getElem?_getD, List.getElem?_eq_getElem (by omega), Option.getD_some] at h1
    rw [h1, u32s_get, List.getElem_take]

theorem open_rows {P : Program} {t e q : TypeId} {v : Value} {d : DataW H} {p : List MemPlace} (ht : P.underlying t = some (.slice e)) (he : P.underlying e = some (.slice q)) (hq : P.underlying q = some (.int .u8)) (ce : P.cellsOf e = 1) (cq : P.cellsOf q = 1) {r : Reach} {b0 : Nat}
    (hv : Value.okWide P W r b0 t v) (h : DataW.Trod enc P W 0 (fun _ => true) true t v d p) : ∃ l : List (List Int), RowsAt W v l ∧ ∀ x ∈ l, Byt x := by
  obtain ⟨A0, len0, cap0, rfl⟩ := okWide_slice ht hv
  obtain ⟨fuel, hf⟩ := h
  rcases Go.Deep.open_int_rows ht he hq ce cq hf with ⟨hc, _⟩ | ⟨a, len, cap, A, L, C, Z, hc, _, hl, _, _, hall⟩
  · simp only [Value.cells, List.cons.injEq, and_true] at hc
    injection hc with h1 h2 h3
    subst h1 h2 h3
    exact ⟨[], RowsAt.nil W, fun x hx => by cases hx⟩
  · simp only [Value.cells, List.cons.injEq, and_true] at hc
    injection hc with h1 h2 h3
    subst h1 h2 h3
    refine ⟨(List.range len0).map fun r => (Z r).take (L r), ⟨some a, cap0, (List.range len0).map fun r => .slice (A r) (L r) (C r), by simp, by simp; exact hl, row_at fun i hi => ?_, ⟨by simp, fun i h1 h2 => ?_⟩⟩, ?_⟩
    · simp at hi
      simp only [List.getElem_map, List.getElem_range]
      exact (hall i (by omega)).1
    · simp at h1
      obtain ⟨hc, hLC, _, hZ, hwf, hnone, hsome⟩ := hall i (by omega)
      have hzl : ((Z i).take (L i)).length = L i := by rw [List.length_take]; omega
      refine ⟨A i, C i, ?_, ?_, ?_⟩
      · simp only [List.getElem_map, List.getElem_range]
        rw [hzl]
      · simp only [List.getElem_map, List.getElem_range]
        rw [hzl]
        exact hLC
      · simp only [List.getElem_map, List.getElem_range]
        cases hA : A i with
        | none =>
          have : (Z i).take (L i) = [] := List.eq_nil_of_length_eq_zero (by have := hnone hA; omega)
          rw [this]
          exact Rd.nil
        | some a' =>
          refine (row_at (vs := cellsOf8 ((Z i).take (L i))) fun j hj => ?_).rd
          rw [cells8_len, hzl] at hj
          rw [(hsome a' hA).2 j (by omega)]
          simp only [cellsOf8, List.getElem_map, List.getElem_take]
          rw [List.getD_eq_getElem?_getD, List.getElem?_eq_getElem (by omega), Option.getD_some]
    · intro x hx
      simp only [List.mem_map, List.mem_range] at hx
      obtain ⟨r, hr, rfl⟩ := hx
      obtain ⟨_, _, _, _, hwf, _⟩ := hall r (by omega)
      exact fun n hn => byte_wf (hwf n (List.mem_of_mem_take hn))

theorem array7 {cs : Array Value} (h : cs.size = 7) : ∃ c0 c1 c2 c3 c4 c5 c6, cs = #[c0, c1, c2, c3, c4, c5, c6] := by
  obtain ⟨l⟩ := cs
  match l, h with
  | [c0, c1, c2, c3, c4, c5, c6], _ => exact ⟨c0, c1, c2, c3, c4, c5, c6, rfl⟩
theorem list5 {α : Type} {xs : List α} (h : xs.length = 5) : ∃ a b c d e, xs = [a, b, c, d, e] := by
  match xs, h with
  | [a, b, c, d, e], _ => exact ⟨a, b, c, d, e, rfl⟩
theorem list3 {α : Type} {xs : List α} (h : xs.length = 3) : ∃ a b c, xs = [a, b, c] := by
  match xs, h with
  | [a, b, c], _ => exact ⟨a, b, c, rfl⟩
theorem i64_wf {n : Int} (h : (Lit.int .i64 n).wf = true) : Wide n := by
  simp only [Lit.wf, Bool.and_eq_true, decide_eq_true_eq] at h
  exact h

set_option maxRecDepth 100000 in
/-- A checkpoint that came in. -/
theorem open_check {v : Value} {d : DataW H} {p : List MemPlace} {r : Reach} {b0 : Nat} (hv : Value.okWide Tryd.prog W r b0 27 v) (h : DataW.Trod enc Tryd.prog W 0 (fun _ => true) true 27 v d p) :
    ∃ (nu se sq z p b : Int) (A : Option Addr) (dir : List Int) (c : Nat), v = kV nu se sq z p b (.slice A dir.length c) ∧ Words (nu :: se :: sq :: dir) ∧ Wide z ∧ Wide p ∧ Wide b ∧ dir.length ≤ c ∧ RdV W W.heap.size A (u32s dir) := by
  have hs := Tryd.underlying27
  have hC : Tryd.prog.cellsOf 27 = 7 := by kernel_rfl
  have hG : Tryd.prog.cellsOf 24 = 3 := by kernel_rfl
  have hU : Tryd.prog.cellsOf 22 = 1 := by kernel_rfl
  have hS : Tryd.prog.cellsOf 25 = 1 := by kernel_rfl
  have hI : Tryd.prog.cellsOf 3 = 1 := by kernel_rfl
  obtain ⟨cs, rfl, hsz⟩ := okWide_struct hs hv
  obtain ⟨c0, c1, c2, c3, c4, c5, c6, rfl⟩ := array7 (hsz.trans hC)
  obtain ⟨fuel, hf⟩ := h
  obtain ⟨xs, n, _, _, _, hxl, hfld⟩ := DataW.trod_struct hs hf
  obtain ⟨y0, y1, y2, y3, y4, rfl⟩ := list5 hxl
  have f0 : DataW.trod enc Tryd.prog W 0 (fun _ => true) true n 22 ((([c0, c1, c2, c3, c4, c5, c6] : List Value).drop 0).take (Tryd.prog.cellsOf 22)) = some y0 := hfld 0 _ rfl
  have f1 : DataW.trod enc Tryd.prog W 0 (fun _ => true) true n 22 ((([c0, c1, c2, c3, c4, c5, c6] : List Value).drop 1).take (Tryd.prog.cellsOf 22)) = some y1 := hfld 1 _ rfl
  have f2 : DataW.trod enc Tryd.prog W 0 (fun _ => true) true n 22 ((([c0, c1, c2, c3, c4, c5, c6] : List Value).drop 2).take (Tryd.prog.cellsOf 22)) = some y2 := hfld 2 _ rfl
  have f3 : DataW.trod enc Tryd.prog W 0 (fun _ => true) true n 24 ((([c0, c1, c2, c3, c4, c5, c6] : List Value).drop 3).take (Tryd.prog.cellsOf 24)) = some y3 := hfld 3 _ rfl
  have f4 : DataW.trod enc Tryd.prog W 0 (fun _ => true) true n 25 ((([c0, c1, c2, c3, c4, c5, c6] : List Value).drop 6).take (Tryd.prog.cellsOf 25)) = some y4 := hfld 4 _ rfl
  simp only [hU, hG, hS, List.drop_zero, List.drop_succ_cons, List.take_succ_cons, List.take_zero] at f0 f1 f2 f3 f4
  obtain ⟨nu, e0, rfl, w0⟩ := DataW.trod_int Tryd.underlying22 f0
  obtain ⟨se, e1, rfl, w1⟩ := DataW.trod_int Tryd.underlying22 f1
  obtain ⟨sq, e2, rfl, w2⟩ := DataW.trod_int Tryd.underlying22 f2
  obtain ⟨zs, m, _, _, _, hzl, hgf⟩ := DataW.trod_struct Tryd.underlying24 f3
  obtain ⟨g0, g1, g2, rfl⟩ := list3 hzl
  have k0 : DataW.trod enc Tryd.prog W 0 (fun _ => true) true m 3 ((([c3, c4, c5] : List Value).drop 0).take (Tryd.prog.cellsOf 3)) = some g0 := hgf 0 _ rfl
  have k1 : DataW.trod enc Tryd.prog W 0 (fun _ => true) true m 3 ((([c3, c4, c5] : List Value).drop 1).take (Tryd.prog.cellsOf 3)) = some g1 := hgf 1 _ rfl
  have k2 : DataW.trod enc Tryd.prog W 0 (fun _ => true) true m 3 ((([c3, c4, c5] : List Value).drop 2).take (Tryd.prog.cellsOf 3)) = some g2 := hgf 2 _ rfl
  simp only [hI, List.drop_zero, List.drop_succ_cons, List.take_succ_cons, List.take_zero] at k0 k1 k2
  obtain ⟨z, e3, rfl, w3⟩ := DataW.trod_int Tryd.underlying3 k0
  obtain ⟨p, e4, rfl, w4⟩ := DataW.trod_int Tryd.underlying3 k1
  obtain ⟨b, e5, rfl, w5⟩ := DataW.trod_int Tryd.underlying3 k2
  obtain ⟨A, dir, c, e6, hc, hw, hr⟩ := open_nums Tryd.underlying25 Tryd.underlying22 hU f4
  simp only [List.cons.injEq, and_true] at e0 e1 e2 e3 e4 e5 e6
  subst e0 e1 e2 e3 e4 e5 e6
  refine ⟨nu, se, sq, z, p, b, A, dir, c, rfl, ?_, i64_wf w3, i64_wf w4, i64_wf w5, hc, hr⟩
  intro x hx
  simp only [List.mem_cons] at hx
  rcases hx with rfl | rfl | rfl | hx
  · exact u32_wf w0
  · exact u32_wf w1
  · exact u32_wf w2
  · exact hw x hx
end
end Go.Proofs.YtknllfhokjedkaaDoor
