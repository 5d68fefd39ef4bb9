/-
  The landed slots as a bundle of contracts.
  A slice of bytes that came in, opened.
  Acts, lists of lists of bytes, ints and bools that came in, opened.
  Checkpoints, a geometry, a number, ints and bools that came in, opened.
-/
import Derived.Test.YthmpimjmajoimaaGreatDoorSw45
import Derived.Test.YthmpimjmajoimaaGreatDoorSw01
import Derived.Test.YthmpimjmajoimaaGreatDoorSw02
import Derived.ChangeSlices
import Derived.OpenShut
import Derived.Test.YthmpimjmajoimaaGreatDoorSw07
import Derived.Deep.Matrix
import Derived.Deep.Grids
import Derived.Deep.Slices
import Derived.Lib.SmallJoins
import Derived.Test.YthmpimjmajoimaaGreatDoorSw23
namespace Go.Proofs.YthmpimjmajoimaaGreatDoor
open Go.RowKit

/-- The landed slots' calls. -/
theorem slO : SlOps zBas slX where
  place := fun nu h _ h0 h1 => slwhere_at zBas nu h h0 h1
  write := fun c v h hd hw _ _ _ _ hv => slWrite_at zBas c v h hd hw hv
  read := fun zi h => slRead_at zBas zi h
  newest := fun h => slNewest_at zBas h
end Go.Proofs.YthmpimjmajoimaaGreatDoor
namespace Go.Proofs.YthmpimjmajoimaaGreatDoor
open Go.ChangeShapes Go.WideShapes Go.RowKit

theorem u32_wf {n : Int} (h : (Lit.int .u32 n).wf = true) : 0 ≤ n ∧ n ≤ 4294967295 := by
  simp only [Lit.wf, Bool.and_eq_true, decide_eq_true_eq] at h
  exact h
end Go.Proofs.YthmpimjmajoimaaGreatDoor
namespace Go.Proofs.YthmpimjmajoimaaGreatDoor
open Go.ChangeShapes Go.WideShapes Go.RowKit Go.Joins Go.Deep

section
variable {H : Type} {enc : TypeId × Value → H} {W : World}

/-- The cells at a are those of a row. -/
theorem row_at {a : Addr} {vs : List Value} (h : ∀ i (hi : i < vs.length), W.cell? (a.add i) = some vs[i]) : RdV W W.heap.size (some a) vs := by
  intro hn
  obtain ⟨b, o, spot⟩ := a
  have hspot : spot = none := by simpa [Addr.add] using World.cell?_spot (h 0 hn)
  subst hspot
  refine ⟨b, o, rfl, World.block_lt_of_cell? W ⟨b, o, none⟩ (by simpa [Addr.add] using h 0 hn), fun i hi => ?_⟩
  have := h i hi
  rcases i with _ | i
  · simpa [Addr.add] using this
  · simpa [Addr.add] using this
theorem inN_lt {A : Option Addr} {vs : List Value} (h : RdV W W.heap.size A vs) : InN vs.length (fun k => k < W.heap.size) A := fun hp => by
  obtain ⟨b, o, rfl, hb, _⟩ := h hp
  exact InF.one hb
theorem choose_for {α : Type} [Inhabited α] {n : Nat} {p : Nat → α → Prop} (h : ∀ i, i < n → ∃ y, p i y) : ∃ f : Nat → α, ∀ i, i < n → p i (f i) :=
  ⟨fun i => if hi : i < n then (h i hi).choose else default, fun i hi => by simpa [hi] using (h i hi).choose_spec⟩

end
end Go.Proofs.YthmpimjmajoimaaGreatDoor
namespace Go.Proofs.YthmpimjmajoimaaGreatDoor
open Go.ChangeShapes Go.WideShapes Go.RowKit Go.Joins Go.Deep

section
variable {H : Type} {enc : TypeId × Value → H} {W : World}
theorem open32 {n : Nat} {v : Value} {x : DataW H × List MemPlace} (h : DataW.trod enc Tryz.prog W 0 (fun _ => true) true n 38 [v] = some x) : ∃ xs : List Int, RowF (fun k => k < W.heap.size) W v (u32s xs) ∧ Words4 xs := by
  rcases Go.ChangeShapes.open_ints Tryz.underlying38 Tryz.underlying35 (by kernel_rfl) h with ⟨hc, _⟩ | ⟨a, len, cap, zs, hc, _, hl, _, hz, _, hall, hwf⟩
  · simp only [List.cons.injEq, and_true] at hc
    exact ⟨[], ⟨none, 0, hc, by simp [u32s], RdV.nil, (InF.none _).n, fun _ => rfl⟩, fun k hk => by cases hk⟩
  · simp only [List.cons.injEq, and_true] at hc
    simp only [if_true] at hz
    have hlen : (zs.take len).length = len := by simp; omega
    have hr : RdV W W.heap.size (some a) (u32s (zs.take len)) := row_at fun i hi => by
      rw [u32s_len, hlen] at hi
      rw [hall i (by omega)]
      simp only [u32s, List.getElem_map, List.getElem_take]
      rw [List.getD_eq_getElem?_getD, List.getElem?_eq_getElem (by omega), Option.getD_some]
    exact ⟨zs.take len, ⟨some a, cap, by rw [u32s_len, hlen]; exact hc, by rw [u32s_len, hlen]; exact hl, hr, inN_lt hr, fun e => (by cases e)⟩, fun k hk => u32_wf (hwf k (List.mem_of_mem_take hk))⟩
theorem slist7 {α : Type} {xs : List α} (h : xs.length = 7) : ∃ a b c d e f g, xs = [a, b, c, d, e, f, g] := by
  match xs, h with
  | [a, b, c, d, e, f, g], _ => exact ⟨a, b, c, d, e, f, g, rfl⟩
theorem slist5 {α : Type} {xs : List α} (h : xs.length = 5) : ∃ a b c d e, xs = [a, b, c, d, e] := by
  match xs, h with
  | [a, b, c, d, e], _ => exact ⟨a, b, c, d, e, rfl⟩
theorem slist3 {α : Type} {xs : List α} (h : xs.length = 3) : ∃ a b c, xs = [a, b, c] := by
  match xs, h with
  | [a, b, c], _ => exact ⟨a, b, c, rfl⟩
theorem wide_wf {n : Int} (h : (Lit.int .i64 n).wf = true) : Wide n := by
  simp only [Lit.wf, Bool.and_eq_true, decide_eq_true_eq] at h
  exact h
set_option maxRecDepth 100000 in
/-- A checkpoint's cells. -/
theorem open_chk {n : Nat} {cs : List Value} {x : DataW H × List MemPlace} (hn : cs.length = 7) (h : DataW.trod enc Tryz.prog W 0 (fun _ => true) true n 40 cs = some x) :
    ∃ (y : ChkS) (sv : Value), cs = ckC y sv ∧ RowF (fun k => k < W.heap.size) W sv (u32s y.dir) ∧ ChkOk y := by
  have hG : Tryz.prog.cellsOf 37 = 3 := by kernel_rfl
  have hU : Tryz.prog.cellsOf 35 = 1 := by kernel_rfl
  have hS : Tryz.prog.cellsOf 38 = 1 := by kernel_rfl
  have hI : Tryz.prog.cellsOf 3 = 1 := by kernel_rfl
  obtain ⟨c0, c1, c2, c3, c4, c5, c6, rfl⟩ := slist7 hn
  obtain ⟨xs, n, _, _, _, hxl, hfld⟩ := DataW.trod_struct Tryz.underlying40 h
  obtain ⟨y0, y1, y2, y3, y4, rfl⟩ := slist5 hxl
  have f0 : DataW.trod enc Tryz.prog W 0 (fun _ => true) true n 35 ((([c0, c1, c2, c3, c4, c5, c6] : List Value).drop 0).take (Tryz.prog.cellsOf 35)) = some y0 := hfld 0 _ rfl
  have f1 : DataW.trod enc Tryz.prog W 0 (fun _ => true) true n 35 ((([c0, c1, c2, c3, c4, c5, c6] : List Value).drop 1).take (Tryz.prog.cellsOf 35)) = some y1 := hfld 1 _ rfl
  have f2 : DataW.trod enc Tryz.prog W 0 (fun _ => true) true n 35 ((([c0, c1, c2, c3, c4, c5, c6] : List Value).drop 2).take (Tryz.prog.cellsOf 35)) = some y2 := hfld 2 _ rfl
  have f3 : DataW.trod enc Tryz.prog W 0 (fun _ => true) true n 37 ((([c0, c1, c2, c3, c4, c5, c6] : List Value).drop 3).take (Tryz.prog.cellsOf 37)) = some y3 := hfld 3 _ rfl
  have f4 : DataW.trod enc Tryz.prog W 0 (fun _ => true) true n 38 ((([c0, c1, c2, c3, c4, c5, c6] : List Value).drop 6).take (Tryz.prog.cellsOf 38)) = some y4 := hfld 4 _ rfl
  simp only [hU, hG, hS, List.drop_zero, List.drop_succ_cons, List.take_succ_cons, List.take_zero] at f0 f1 f2 f3 f4
  obtain ⟨nu, e0, rfl, w0⟩ := DataW.trod_int Tryz.underlying35 f0
  obtain ⟨se, e1, rfl, w1⟩ := DataW.trod_int Tryz.underlying35 f1
  obtain ⟨sq, e2, rfl, w2⟩ := DataW.trod_int Tryz.underlying35 f2
  obtain ⟨zs, m, _, _, _, hzl, hgf⟩ := DataW.trod_struct Tryz.underlying37 f3
  obtain ⟨g0, g1, g2, rfl⟩ := slist3 hzl
  have k0 : DataW.trod enc Tryz.prog W 0 (fun _ => true) true m 3 ((([c3, c4, c5] : List Value).drop 0).take (Tryz.prog.cellsOf 3)) = some g0 := hgf 0 _ rfl
  have k1 : DataW.trod enc Tryz.prog W 0 (fun _ => true) true m 3 ((([c3, c4, c5] : List Value).drop 1).take (Tryz.prog.cellsOf 3)) = some g1 := hgf 1 _ rfl
  have k2 : DataW.trod enc Tryz.prog W 0 (fun _ => true) true m 3 ((([c3, c4, c5] : List Value).drop 2).take (Tryz.prog.cellsOf 3)) = some g2 := hgf 2 _ rfl
  simp only [hI, List.drop_zero, List.drop_succ_cons, List.take_succ_cons, List.take_zero] at k0 k1 k2
  obtain ⟨z, e3, rfl, w3⟩ := DataW.trod_int Tryz.underlying3 k0
  obtain ⟨p, e4, rfl, w4⟩ := DataW.trod_int Tryz.underlying3 k1
  obtain ⟨b, e5, rfl, w5⟩ := DataW.trod_int Tryz.underlying3 k2
  obtain ⟨dir, hd, hw⟩ := open32 f4
  simp only [List.cons.injEq, and_true] at e0 e1 e2 e3 e4 e5
  subst e0 e1 e2 e3 e4 e5
  refine ⟨⟨nu, se, sq, z, p, b, dir⟩, c6, rfl, hd, ?_, wide_wf w3, wide_wf w4, wide_wf w5⟩
  intro x hx
  simp only [List.mem_cons] at hx
  rcases hx with rfl | rfl | rfl | hx
  · exact u32_wf w0
  · exact u32_wf w1
  · exact u32_wf w2
  · exact hw x hx
set_option maxRecDepth 100000 in
/-- Checkpoints that came in. -/
theorem open_chks {v : Value} {d : DataW H} {p : List MemPlace} {r : Reach} {b0 : Nat} (hv : Value.okWide Tryz.prog W r b0 22 v) (h : DataW.Trod enc Tryz.prog W 0 (fun _ => true) true 22 v d p) :
    ∃ (A : Option Addr) (c : Nat) (l : List ChkS), v = .slice A l.length c ∧ ChksF (fun k => k < W.heap.size) W A l ∧ ∀ x ∈ l, ChkOk x := by
  obtain ⟨A0, len0, cap0, rfl⟩ := okWide_slice Tryz.underlying22 hv
  have hC : Tryz.prog.cellsOf 40 = 7 := by kernel_rfl
  obtain ⟨fuel, hf⟩ := h
  rcases open_slice Tryz.underlying22 hf with ⟨hc, _⟩ | ⟨a, len, cap, m, k, D, Pl, hc, _, hl, _, hm, _, hall⟩
  · simp only [Value.cells, List.cons.injEq, and_true] at hc
    rw [hc]
    exact ⟨none, 0, [], rfl, fun h => by simp at h, fun x hx => by cases hx⟩
  · simp only [Value.cells, List.cons.injEq, and_true] at hc
    simp only [if_true] at hm
    rw [hC] at hall
    have : Inhabited (ChkS × Value) := ⟨(⟨0, 0, 0, 0, 0, 0, []⟩, .nilIface)⟩
    obtain ⟨f, hf⟩ := choose_for (α := ChkS × Value) (n := len) (p := fun i q => (∀ j, j < 7 → W.cell? (a.add (i * 7 + j)) = (ckC q.1 q.2)[j]?) ∧ RowF (fun k => k < W.heap.size) W q.2 (u32s q.1.dir) ∧ ChkOk q.1) (fun i hi => by
      obtain ⟨cs', h1, h2⟩ := hall i (by omega)
      obtain ⟨_, hl7, hcl⟩ := World.cells?_some h1
      obtain ⟨y, sv, e, h3, h4⟩ := open_chk hl7 h2
      refine ⟨(y, sv), fun j hj => ?_, h3, h4⟩
      have := hcl j hj
      rw [e] at this
      rw [← this]
      congr 1
      obtain ⟨b, o, s⟩ := a
      rcases j with _ | j
      · rcases i with _ | i <;> simp [Addr.add]
      · rcases i with _ | i <;> simp [Addr.add, Nat.add_assoc])
    refine ⟨some a, cap, (List.range len).map (fun i => (f i).1), by simpa using hc, fun hn => ?_, fun x hx => ?_⟩
    · simp at hn
      obtain ⟨b, o, spot⟩ := a
      have h00 := (hf 0 hn).1 0 (by omega)
      have hspot : spot = none := by simpa [Addr.add] using World.cell?_spot h00
      subst hspot
      have hb : b < W.heap.size := by simpa [Addr.add] using World.block_lt_of_cell? W _ h00
      refine ⟨b, o, rfl, hb, hb, fun i hi => ?_⟩
      simp at hi
      obtain ⟨h1, h2, _⟩ := hf i hi
      have key : ∀ j, j < 7 → W.cell? ⟨b, o + i * 7 + j, none⟩ = (ckC (f i).1 (f i).2)[j]? := fun j hj => by
        rw [← h1 j hj]
        congr 1
        by_cases h0 : i * 7 + j = 0
        · have e1 : i * 7 = 0 := by omega
          have e2 : j = 0 := by omega
          simp [Addr.add, e1, e2]
        · obtain ⟨t, ht⟩ : ∃ t, i * 7 + j = t + 1 := ⟨i * 7 + j - 1, by omega⟩
          rw [ht]
          simp [Addr.add]
          omega
      simp only [List.getElem_map, List.getElem_range]
      exact ⟨_, h2, key 0 (by omega), key 1 (by omega), key 2 (by omega), key 3 (by omega), key 4 (by omega), key 5 (by omega), key 6 (by omega)⟩
    · simp only [List.mem_map, List.mem_range] at hx
      obtain ⟨i, hi, rfl⟩ := hx
      exact (hf i hi).2.2
end
end Go.Proofs.YthmpimjmajoimaaGreatDoor
