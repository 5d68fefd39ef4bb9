/-
  A geometry, an address, and acts on a set that came in, opened.
-/
import Derived.Test.YtajccmkdfmpapaaDoorVaF
import Derived.Test.YtajccmkdfmpapaaDoorLawPost
import Derived.Deep.Slices
import Derived.Lib.SmallJoins
namespace Go.Proofs.YtajccmkdfmpapaaDoor
open Go.ChangeShapes Go.WideShapes Go.RowKit Go.Joins Go.Deep

theorem u32_nat {n : Int} (h : (Lit.int .u32 n).wf = true) : ∃ k : Nat, n = (k : Int) := by
  simp only [Lit.wf, Bool.and_eq_true, decide_eq_true_eq] at h
  exact Int.eq_ofNat_of_zero_le h.1
theorem list2 {α : Type} {xs : List α} (h : xs.length = 2) : ∃ a b, xs = [a, b] := by
  match xs, h with
  | [a, b], _ => exact ⟨a, b, rfl⟩
section
variable {H : Type} {enc : TypeId × Value → H} {W : World}
theorem ix_choose {α : Type} [Inhabited α] {n : Nat} {p : Nat → α → Prop} (h : ∀ i, i < n → ∃ y, p i y) : ∃ f : Nat → α, ∀ i, i < n → p i (f i) :=
  ⟨fun i => if hi : i < n then (h i hi).choose else default, fun i hi => by simpa [hi] using (h i hi).choose_spec⟩
set_option maxRecDepth 100000 in
/-- An act's cells. -/
theorem open_vact {n : Nat} {cs : List Value} {x : DataW H × List MemPlace} (hn : cs.length = 2) (h : DataW.trod enc Tryd.prog W 0 (fun _ => true) true n 39 cs = some x) :
    ∃ y : VAct, cs = [.int .i64 y.d, .int .u32 (y.a : Int)] := by
  have hs := Tryd.underlying39
  have hI : Tryd.prog.cellsOf 3 = 1 := by kernel_rfl
  have hU : Tryd.prog.cellsOf 25 = 1 := by kernel_rfl
  obtain ⟨c0, c1, rfl⟩ := list2 hn
  obtain ⟨xs, m, _, _, _, hxl, hfld⟩ := DataW.trod_struct hs h
  obtain ⟨y0, y1, rfl⟩ := list2 hxl
  have f0 : DataW.trod enc Tryd.prog W 0 (fun _ => true) true m 3 ((([c0, c1] : List Value).drop 0).take (Tryd.prog.cellsOf 3)) = some y0 := hfld 0 _ rfl
  have f1 : DataW.trod enc Tryd.prog W 0 (fun _ => true) true m 25 ((([c0, c1] : List Value).drop 1).take (Tryd.prog.cellsOf 25)) = some y1 := hfld 1 _ rfl
  simp only [hI, hU, List.drop_zero, List.drop_succ_cons, List.take_succ_cons, List.take_zero] at f0 f1
  obtain ⟨a, e0, rfl, w0⟩ := DataW.trod_int Tryd.underlying3 f0
  obtain ⟨b, e1, rfl, w1⟩ := DataW.trod_int Tryd.underlying25 f1
  simp only [List.cons.injEq, and_true] at e0 e1
  subst e0 e1
  obtain ⟨k, rfl⟩ := u32_nat w1
  exact ⟨⟨a, k⟩, rfl⟩
set_option maxRecDepth 100000 in
/-- Acts that came in. -/
theorem open_vacts {v : Value} {d : DataW H} {p : List MemPlace} {r : Reach} {b0 : Nat} (hv : Value.okWide Tryd.prog W r b0 24 v) (h : DataW.Trod enc Tryd.prog W 0 (fun _ => true) true 24 v d p) :
    ∃ (A : Option Addr) (c : Nat) (l : List VAct), v = .slice A l.length c ∧ RdVA W A l := by
  obtain ⟨A0, len0, cap0, rfl⟩ := okWide_slice Tryd.underlying24 hv
  have hC : Tryd.prog.cellsOf 39 = 2 := by kernel_rfl
  obtain ⟨fuel, hf⟩ := h
  rcases open_slice Tryd.underlying24 hf with ⟨hc, _⟩ | ⟨a, len, cap, m, k, D, Pl, hc, _, hl, _, hm, _, hall⟩
  · simp only [Value.cells, List.cons.injEq, and_true] at hc
    rw [hc]
    exact ⟨none, 0, [], rfl, fun h => by simp at h⟩
  · simp only [Value.cells, List.cons.injEq, and_true] at hc
    simp only [if_true] at hm
    rw [hC] at hall
    have : Inhabited VAct := ⟨⟨0, 0⟩⟩
    obtain ⟨f, hf⟩ := ix_choose (α := VAct) (n := len) (p := fun i y => ∀ j, j < 2 → W.cell? (a.add (i * 2 + j)) = ([.int .i64 y.d, .int .u32 (y.a : Int)] : List Value)[j]?) (fun i hi => by
      obtain ⟨cs', h1, h2⟩ := hall i (by omega)
      obtain ⟨_, hl3, hcl⟩ := World.cells?_some h1
      obtain ⟨y, e⟩ := open_vact hl3 h2
      refine ⟨y, fun j hj => ?_⟩
      have := hcl j hj
      rw [e] at this
      rw [← this]
      congr 1
      obtain ⟨b, o, s⟩ := a
      rcases j with _ | j
      · rcases i with _ | i <;> simp [Addr.add]
      · rcases i with _ | i <;> simp [Addr.add, Nat.add_assoc])
    refine ⟨some a, cap, (List.range len).map f, by simpa using hc, fun hn => ?_⟩
    simp at hn
    obtain ⟨b, o, spot⟩ := a
    have h00 := hf 0 hn 0 (by omega)
    have hspot : spot = none := by simpa [Addr.add] using World.cell?_spot h00
    subst hspot
    have hb : b < W.heap.size := by simpa [Addr.add] using World.block_lt_of_cell? W _ h00
    refine ⟨b, o, rfl, hb, fun i hi => ?_⟩
    simp at hi
    have h1 := hf i hi
    have key : ∀ j, j < 2 → W.cell? ⟨b, o + i * 2 + j, none⟩ = ([.int .i64 (f i).d, .int .u32 ((f i).a : Int)] : List Value)[j]? := fun j hj => by
      rw [← h1 j hj]
      congr 1
      by_cases h0 : i * 2 + j = 0
      · have e1 : i * 2 = 0 := by omega
        have e2 : j = 0 := by omega
        simp [Addr.add, e1, e2]
      · obtain ⟨t, ht⟩ : ∃ t, i * 2 + j = t + 1 := ⟨i * 2 + j - 1, by omega⟩
        rw [ht]
        simp [Addr.add]
        omega
    simp only [List.getElem_map, List.getElem_range]
    exact ⟨key 0 (by omega), key 1 (by omega)⟩
set_option maxRecDepth 100000 in
/-- An address that came in. -/
theorem open_key {v : Value} {d : DataW H} {p : List MemPlace} {r : Reach} {b0 : Nat} (hv : Value.okWide Tryd.prog W r b0 25 v) (h : DataW.Trod enc Tryd.prog W 0 (fun _ => true) true 25 v d p) : ∃ k : Nat, v = .int .u32 (k : Int) ∧ d = .lit (.int .u32 (k : Int)) ∧ p = [] := by
  obtain ⟨n, rfl, rfl, rfl, w⟩ := open_int Tryd.underlying25 hv h
  obtain ⟨k, rfl⟩ := u32_nat w
  exact ⟨k, rfl, rfl, rfl⟩
set_option maxRecDepth 100000 in
/-- A geometry that came in. -/
theorem open_geo {v : Value} {d : DataW H} {p : List MemPlace} {r : Reach} {b0 : Nat} (hv : Value.okWide Tryd.prog W r b0 23 v) (h : DataW.Trod enc Tryd.prog W 0 (fun _ => true) true 23 v d p) : ∃ z pg bk : Int, v = .agg #[.int .i64 z, .int .i64 pg, .int .i64 bk] := by
  obtain ⟨u0, u1, u2, y0, y1, y2, m, rfl, _, _, hy0, hy1, hy2⟩ := open_agg3 Tryd.underlying23 (by kernel_rfl) (by kernel_rfl) hv h
  obtain ⟨z, e0, _, _⟩ := DataW.trod_int Tryd.underlying3 hy0
  obtain ⟨p, e1, _, _⟩ := DataW.trod_int Tryd.underlying3 hy1
  obtain ⟨b, e2, _, _⟩ := DataW.trod_int Tryd.underlying3 hy2
  simp only [List.cons.injEq, and_true] at e0 e1 e2
  subst e0 e1 e2
  exact ⟨z, p, b, rfl⟩
end
end Go.Proofs.YtajccmkdfmpapaaDoor
