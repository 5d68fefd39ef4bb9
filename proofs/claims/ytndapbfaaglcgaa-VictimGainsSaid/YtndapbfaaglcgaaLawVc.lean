/-
  Zones, and numbers, that came in, opened.
-/
import Derived.Test.YtndapbfaaglcgaaVcA
import Derived.Test.YtndapbfaaglcgaaLawPost
import Derived.Deep.Slices
import Derived.ChangeSlices
import Derived.OpenShut
import Derived.Lib.SmallJoins
namespace Go.Proofs.Ytndapbfaaglcgaa
open Go.ChangeShapes Go.WideShapes Go.RowKit Go.Joins Go.Deep

theorem u32_nat {n : Int} (h : (Lit.int .u32 n).wf = true) : ∃ k : Nat, n = (k : Int) ∧ k < 4294967296 := by
  simp only [Lit.wf, Bool.and_eq_true, decide_eq_true_eq] at h
  obtain ⟨k, rfl⟩ := Int.eq_ofNat_of_zero_le h.1
  have h2 : ((k : Nat) : Int) ≤ 4294967295 := h.2
  exact ⟨k, rfl, by omega⟩
theorem list3 {α : Type} {xs : List α} (h : xs.length = 3) : ∃ a b c, xs = [a, b, c] := by
  match xs, h with
  | [a, b, c], _ => exact ⟨a, b, c, rfl⟩
section
variable {H : Type} {enc : TypeId × Value → H} {W : World}
theorem ix_choose {α : Type} [Inhabited α] {n : Nat} {p : Nat → α → Prop} (h : ∀ i, i < n → ∃ y, p i y) : ∃ f : Nat → α, ∀ i, i < n → p i (f i) :=
  ⟨fun i => if hi : i < n then (h i hi).choose else default, fun i hi => by simpa [hi] using (h i hi).choose_spec⟩
/-- Five arguments. -/
theorem trodAll_five {t t1 t2 t3 t4 : TypeId} {args : Array Value} {ds : List (DataW H)} {ps : List MemPlace} (h : DataW.TrodAll enc Try.prog W 0 (fun _ => true) true [t, t1, t2, t3, t4] args.toList ds ps) :
    ∃ v v1 v2 v3 v4 d d1 d2 d3 d4 p p1 p2 p3 p4, args = #[v, v1, v2, v3, v4] ∧ ds = [d, d1, d2, d3, d4] ∧ ps = p ++ (p1 ++ p2 ++ p3 ++ p4) ∧ DataW.Trod enc Try.prog W 0 (fun _ => true) true t v d p ∧ DataW.Trod enc Try.prog W 0 (fun _ => true) true t1 v1 d1 p1 ∧ DataW.Trod enc Try.prog W 0 (fun _ => true) true t2 v2 d2 p2 ∧ DataW.Trod enc Try.prog W 0 (fun _ => true) true t3 v3 d3 p3 ∧ DataW.Trod enc Try.prog W 0 (fun _ => true) true t4 v4 d4 p4 := by
  obtain ⟨v, vs, d, ds', p, q, ha, rfl, rfl, hd, hr⟩ := trodAll_cons h
  obtain ⟨v1, v2, v3, v4, d1, d2, d3, d4, p1, p2, p3, p4, ha2, rfl, rfl, h1, h2, h3, h4⟩ := trodAll_four (args := vs.toArray) (by simpa using hr)
  refine ⟨v, v1, v2, v3, v4, d, d1, d2, d3, d4, p, p1, p2, p3, p4, ?_, rfl, rfl, hd, h1, h2, h3, h4⟩
  have e : vs = [v1, v2, v3, v4] := by simpa using congrArg Array.toList ha2
  subst e
  cases args
  simp_all
set_option maxRecDepth 100000 in
/-- A zone's cells. -/
theorem open_zone {n : Nat} {cs : List Value} {x : DataW H × List MemPlace} (hn : cs.length = 3) (h : DataW.trod enc Try.prog W 0 (fun _ => true) true n 38 cs = some x) :
    ∃ y : VZ, cs = zC y ∧ y.age < 4294967296 := by
  have hs := Try.underlying38
  have hI : Try.prog.cellsOf 3 = 1 := by kernel_rfl
  have hU : Try.prog.cellsOf 36 = 1 := by kernel_rfl
  obtain ⟨c0, c1, c2, rfl⟩ := list3 hn
  obtain ⟨xs, m, _, _, _, hxl, hfld⟩ := DataW.trod_struct hs h
  obtain ⟨y0, y1, y2, rfl⟩ := list3 hxl
  have f0 : DataW.trod enc Try.prog W 0 (fun _ => true) true m 3 ((([c0, c1, c2] : List Value).drop 0).take (Try.prog.cellsOf 3)) = some y0 := hfld 0 _ rfl
  have f1 : DataW.trod enc Try.prog W 0 (fun _ => true) true m 3 ((([c0, c1, c2] : List Value).drop 1).take (Try.prog.cellsOf 3)) = some y1 := hfld 1 _ rfl
  have f2 : DataW.trod enc Try.prog W 0 (fun _ => true) true m 36 ((([c0, c1, c2] : List Value).drop 2).take (Try.prog.cellsOf 36)) = some y2 := hfld 2 _ rfl
  simp only [hI, hU, List.drop_zero, List.drop_succ_cons, List.take_succ_cons, List.take_zero] at f0 f1 f2
  obtain ⟨a, e0, rfl, w0⟩ := DataW.trod_int Try.underlying3 f0
  obtain ⟨b, e1, rfl, w1⟩ := DataW.trod_int Try.underlying3 f1
  obtain ⟨c, e2, rfl, w2⟩ := DataW.trod_int Try.underlying36 f2
  simp only [List.cons.injEq, and_true] at e0 e1 e2
  subst e0 e1 e2
  obtain ⟨k, rfl, hk⟩ := u32_nat w2
  exact ⟨⟨a, b, k⟩, rfl, hk⟩
set_option maxRecDepth 100000 in
/-- Zones that came in. -/
theorem open_zones {v : Value} {d : DataW H} {p : List MemPlace} {r : Reach} {b0 : Nat} (hv : Value.okWide Try.prog W r b0 22 v) (h : DataW.Trod enc Try.prog W 0 (fun _ => true) true 22 v d p) :
    ∃ (A : Option Addr) (c : Nat) (l : List VZ), v = .slice A l.length c ∧ l.length ≤ c ∧ (A = none → c = 0) ∧ RdV W W.heap.size A (zsC l) ∧ AgeOk l := by
  obtain ⟨A0, len0, cap0, rfl⟩ := okWide_slice Try.underlying22 hv
  have hC : Try.prog.cellsOf 38 = 3 := by kernel_rfl
  obtain ⟨fuel, hf⟩ := h
  rcases open_slice Try.underlying22 hf with ⟨hc, _⟩ | ⟨a, len, cap, m, k, D, Pl, hc, _, hl, _, hm, _, hall⟩
  · simp only [Value.cells, List.cons.injEq, and_true] at hc
    rw [hc]
    exact ⟨none, 0, [], rfl, by simp, fun _ => rfl, RdV.nil, fun z hz => by cases hz⟩
  · simp only [Value.cells, List.cons.injEq, and_true] at hc
    simp only [if_true] at hm
    rw [hC] at hall
    have : Inhabited VZ := ⟨⟨0, 0, 0⟩⟩
    obtain ⟨f, hf⟩ := ix_choose (α := VZ) (n := len) (p := fun i y => (∀ j, j < 3 → W.cell? (a.add (i * 3 + j)) = (zC y)[j]?) ∧ y.age < 4294967296) (fun i hi => by
      obtain ⟨cs', h1, h2⟩ := hall i (by omega)
      obtain ⟨_, hl3, hcl⟩ := World.cells?_some h1
      obtain ⟨y, e, hag⟩ := open_zone hl3 h2
      refine ⟨y, fun j hj => ?_, hag⟩
      have := hcl j hj
      rw [e] at this
      rw [← this]
      congr 1
      obtain ⟨b, o, s⟩ := a
      rcases j with _ | j
      · rcases i with _ | i <;> simp [Addr.add]
      · rcases i with _ | i <;> simp [Addr.add, Nat.add_assoc])
    refine ⟨some a, cap, (List.range len).map f, by simpa using hc, by simpa using hl, fun e => (by cases e), fun hn => ?_, fun z hz => ?_⟩
    · rw [zsC_len] at hn
      simp at hn
      obtain ⟨b, o, spot⟩ := a
      have h00 := (hf 0 hn).1 0 (by omega)
      have hspot : spot = none := by simpa [Addr.add] using World.cell?_spot h00
      subst hspot
      have hb : b < W.heap.size := by simpa [Addr.add] using World.block_lt_of_cell? W _ h00
      refine ⟨b, o, rfl, hb, fun q hq => ?_⟩
      have hq2 : q < len * 3 := by rw [zsC_len] at hq; simpa using hq
      obtain ⟨i, j, hi, hj, rfl⟩ : ∃ i j, i < len ∧ j < 3 ∧ q = i * 3 + j := ⟨q / 3, q % 3, by omega, by omega, by omega⟩
      have h1 := (hf i hi).1 j hj
      have h2 : (zsC ((List.range len).map f))[i * 3 + j]? = (zC (f i))[j]? := by
        have := fk_get zC 3 (fun _ => rfl) ((List.range len).map f) i j (by simpa using hi) hj
        unfold zsC
        simpa using this
      rw [List.getElem?_eq_getElem hq] at h2
      rw [h2, ← h1]
      congr 1
      by_cases h0 : i * 3 + j = 0
      · simp [Addr.add, h0]
      · obtain ⟨t, ht⟩ : ∃ t, i * 3 + j = t + 1 := ⟨i * 3 + j - 1, by omega⟩
        rw [ht]
        simp [Addr.add]
    · rw [List.mem_map] at hz
      obtain ⟨i, hi, rfl⟩ := hz
      exact (hf i (by simpa using hi)).2
/-- Numbers that came in. -/
theorem open_nums {v : Value} {d : DataW H} {p : List MemPlace} {r : Reach} {b0 : Nat} (hv : Value.okWide Try.prog W r b0 29 v) (h : DataW.Trod enc Try.prog W 0 (fun _ => true) true 29 v d p) :
    ∃ (A : Option Addr) (c : Nat) (l : List Int), v = .slice A l.length c ∧ RdV W W.heap.size A (iCells l) := by
  obtain ⟨A, len0, cap0, rfl⟩ := okWide_slice Try.underlying29 hv
  obtain ⟨fuel, hf⟩ := h
  rcases open_ints Try.underlying29 Try.underlying3 (by kernel_rfl) hf with ⟨hc, _⟩ | ⟨a, len, cap, zs, hc, _, hl, _, hz, _, hall, hwf⟩
  · simp only [Value.cells, List.cons.injEq, and_true] at hc
    injection hc with h1 h2 h3
    subst h1 h2 h3
    exact ⟨none, 0, [], rfl, RdV.nil⟩
  · simp only [Value.cells, List.cons.injEq, and_true] at hc
    injection hc with h1 h2 h3
    subst h1 h2 h3
    simp only [if_true] at hz
    have hlen : (zs.take len0).length = len0 := by simp; omega
    refine ⟨some a, cap0, zs.take len0, by rw [hlen], fun hn => ?_⟩
    rw [iCells_len, hlen] at hn
    obtain ⟨b, o, spot⟩ := a
    have hspot : spot = none := by simpa [Addr.add] using World.cell?_spot (hall 0 (by omega))
    subst hspot
    refine ⟨b, o, rfl, World.block_lt_of_cell? W ⟨b, o, none⟩ (by simpa [Addr.add] using hall 0 (by omega)), fun i hi => ?_⟩
    rw [iCells_len, hlen] at hi
    have h1 := hall i (by omega)
    simp only [iCells, List.getElem_map, List.getElem_take]
    rw [List.getD_eq_getElem?_getD, List.getElem?_eq_getElem (by omega), Option.getD_some] at h1
    rcases i with _ | i
    · simpa [Addr.add] using h1
    · simpa [Addr.add] using h1
end
end Go.Proofs.Ytndapbfaaglcgaa
