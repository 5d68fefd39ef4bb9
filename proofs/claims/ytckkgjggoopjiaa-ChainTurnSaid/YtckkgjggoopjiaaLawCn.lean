/-
  Heads, and numbers of 32 bits, that came in, opened.
-/
import Derived.Test.YtckkgjggoopjiaaChA
import Derived.Test.YtckkgjggoopjiaaLawPost
import Derived.Deep.Slices
import Derived.ChangeSlices
import Derived.OpenShut
import Derived.Lib.SmallJoins
namespace Go.Proofs.Ytckkgjggoopjiaa
open Go.ChangeShapes Go.WideShapes Go.RowKit Go.Joins Go.Deep

theorem u32_nat {n : Int} (h : (Lit.int .u32 n).wf = true) : ∃ k : Nat, n = (k : Int) ∧ k < 4294967296 := by
  simp only [Lit.wf, Bool.and_eq_true, decide_eq_true_eq] at h
  obtain ⟨k, rfl⟩ := Int.eq_ofNat_of_zero_le h.1
  have h2 : ((k : Nat) : Int) ≤ 4294967295 := h.2
  exact ⟨k, rfl, by omega⟩
theorem list4 {α : Type} {xs : List α} (h : xs.length = 4) : ∃ a b c d, xs = [a, b, c, d] := by
  match xs, h with
  | [a, b, c, d], _ => exact ⟨a, b, c, d, rfl⟩
section
variable {H : Type} {enc : TypeId × Value → H} {W : World}
theorem ix_choose {α : Type} [Inhabited α] {n : Nat} {p : Nat → α → Prop} (h : ∀ i, i < n → ∃ y, p i y) : ∃ f : Nat → α, ∀ i, i < n → p i (f i) :=
  ⟨fun i => if hi : i < n then (h i hi).choose else default, fun i hi => by simpa [hi] using (h i hi).choose_spec⟩
/-- Five arguments. -/
theorem trodAll_five {t t1 t2 t3 t4 : TypeId} {args : Array Value} {ds : List (DataW H)} {ps : List MemPlace} (h : DataW.TrodAll enc Try.prog W 0 (fun _ => true) true [t, t1, t2, t3, t4] args.toList ds ps) :
    ∃ v v1 v2 v3 v4 d d1 d2 d3 d4 p p1 p2 p3 p4, args = #[v, v1, v2, v3, v4] ∧ ds = [d, d1, d2, d3, d4] ∧ ps = p ++ (p1 ++ p2 ++ p3 ++ p4) ∧ DataW.Trod enc Try.prog W 0 (fun _ => true) true t v d p ∧ DataW.Trod enc Try.prog W 0 (fun _ => true) true t1 v1 d1 p1 ∧ DataW.Trod enc Try.prog W 0 (fun _ => true) true t2 v2 d2 p2 ∧ DataW.Trod enc Try.prog W 0 (fun _ => true) true t3 v3 d3 p3 ∧ DataW.Trod enc Try.prog W 0 (fun _ => true) true t4 v4 d4 p4 := by
  obtain ⟨v, vs, d, ds', p, q, ha, rfl, rfl, hd, hr⟩ := trodAll_cons h
  obtain ⟨v1, v2, v3, v4, d1, d2, d3, d4, p1, p2, p3, p4, ha2, rfl, rfl, h1, h2, h3, h4⟩ := trodAll_four (args := vs.toArray) (by simpa using hr)
  refine ⟨v, v1, v2, v3, v4, d, d1, d2, d3, d4, p, p1, p2, p3, p4, ?_, rfl, rfl, hd, h1, h2, h3, h4⟩
  have e : vs = [v1, v2, v3, v4] := by simpa using congrArg Array.toList ha2
  subst e
  cases args
  simp_all
set_option maxRecDepth 100000 in
/-- A head's cells. -/
theorem open_head {n : Nat} {cs : List Value} {x : DataW H × List MemPlace} (hn : cs.length = 4) (h : DataW.trod enc Try.prog W 0 (fun _ => true) true n 34 cs = some x) :
    ∃ y : HdS, cs = hC y ∧ 0 ≤ y.q ∧ y.q < 4294967296 := by
  have hs := Try.underlying34
  have hI : Try.prog.cellsOf 5 = 1 := by kernel_rfl
  have hU : Try.prog.cellsOf 22 = 1 := by kernel_rfl
  obtain ⟨c0, c1, c2, c3, rfl⟩ := list4 hn
  obtain ⟨xs, m, _, _, _, hxl, hfld⟩ := DataW.trod_struct hs h
  obtain ⟨y0, y1, y2, y3, rfl⟩ := list4 hxl
  have f0 : DataW.trod enc Try.prog W 0 (fun _ => true) true m 5 ((([c0, c1, c2, c3] : List Value).drop 0).take (Try.prog.cellsOf 5)) = some y0 := hfld 0 _ rfl
  have f1 : DataW.trod enc Try.prog W 0 (fun _ => true) true m 22 ((([c0, c1, c2, c3] : List Value).drop 1).take (Try.prog.cellsOf 22)) = some y1 := hfld 1 _ rfl
  have f2 : DataW.trod enc Try.prog W 0 (fun _ => true) true m 22 ((([c0, c1, c2, c3] : List Value).drop 2).take (Try.prog.cellsOf 22)) = some y2 := hfld 2 _ rfl
  have f3 : DataW.trod enc Try.prog W 0 (fun _ => true) true m 22 ((([c0, c1, c2, c3] : List Value).drop 3).take (Try.prog.cellsOf 22)) = some y3 := hfld 3 _ rfl
  simp only [hI, hU, List.drop_zero, List.drop_succ_cons, List.take_succ_cons, List.take_zero] at f0 f1 f2 f3
  obtain ⟨a, e0, rfl, w0⟩ := DataW.trod_int Try.underlying5 f0
  obtain ⟨b, e1, rfl, w1⟩ := DataW.trod_int Try.underlying22 f1
  obtain ⟨c, e2, rfl, w2⟩ := DataW.trod_int Try.underlying22 f2
  obtain ⟨d, e3, rfl, w3⟩ := DataW.trod_int Try.underlying22 f3
  simp only [List.cons.injEq, and_true] at e0 e1 e2 e3
  subst e0 e1 e2 e3
  obtain ⟨k, rfl, hk⟩ := u32_nat w3
  exact ⟨⟨a, b, c, k⟩, rfl, by show (0 : Int) ≤ (k : Int); omega, by show (k : Int) < 4294967296; omega⟩
set_option maxRecDepth 100000 in
/-- Heads that came in. -/
theorem open_heads {v : Value} {d : DataW H} {p : List MemPlace} {r : Reach} {b0 : Nat} (hv : Value.okWide Try.prog W r b0 23 v) (h : DataW.Trod enc Try.prog W 0 (fun _ => true) true 23 v d p) :
    ∃ (A : Option Addr) (c : Nat) (l : List HdS), v = .slice A l.length c ∧ l.length ≤ c ∧ (A = none → c = 0) ∧ RdV W W.heap.size A (hsC l) ∧ SeqOk l := by
  obtain ⟨A0, len0, cap0, rfl⟩ := okWide_slice Try.underlying23 hv
  have hCo : Try.prog.cellsOf 34 = 4 := by kernel_rfl
  obtain ⟨fuel, hf⟩ := h
  rcases open_slice Try.underlying23 hf with ⟨hc, _⟩ | ⟨a, len, cap, m, k, D, Pl, hc, _, hl, _, hm, _, hall⟩
  · simp only [Value.cells, List.cons.injEq, and_true] at hc
    rw [hc]
    exact ⟨none, 0, [], rfl, by simp, fun _ => rfl, RdV.nil, fun z hz => by cases hz⟩
  · simp only [Value.cells, List.cons.injEq, and_true] at hc
    simp only [if_true] at hm
    rw [hCo] at hall
    have : Inhabited HdS := ⟨⟨0, 0, 0, 0⟩⟩
    obtain ⟨f, hf⟩ := ix_choose (α := HdS) (n := len) (p := fun i y => (∀ j, j < 4 → W.cell? (a.add (i * 4 + j)) = (hC y)[j]?) ∧ (0 ≤ y.q ∧ y.q < 4294967296)) (fun i hi => by
      obtain ⟨cs', h1, h2⟩ := hall i (by omega)
      obtain ⟨_, hl3, hcl⟩ := World.cells?_some h1
      obtain ⟨y, e, hag⟩ := open_head hl3 h2
      refine ⟨y, fun j hj => ?_, hag⟩
      have := hcl j hj
      rw [e] at this
      rw [← this]
      congr 1
      obtain ⟨b, o, s⟩ := a
      rcases j with _ | j
      · rcases i with _ | i <;> simp [Addr.add]
      · rcases i with _ | i <;> simp [Addr.add, Nat.add_assoc])
    refine ⟨some a, cap, (List.range len).map f, by simpa using hc, by simpa using hl, fun e => (by cases e), fun hn => ?_, fun z hz => ?_⟩
    · rw [hsC_len] at hn
      simp at hn
      obtain ⟨b, o, spot⟩ := a
      have h00 := (hf 0 hn).1 0 (by omega)
      have hspot : spot = none := by simpa [Addr.add] using World.cell?_spot h00
      subst hspot
      have hb : b < W.heap.size := by simpa [Addr.add] using World.block_lt_of_cell? W _ h00
      refine ⟨b, o, rfl, hb, fun q hq => ?_⟩
      have hq2 : q < len * 4 := by rw [hsC_len] at hq; simpa using hq
      obtain ⟨i, j, hi, hj, rfl⟩ : ∃ i j, i < len ∧ j < 4 ∧ q = i * 4 + j := ⟨q / 4, q % 4, by omega, by omega, by omega⟩
      have h1 := (hf i hi).1 j hj
      have h2 : (hsC ((List.range len).map f))[i * 4 + j]? = (hC (f i))[j]? := by
        have := fk_get hC 4 (fun _ => rfl) ((List.range len).map f) i j (by simpa using hi) hj
        unfold hsC
        simpa using this
      rw [List.getElem?_eq_getElem hq] at h2
      rw [h2, ← h1]
      congr 1
      by_cases h0 : i * 4 + j = 0
      · simp [Addr.add, h0]
      · obtain ⟨t, ht⟩ : ∃ t, i * 4 + j = t + 1 := ⟨i * 4 + j - 1, by omega⟩
        rw [ht]
        simp [Addr.add]
    · rw [List.mem_map] at hz
      obtain ⟨i, hi, rfl⟩ := hz
      exact (hf i (by simpa using hi)).2
set_option maxRecDepth 100000 in
/-- A number of 32 bits that came in. -/
theorem open_num {v : Value} {d : DataW H} {p : List MemPlace} {r : Reach} {b0 : Nat} (hv : Value.okWide Try.prog W r b0 22 v) (h : DataW.Trod enc Try.prog W 0 (fun _ => true) true 22 v d p) : ∃ k : Int, v = .int .u32 k ∧ d = .lit (.int .u32 k) ∧ p = [] ∧ 0 ≤ k ∧ k < 4294967296 := by
  obtain ⟨n, rfl, rfl, rfl, w⟩ := open_int Try.underlying22 hv h
  obtain ⟨k, rfl, hk⟩ := u32_nat w
  exact ⟨(k : Int), rfl, rfl, rfl, by omega, by omega⟩
end
end Go.Proofs.Ytckkgjggoopjiaa
