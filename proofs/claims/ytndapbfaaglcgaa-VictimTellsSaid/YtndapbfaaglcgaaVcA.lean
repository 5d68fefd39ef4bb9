/-
  Zones in memory, as rows of three cells; the document's ahead, Right.
-/
import Derived.Test.YtndapbfaaglcgaaVcMath
import Derived.Test.YtndapbfaaglcgaaRowK
import Derived.Test.YtndapbfaaglcgaaCel
import Derived.IntWalk
import Derived.Laws.BitsAllLaws
import Derived.Laws.Bits64
namespace Go.Proofs.Ytndapbfaaglcgaa
open Go.RowKit

theorem OwnK.set {w : World} {base k n c g i : Nat} {T : TypeId} {cs : List Value} (h : OwnK w base T k (.slice (some ⟨g, 0, none⟩) n c) n cs) (u : Value) : OwnK (w.setCell ⟨g, i, none⟩ u) base T k (.slice (some ⟨g, 0, none⟩) n c) n (cs.set i u) := by
  refine ⟨by rw [List.length_set]; exact h.1, ?_⟩
  rcases h.2 with ⟨e, _⟩ | ⟨g', cap, cur, hv, hb, hg, hc, hm, hs, ht⟩
  · cases e
  · injection hv with e1 e2 e3
    have e1 := Option.some.inj e1
    injection e1 with e1
    subst e1
    refine .inr ⟨g, cap, cur.setIfInBounds i u, by rw [e3], hb, heap_setCell_same w g i cur T u hg, hc, hm, by simp [hs], ?_⟩
    rw [Array.toList_setIfInBounds, List.take_set, ht]
theorem OwnK.free {w : World} {base k n c g : Nat} {T : TypeId} {cs : List Value} (h : OwnK w base T k (.slice (some ⟨g, 0, none⟩) n c) n cs) (i : Nat) : w.frozen? ⟨g, i, none⟩ = false := by
  rcases h.2 with ⟨e, _⟩ | ⟨g', cap, cur, hv, hb, hg, hc, hm, hs, ht⟩
  · cases e
  · injection hv with e1
    have e1 := Option.some.inj e1
    injection e1 with e1
    subst e1
    exact frozen_of_row w g i cur T hg
theorem OwnK.off {w : World} {base k n c b o : Nat} {T : TypeId} {cs : List Value} (h : OwnK w base T k (.slice (some ⟨b, o, none⟩) n c) n cs) : o = 0 := by
  rcases h.2 with ⟨e, _⟩ | ⟨g, cap, cur, hv, _⟩
  · cases e
  · injection hv with e1
    have e1 := Option.some.inj e1
    injection e1
theorem OwnK.blockLt {w : World} {base k n : Nat} {T : TypeId} {v : Value} {cs : List Value} (h : OwnK w base T k v n cs) : ∀ j, v.ownBlock = some j → j < w.heap.size := by
  rcases h.2 with ⟨rfl, _⟩ | ⟨g, cap, cur, rfl, hb, hg, _⟩
  · intro j hj
    cases hj
  · intro j hj
    simp [Value.ownBlock] at hj
    subst hj
    exact lt_of_block hg
/-- A row laid in a new block. -/
theorem new_rd (w : World) (T : TypeId) (cs : List Value) : RdV (w.alloc (.cells cs.toArray T)) (w.alloc (.cells cs.toArray T)).heap.size (some ⟨w.heap.size, 0, none⟩) cs := fun _ => ⟨w.heap.size, 0, rfl, by simp, fun i hi => by rw [Nat.zero_add]; exact Blk.cell (T := T) (heap_alloc_new w _) i hi⟩

/-- A zone's cells, as a value. -/
def zC (z : VZ) : List Value := [.int .i64 z.id, .int .i64 z.v, .int .u32 (z.age : Int)]
def zV (z : VZ) : Value := .agg #[.int .i64 z.id, .int .i64 z.v, .int .u32 (z.age : Int)]
def zsC (L : List VZ) : List Value := L.flatMap zC
theorem zsC_len (L : List VZ) : (zsC L).length = L.length * 3 := fk_len zC 3 (fun _ => rfl) L
theorem zsC_at {L : List VZ} {i : Nat} (h : i < L.length) : (zsC L)[i * 3]? = some (.int .i64 L[i].id) ∧ (zsC L)[i * 3 + 1]? = some (.int .i64 L[i].v) ∧ (zsC L)[i * 3 + 2]? = some (.int .u32 (L[i].age : Int)) := ⟨fk_get zC 3 (fun _ => rfl) L i 0 h (by omega), fk_get zC 3 (fun _ => rfl) L i 1 h (by omega), fk_get zC 3 (fun _ => rfl) L i 2 h (by omega)⟩
theorem zsC_one (L : List VZ) : ∀ u ∈ zsC L, u.oneCell' = true := by
  intro u hu
  obtain ⟨e, _, he⟩ := List.mem_flatMap.1 hu
  simp only [zC, List.mem_cons, List.not_mem_nil, or_false] at he
  rcases he with rfl | rfl | rfl <;> rfl
theorem zsC_app (A B : List VZ) : zsC (A ++ B) = zsC A ++ zsC B := by simp [zsC]
theorem zsC_take (L : List VZ) (k : Nat) : (zsC L).take (k * 3) = zsC (L.take k) := by
  induction L generalizing k with
  | nil => simp [zsC]
  | cons z L ih =>
    cases k with
    | zero => simp [zsC]
    | succ k =>
      rw [List.take_succ_cons, show (k + 1) * 3 = k * 3 + 1 + 1 + 1 by omega]
      show (zC z ++ zsC L).take (k * 3 + 1 + 1 + 1) = zC z ++ zsC (L.take k)
      rw [← ih k]
      rfl
theorem zsC_drop (L : List VZ) (k : Nat) : (zsC L).drop (k * 3) = zsC (L.drop k) := by
  induction L generalizing k with
  | nil => simp [zsC]
  | cons z L ih =>
    cases k with
    | zero => simp [zsC]
    | succ k =>
      rw [List.drop_succ_cons, show (k + 1) * 3 = k * 3 + 1 + 1 + 1 by omega]
      show (zC z ++ zsC L).drop (k * 3 + 1 + 1 + 1) = zsC (L.drop k)
      rw [← ih k]
      rfl
theorem z_cells {w : World} {b o : Nat} {L : List VZ} (h : ∀ i (h : i < (zsC L).length), w.cell? ⟨b, o + i, none⟩ = some (zsC L)[i]) (k : Nat) (hk : k < L.length) : w.cell? ⟨b, o + k * 3, none⟩ = some (.int .i64 L[k].id) ∧ w.cell? ⟨b, o + k * 3 + 1, none⟩ = some (.int .i64 L[k].v) ∧ w.cell? ⟨b, o + k * 3 + 2, none⟩ = some (.int .u32 (L[k].age : Int)) := by
  obtain ⟨h0, h1, h2⟩ := zsC_at hk
  obtain ⟨l0, e0⟩ := List.getElem?_eq_some_iff.1 h0
  obtain ⟨l1, e1⟩ := List.getElem?_eq_some_iff.1 h1
  obtain ⟨l2, e2⟩ := List.getElem?_eq_some_iff.1 h2
  rw [h _ l0, e0, Nat.add_assoc, h _ l1, e1, Nat.add_assoc, h _ l2, e2]
  exact ⟨rfl, rfl, rfl⟩
theorem ryInfo : (Try.prog.info? 42).map (fun i => (i.zero, i.size, i.bytes)) = some (some (.agg #[.int .i64 0, .int .i64 0, .int .u32 0]), 3, 24) := by kernel_rfl
theorem vzInfo : (Try.prog.info? 38).map (fun i => (i.zero, i.size, i.bytes)) = some (some (.agg #[.int .i64 0, .int .i64 0, .int .u32 0]), 3, 24) := by kernel_rfl
/-- Ages are numbers of 32 bits. -/
def AgeOk (L : List VZ) : Prop := ∀ z ∈ L, z.age < 4294967296
/-- A row of zones, of numbers, of the call's own. -/
def ZsIs (T : TypeId) (l : List VZ) (w : World) (r : Ending) (w' : World) : Prop := ∃ v, r = .returned v ∧ OwnK w' w.heap.size T 3 v l.length (zsC l) ∧ Below w.heap.size w w'
def IdsIs (l : List Int) (w : World) (r : Ending) (w' : World) : Prop := ∃ v, r = .returned v ∧ OwnK w' w.heap.size 3 1 v l.length (iCells l) ∧ Below w.heap.size w w'

theorem wrap_in {x : Int} (h : 0 ≤ x) (h2 : x < 18446744073709551616) : IntKind.u64.wrap x = x := by
  rw [IntKind.wrap_u64]
  exact Int.emod_eq_of_lt h h2
theorem prods {p va vb : Int} {na : Nat} (hp : p ≤ 16) (h1 : 0 ≤ va) (h2 : va ≤ p) (h3 : 0 ≤ vb) (h4 : vb ≤ p) (hn : na < 4294967296) :
    IntKind.u64.wrap ((na : Int) + 1) = (na : Int) + 1 ∧ IntKind.i64.wrap (p - va) = p - va ∧ IntKind.u64.wrap (p - va) = p - va ∧ IntKind.u64.wrap (((na : Int) + 1) * (p - va)) = ((na : Int) + 1) * (p - va) ∧ IntKind.i64.wrap (vb + 1) = vb + 1 ∧ IntKind.u64.wrap (vb + 1) = vb + 1 ∧ IntKind.u64.wrap (((na : Int) + 1) * (p - va) * (vb + 1)) = ((na : Int) + 1) * (p - va) * (vb + 1) := by
  have b1 : 0 ≤ ((na : Int) + 1) * (p - va) := Int.mul_nonneg (by omega) (by omega)
  have b2 : ((na : Int) + 1) * (p - va) ≤ 4294967296 * 16 := by
    have h5 : ((na : Int) + 1) * (p - va) ≤ ((na : Int) + 1) * 16 := Int.mul_le_mul_of_nonneg_left (by omega) (by omega)
    omega
  have b3 : 0 ≤ ((na : Int) + 1) * (p - va) * (vb + 1) := Int.mul_nonneg b1 (by omega)
  have b4 : ((na : Int) + 1) * (p - va) * (vb + 1) ≤ 4294967296 * 16 * 17 := by
    have h5 : ((na : Int) + 1) * (p - va) * (vb + 1) ≤ ((na : Int) + 1) * (p - va) * 17 := Int.mul_le_mul_of_nonneg_left (by omega) b1
    omega
  exact ⟨wrap_in (by omega) (by omega), IntWalk.i64_in _ (by omega), wrap_in (by omega) (by omega), wrap_in b1 (by omega), IntWalk.i64_in _ (by omega), wrap_in (by omega) (by omega), wrap_in b3 (by omega)⟩
set_option maxHeartbeats 1000000 in
set_option maxRecDepth 100000 in
theorem ryahead_at (pol p : Int) (a b : VZ) (w : World) (hp1 : 1 ≤ p) (hp : p ≤ 16) (h1 : 0 ≤ a.v) (h2 : a.v ≤ p) (h3 : 0 ≤ b.v) (h4 : b.v ≤ p) (hna : a.age < 4294967296) (hnb : b.age < 4294967296) : Calls Try.prog 21 #[.int .i64 pol, .int .i64 p, zV a, zV b] w (BoolB (VZ.ahead pol p a b) w) := by
  obtain ⟨e1, e2, e3, e4, e5, e6, e7⟩ := prods hp h1 h2 h3 h4 hna
  obtain ⟨f1, f2, f3, f4, f5, f6, f7⟩ := prods hp h3 h4 h1 h2 hnb
  have HB : Hid (Below w.heap.size w ((w.alloc (.cells #[.int .i64 a.id, .int .i64 a.v, .int .u32 (a.age : Int)] 42)).alloc (.cells #[.int .i64 b.id, .int .i64 b.v, .int .u32 (b.age : Int)] 42))) := Lib.hid (((Below.refl _ _).alloc (Nat.le_refl _) _).alloc (by simp) _)
  have HE := Lib.hid (show VZ.ahead pol p a b = if pol = 0 then (if a.v = b.v then decide (a.id < b.id) else decide (a.v < b.v)) else (if ((a.age : Int) + 1) * (p - a.v) * (b.v + 1) = ((b.age : Int) + 1) * (p - b.v) * (a.v + 1) then decide (a.id < b.id) else decide (((b.age : Int) + 1) * (p - b.v) * (a.v + 1) < ((a.age : Int) + 1) * (p - a.v) * (b.v + 1))) from rfl)
  unfold zV
  generalize VZ.ahead pol p a b = ah at *
  generalize a.id = ia at *
  generalize b.id = ib at *
  generalize a.age = na at *
  generalize b.age = nb at *
  generalize a.v = va at *
  generalize b.v = vb at *
  obtain ⟨x1, hx1⟩ : ∃ x, ((na : Int) + 1) * (p - va) = x := ⟨_, rfl⟩
  obtain ⟨y1, hy1⟩ : ∃ x, ((nb : Int) + 1) * (p - vb) = x := ⟨_, rfl⟩
  rw [hx1] at e4 e7 HE
  rw [hy1] at f4 f7 HE
  obtain ⟨x2, hx2⟩ : ∃ x, x1 * (vb + 1) = x := ⟨_, rfl⟩
  obtain ⟨y2, hy2⟩ : ∃ x, y1 * (va + 1) = x := ⟨_, rfl⟩
  rw [hx2] at e7 HE
  rw [hy2] at f7 HE
  have g4 : IntKind.u64.wrap (((na : Int) + 1) * (p - va)) = x1 := by rw [hx1]; exact e4
  have k4 : IntKind.u64.wrap (((nb : Int) + 1) * (p - vb)) = y1 := by rw [hy1]; exact f4
  have g7 : IntKind.u64.wrap (x1 * (vb + 1)) = x2 := by rw [hx2]; exact e7
  have k7 : IntKind.u64.wrap (y1 * (va + 1)) = y2 := by rw [hy2]; exact f7
  clear e4 f4 e7 f7 hx1 hy1 hx2 hy2
  by_cases h0 : pol = 0
  · have q0 : (pol == 0) = true := by simpa using h0
    have q0' : (pol != 0) = false := by simp [h0]
    by_cases hv : va = vb
    · have HE2 : Hid (ah = decide (ia < ib)) := Lib.hid (by rw [HE.out, if_pos h0, if_pos hv])
      have q1 : (va != vb) = false := by simp [hv]
      clear h0 hv HE
      go_enter Try.func21, Try.ntmps21
      go_wp2_with fail
      go_ret
      exact ⟨ret_bool HE2.out.symm, HB.out⟩
    · have HE2 : Hid (ah = decide (va < vb)) := Lib.hid (by rw [HE.out, if_pos h0, if_neg hv])
      have q1 : (va != vb) = true := by simpa using hv
      clear h0 hv HE
      go_enter Try.func21, Try.ntmps21
      go_wp2_with fail
      go_ret
      exact ⟨ret_bool HE2.out.symm, HB.out⟩
  · have q0 : (pol == 0) = false := by simpa using h0
    have q0' : (pol != 0) = true := by simpa using h0
    by_cases hv : x2 = y2
    · have HE2 : Hid (ah = decide (ia < ib)) := Lib.hid (by rw [HE.out, if_neg h0, if_pos hv])
      have q1 : (x2 != y2) = false := by simp [hv]
      clear h0 hv HE
      go_enter Try.func21, Try.ntmps21
      go_wp2_with fail
      go_ret
      exact ⟨ret_bool HE2.out.symm, HB.out⟩
    · have HE2 : Hid (ah = decide (y2 < x2)) := Lib.hid (by rw [HE.out, if_neg h0, if_neg hv])
      have q1 : (x2 != y2) = true := by simpa using hv
      clear h0 hv HE
      go_enter Try.func21, Try.ntmps21
      go_wp2_with fail
      go_ret
      exact ⟨ret_bool HE2.out.symm, HB.out⟩
end Go.Proofs.Ytndapbfaaglcgaa
