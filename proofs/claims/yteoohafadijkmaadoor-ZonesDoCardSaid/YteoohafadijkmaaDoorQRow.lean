/-
  A row of numbers of a call's own that is cut at its head and appended to at its end (row = row[1:]; row = append(row, x)). For whatever program.
-/
import Derived.Test.YteoohafadijkmaaDoorCel
import Derived.Test.YteoohafadijkmaaDoorRowK
import Derived.Test.YteoohafadijkmaaDoorCutR
import Derived.Deep.AppendSrc
namespace Go.Proofs.YteoohafadijkmaaDoor
open Go.RowKit

/-- The slice A, n, c is a row of the call's own that holds xs. -/
structure QRow (w : World) (base : Nat) (A : Option Addr) (n c : Nat) (xs : List Int) : Prop where
  len : xs.length = n
  le : n ≤ c
  max : c ≤ maxLen
  nil : A = none → c = 0
  blk : ∀ ad, A = some ad → ∃ g o cur, ad = ⟨g, o, none⟩ ∧ base ≤ g ∧ w.heap[g]? = some (.cells cur 3 (0, 0)) ∧ o + c ≤ cur.size ∧ (cur.toList.drop o).take n = iCells xs
/-- Its block. -/
def inQ (A : Option Addr) (g : Nat) : Prop := ∃ o, A = some ⟨g, o, none⟩
section
variable {w w' : World} {base n c : Nat} {A : Option Addr} {xs : List Int}
theorem QRow.of_own (h : OwnK w base 3 1 (.slice A n c) n (iCells xs)) (hl : xs.length = n) : QRow w base A n c xs := by
  refine ⟨hl, ?_, ?_, ?_, ?_⟩
  · obtain ⟨A', c', e, h1, _, _⟩ := h.form
    injection e with e1 e2 e3
    omega
  · obtain ⟨A', c', e, _, h1, _⟩ := h.form
    injection e with e1 e2 e3
    omega
  · obtain ⟨A', c', e, _, _, h1⟩ := h.form
    injection e with e1 e2 e3
    subst e1 e3
    exact h1
  · rintro ad rfl
    rcases h.2 with ⟨e, _⟩ | ⟨g, cap, cur, hv, hb, hg, hc, hm, hs, ht⟩
    · cases e
    · injection hv with e1 e2 e3
      have e1 := Option.some.inj e1
      subst e1 e3
      exact ⟨g, 0, cur, rfl, hb, hg, by omega, by rw [List.drop_zero]; simpa using ht⟩
theorem QRow.lt (h : QRow w base A n c xs) : ∀ g, inQ A g → g < w.heap.size := by
  rintro g ⟨o, rfl⟩
  obtain ⟨g', o', cur, e, _, hg, _⟩ := h.blk _ rfl
  injection e with e1
  subst e1
  exact lt_of_block hg
theorem QRow.ge (h : QRow w base A n c xs) : ∀ g, inQ A g → base ≤ g := by
  rintro g ⟨o, rfl⟩
  obtain ⟨g', o', cur, e, hb, _⟩ := h.blk _ rfl
  injection e with e1
  subst e1
  exact hb
theorem QRow.keep {G : Nat → Prop} (h : QRow w base A n c xs) (hk : Kept G w w') (hn : ∀ g, inQ A g → ¬ G g) : QRow w' base A n c xs := by
  refine ⟨h.len, h.le, h.max, h.nil, fun ad e => ?_⟩
  obtain ⟨g, o, cur, e2, hb, hg, r⟩ := h.blk ad e
  exact ⟨g, o, cur, e2, hb, (hk.block g (lt_of_block hg) (hn g ⟨o, by rw [e, e2]⟩)).trans hg, r⟩
theorem QRow.up (h : QRow w base A n c xs) (hb : Below w.heap.size w w') : QRow w' base A n c xs := h.keep (G := fun _ => False) (Kept.of_below hb) (fun _ _ => id)
theorem QRow.rd (h : QRow w base A n c xs) : RdV w w.heap.size A (iCells xs) := by
  intro hp
  rw [iCells_len, h.len] at hp
  cases hA : A with
  | none =>
    have := h.nil hA
    have := h.le
    omega
  | some ad =>
    obtain ⟨g, o, cur, rfl, _, hg, hs, ht⟩ := h.blk ad hA
    refine ⟨g, o, rfl, lt_of_block hg, fun i hi => ?_⟩
    have hu : (iCells xs)[i]? = some (iCells xs)[i] := List.getElem?_eq_getElem hi
    have hi2 : i < n := by rw [iCells_len, h.len] at hi; exact hi
    generalize (iCells xs)[i] = u at hu ⊢
    rw [← ht, List.getElem?_take_of_lt hi2, List.getElem?_drop, Array.getElem?_toList] at hu
    rw [cell_of_row w g (o + i) cur 3 (0, 0) hg, hu]
/-- Cut at its head. -/
theorem QRow.cut {x : Int} (he : Tryd.prog.underlying 43 = some (.slice (Tryd.prog.elem 43))) (hz : ∀ W : World, (sizeOf (Tryd.prog.elem 43)).run Tryd.prog W = .ok 1 W) (h : QRow w base A n c (x :: xs)) :
    ∃ A' m c', n = m + 1 ∧ CutIs 43 (.slice A n c) (some (.int .i64 1)) none (.slice A' m c') ∧ QRow w base A' m c' xs ∧ ∀ g, inQ A' g → inQ A g := by
  have hl := h.len
  rw [List.length_cons] at hl
  have hle := h.le
  obtain ⟨m, rfl⟩ : ∃ m, n = m + 1 := ⟨n - 1, by omega⟩
  have h2 : ∀ W : World, (Instr.slice 43 (.slice A (m + 1) c) (some (.int .i64 1)) none none).run Tryd.prog W = .ok (sliced A 1 (m + 1) c 1) W := fun W => by
    rw [run_slice_l (P := Tryd.prog) (w := W) (t := 43) (a := A) (len := m + 1) (cap := c) (ht := he) (kl := .i64) (l := 1) (by omega) (by omega), hz]
    rfl
  have hcut : ∀ v, sliced A 1 (m + 1) c 1 = v → CutIs 43 (.slice A (m + 1) c) (some (.int .i64 1)) none v := fun v e => by
    subst e
    exact ⟨fun W => by rw [run_sliceAt_slice (h := he)]; exact h2 W, h2⟩
  cases hA : A with
  | none =>
    have := h.nil hA
    omega
  | some ad =>
    subst hA
    obtain ⟨g, o, cur, rfl, hb, hg, hs, ht⟩ := h.blk ad rfl
    by_cases h1 : c = 1
    · subst h1
      obtain rfl : m = 0 := by omega
      have hx : xs = [] := List.eq_nil_of_length_eq_zero (by omega)
      subst hx
      exact ⟨some ⟨g, o, none⟩, 0, 0, rfl, hcut _ (by simp [sliced]), ⟨rfl, Nat.le_refl _, Nat.zero_le _, fun e => (by cases e), fun ad e => ⟨g, o, cur, (Option.some.inj e).symm, hb, hg, by omega, by simp [iCells]⟩⟩, fun g' h => h⟩
    · refine ⟨some ⟨g, o + 1, none⟩, m, c - 1, rfl, hcut _ (by simp [sliced, Addr.add, h1]), ⟨by omega, by omega, by have := h.max; omega, fun e => (by cases e), fun ad e => ⟨g, o + 1, cur, (Option.some.inj e).symm, hb, hg, by omega, ?_⟩⟩, ?_⟩
      · have e3 : cur.toList.drop (o + 1) = (cur.toList.drop o).drop 1 := by rw [List.drop_drop]
        have e4 := congrArg (List.drop 1) ht
        rw [List.drop_take, Nat.add_sub_cancel] at e4
        rw [e3, e4]
        rfl
      · rintro g' ⟨o', e⟩
        have e := Option.some.inj e
        injection e with e1
        subst e1
        exact ⟨o, rfl⟩
end
/-- append of one number onto it. -/
theorem run_appQ {w : World} {base n c b : Nat} {A : Option Addr} {xs : List Int} (ty : TypeId) (y : Int) (c0 : Nat) (h : QRow w base A n c xs) (hr : RdV w w.heap.size (some ⟨b, 0, none⟩) [.int .i64 y]) (hlen : n ≤ 100000) (hbase : base ≤ w.heap.size) :
    ∃ A' c' w', (Builtin.append_ #[43, 43] ty #[.slice A n c, .slice (some ⟨b, 0, none⟩) 1 c0]).run Tryd.prog w = .ok (.slice A' (n + 1) c') w' ∧ QRow w' base A' (n + 1) c' (xs ++ [y]) ∧ Kept (inQ A) w w' ∧ (∀ g, inQ A' g → inQ A g ∨ g = w.heap.size) := by
  obtain ⟨i0, hi, hz0, hz1, hz2⟩ := info_parts intInfo
  have hsrc : Src Tryd.prog i0.size 43 (.slice (some ⟨b, 0, none⟩) 1 c0) 1 [.int .i64 y] w := Src.ofSlice w Tryd.underlying43 ⟨b, 0, none⟩ 1 c0 [.int .i64 y] (by rw [hz1]; rfl) (srcK hr rfl) (fun u hu => by simp only [List.mem_cons, List.not_mem_nil, or_false] at hu; rcases hu with rfl; rfl)
  have hle := h.le
  have hmx := h.max
  by_cases hfit : n + 1 ≤ c
  · cases hA : A with
    | none =>
      have := h.nil hA
      omega
    | some ad =>
      subst hA
      obtain ⟨g, o, cur, rfl, hb, hg, hs, ht⟩ := h.blk ad rfl
      have hcell : (w.cell? ⟨g, o + n, none⟩).isSome = true := by
        rw [cell_of_row w g (o + n) cur 3 (0, 0) hg, Array.getElem?_eq_getElem (by omega)]
        rfl
      have hrun := run_append_room_src (P := Tryd.prog) w 43 43 ty 3 i0 Tryd.underlying43 hi g o n c (.slice (some ⟨b, 0, none⟩) 1 c0) 1 [.int .i64 y] hsrc hfit
        (fun j hj => by
          rw [hz1, Nat.mul_one]
          simp only [List.length_cons, List.length_nil] at hj
          obtain rfl : j = 0 := by omega
          exact hcell)
        (fun j hj => frozen_of_row w g _ cur 3 hg)
      rw [hz1, Nat.mul_one] at hrun
      have hk : Kept (inQ (some ⟨g, o, none⟩)) w (w.setCell ⟨g, o + n, none⟩ (.int .i64 y)) := (kept_put w g (o + n) (.int .i64 y)).mono (fun k _ e => by subst e; exact ⟨o, rfl⟩)
      refine ⟨some ⟨g, o, none⟩, c, w.setCell ⟨g, o + n, none⟩ (.int .i64 y), hrun, ⟨by rw [List.length_append, h.len]; rfl, hfit, hmx, fun e => (by cases e), fun ad e => ⟨g, o, cur.setIfInBounds (o + n) (.int .i64 y), (Option.some.inj e).symm, hb, heap_setCell_same w g (o + n) cur 3 _ hg, by simpa using hs, ?_⟩⟩, hk, fun g' h' => .inl h'⟩
      have hsz : cur.size = cur.toList.length := by simp
      rw [Array.toList_setIfInBounds]
      apply List.ext_getElem?
      intro j
      have hcs : (iCells (xs ++ [y])) = iCells xs ++ [.int .i64 y] := by simp [iCells]
      rw [hcs]
      by_cases hj : j < n
      · rw [List.getElem?_take_of_lt (by omega), List.getElem?_drop, List.getElem?_set_ne (by omega), List.getElem?_append_left (by rw [iCells_len, h.len]; exact hj), ← ht, List.getElem?_take_of_lt hj, List.getElem?_drop]
      · by_cases hj2 : j = n
        · subst hj2
          rw [List.getElem?_take_of_lt (by omega), List.getElem?_drop, List.getElem?_set_self (by omega), List.getElem?_append_right (by rw [iCells_len, h.len]; exact Nat.le_refl _), iCells_len, h.len, Nat.sub_self]
          rfl
        · rw [List.getElem?_eq_none (by simp; omega), List.getElem?_eq_none (by simp [iCells_len, h.len]; omega)]
  · obtain rfl : c = n := by omega
    have hold : (Builtin.firstCells i0.size c (.slice A c c)).run Tryd.prog w.drew = .ok (iCells xs).toArray w.drew := by
      cases hA : A with
      | none =>
        have hc0 := h.nil hA
        subst hc0
        have hx : xs = [] := List.eq_nil_of_length_eq_zero h.len
        subst hx
        exact run_firstCells_none w.drew i0.size 0 0 0
      | some ad =>
        refine run_firstCells_some w.drew i0.size c ad c c (iCells xs) (by rw [iCells_len, h.len, hz1, Nat.mul_one]) (fun j u hj => ?_)
        have hd : RdV w.drew w.drew.heap.size A (iCells xs) := h.rd.up (Below.refl _ _).drew
        rw [hA] at hd
        exact srcK hd rfl j u hj
    have hrun := run_append_grow_src (P := Tryd.prog) w 43 43 ty 3 i0 (.int .i64 0) Tryd.underlying43 hi hz0 A c c (iCells xs) hold (.slice (some ⟨b, 0, none⟩) 1 c0) 1 [.int .i64 y] hsrc (by omega) (by omega) (growslice_fits (by omega) (by rw [hz2]; omega))
    have hge := grownCap_ge w (c + 1) c 3
    have hcm := grownCap_le_maxLen w (c + 1) c 3 (by unfold maxLen; omega)
    obtain ⟨cc, hcc⟩ : ∃ cc, grownCap w (c + 1) c 3 = cc := ⟨_, rfl⟩
    rw [hcc] at hrun hge hcm
    have hil : (iCells xs).length = c := by rw [iCells_len, h.len]
    refine ⟨some ⟨w.heap.size, 0, none⟩, cc, _, hrun, ⟨by rw [List.length_append, h.len]; rfl, hge, hcm, fun e => (by cases e), fun ad e => ⟨w.heap.size, 0, _, (Option.some.inj e).symm, hbase, heap_alloc_new w.drew _, ?_, ?_⟩⟩, ?_, ?_⟩
    · rw [Array.size_append, List.size_toArray, size_zeroCells, List.length_append, hil]
      show 0 + cc ≤ c + 1 + (cc - (c + 1)) * 1
      omega
    · rw [List.drop_zero, Array.toList_append, List.take_append_of_le_length (by simp [hil])]
      have e2 : (iCells xs ++ [Value.int .i64 y]).length = c + 1 := by rw [List.length_append, hil]; rfl
      show (iCells xs ++ [Value.int .i64 y]).take (c + 1) = _
      rw [List.take_of_length_le (by omega)]
      simp [iCells]
    · exact (Kept.of_below (F := inQ A) (Below.refl _ _).drew).alloc _
    · rintro g' ⟨o', e⟩
      have e := Option.some.inj e
      injection e with e1
      exact .inr e1.symm
theorem appQ (w : World) {ops : Array Oper} {rest : List Oper} {o : Oper} {a : Act} {Q : Exit → Act → World → Prop} (hgd : o.guard = none) (s x : Operand) (ho : o.op = .call { callee := .builtin .append, args := #[s, x], argTypes := #[43, 43] })
    (base n c c0 b : Nat) (A : Option Addr) (xs : List Int) (y : Int) (hs : a.eval s = .slice A n c) (h : QRow w base A n c xs) (hx : a.eval x = .slice (some ⟨b, 0, none⟩) 1 c0) (hr : RdV w w.heap.size (some ⟨b, 0, none⟩) [.int .i64 y]) (hlen : n ≤ 100000) (hbase : base ≤ w.heap.size)
    (hK : ∀ A' c' w', QRow w' base A' (n + 1) c' (xs ++ [y]) → Kept (inQ A) w w' → (∀ g, inQ A' g → inQ A g ∨ g = w.heap.size) → wpList Tryd.prog ops Q rest (a.put o.dst (.slice A' (n + 1) c')) w') : wpList Tryd.prog ops Q (o :: rest) a w := by
  refine wpList_plain hgd fun K hK' => ?_
  obtain ⟨A', c', w', hrun, h1, h2, h3⟩ := run_appQ o.type y c0 h hr hlen hbase
  unfold Oper.wp
  simp [execOp, ho, resolve, invoke, builtin, hs, hx, hrun, Result.andThen]
  exact hK' _ _ (hK A' c' w' h1 h2 h3)
end Go.Proofs.YteoohafadijkmaaDoor
