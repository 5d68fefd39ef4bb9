/-
  Rows whose elements are several cells; what was written, as rows in memory.
-/
import Derived.Test.YtljpkngbhdplbaaDoorZsA
namespace Go.Proofs.YtljpkngbhdplbaaDoor
open Go.RowKit

theorem flatK_len {α : Type} (f : α → List Value) (k : Nat) (hk : ∀ a, (f a).length = k) : ∀ L : List α, (L.flatMap f).length = L.length * k
  | [] => by simp
  | a :: L => by rw [List.flatMap_cons, List.length_append, hk, flatK_len f k hk L, List.length_cons, Nat.add_mul]; omega
theorem flatK_get {α : Type} (f : α → List Value) (k : Nat) (hk : ∀ a, (f a).length = k) : ∀ (L : List α) (i j : Nat) (h : i < L.length), j < k → (L.flatMap f)[i * k + j]? = (f L[i])[j]?
  | [], i, j, h, _ => by simp at h
  | a :: L, 0, j, _, hj => by
    rw [List.flatMap_cons, List.getElem?_append_left (by rw [hk]; omega)]
    simp
  | a :: L, i + 1, j, h, hj => by
    rw [List.flatMap_cons, List.getElem?_append_right (by rw [hk, Nat.add_mul]; omega), hk, show (i + 1) * k + j - k = i * k + j by rw [Nat.add_mul]; omega]
    exact flatK_get f k hk L i j (by simpa using h) hj
theorem owns_rise {w w' : World} {base k n : Nat} {T : TypeId} {v : Value} {cs : List Value} (h : w.ownsRow base T k v n cs) (hb : Below w.heap.size w w') : w'.ownsRow base T k v n cs :=
  ⟨h.1, h.2.imp id fun ⟨g', c', cur, hv, hg, hc, r⟩ => ⟨g', c', cur, hv, hg, (hb.block g' (lt_of_block hc)).trans hc, r⟩⟩
theorem owns_keep {G : Nat → Prop} {w w' : World} {base k n : Nat} {T : TypeId} {v : Value} {cs : List Value} (h : w.ownsRow base T k v n cs) (hk : Kept G w w') (hn : ∀ g, v.ownBlock = some g → ¬ G g) : w'.ownsRow base T k v n cs :=
  ⟨h.1, h.2.imp id fun ⟨g', c', cur, hv, hb, hc, r⟩ => ⟨g', c', cur, hv, hb, (hk.block g' (lt_of_block hc) (hn g' (by rw [hv]; rfl))).trans hc, r⟩⟩
theorem owns_own {w : World} {base k n : Nat} {T : TypeId} {v : Value} {cs : List Value} (h : w.ownsRow base T k v n cs) : ∀ j, v.ownBlock = some j → base ≤ j ∧ j < w.heap.size := by
  rcases h.2 with ⟨rfl, _⟩ | ⟨g, cap, cur, rfl, hb, hg, _⟩
  · intro j hj
    cases hj
  · intro j hj
    simp [Value.ownBlock] at hj
    subst hj
    exact ⟨hb, lt_of_block hg⟩
theorem owns_form {w : World} {base k n : Nat} {T : TypeId} {v : Value} {cs : List Value} (h : w.ownsRow base T k v n cs) : ∃ A c, v = .slice A n c := by
  rcases h.2 with ⟨rfl, rfl⟩ | ⟨g, cap, cur, rfl, _⟩
  · exact ⟨_, _, rfl⟩
  · exact ⟨_, _, rfl⟩
theorem owns_cells {w : World} {base k n : Nat} {T : TypeId} {v : Value} {cs : List Value} (h : w.ownsRow base T k v n cs) (hn : 0 < n) : ∃ g cap, v = .slice (some ⟨g, 0, none⟩) n cap ∧ base ≤ g ∧ g < w.heap.size ∧ ∀ j u, cs[j]? = some u → w.cell? ⟨g, j, none⟩ = some u := by
  rcases h.2 with ⟨rfl, h0⟩ | ⟨g, cap, cur, rfl, hb, hg, hc, _, hs, ht⟩
  · omega
  · refine ⟨g, cap, rfl, hb, lt_of_block hg, fun j u hu => ?_⟩
    rw [← ht, List.getElem?_take] at hu
    split at hu
    · rw [cell_of_row w g j cur T (0, 0) hg]
      rw [Array.getElem?_toList] at hu
      exact hu
    · cases hu
theorem owns_one {w : World} {base : Nat} {T : TypeId} {v : Value} {cs : List Value} (h : w.ownsRow base T 1 v cs.length cs) : RowV w base T v cs := h
theorem owns_new (w : World) (base : Nat) (T : TypeId) (k : Nat) (hb : base ≤ w.heap.size) : (w.alloc (.cells #[] T)).ownsRow base T k (.slice (some ⟨w.heap.size, 0, none⟩) 0 0) 0 [] :=
  ⟨by simp, .inr ⟨w.heap.size, 0, #[], rfl, hb, heap_alloc_new w _, Nat.le_refl _, Nat.zero_le _, by simp, by simp⟩⟩
theorem owns_nil (w : World) (base : Nat) (T : TypeId) (k : Nat) : w.ownsRow base T k (.slice none 0 0) 0 [] := ⟨by simp, .inl ⟨rfl, rfl⟩⟩

theorem wp_appK (w : World) {o : Oper} {a : Act} {K : Act → World → Prop} {Q : Exit → Act → World → Prop} (s x : Operand) (Ts T : TypeId) (z : Value) (k nb : Nat) (ho : o.op = .call { callee := .builtin .append, args := #[s, x], argTypes := #[Ts, Ts] })
    (hu : Tryd.prog.underlying Ts = some (.slice T)) (hinfo : (Tryd.prog.info? T).map (fun i => (i.zero, i.size, i.bytes)) = some (some z, k, nb)) (hzs : z.cells.size = k) (hk : 0 < k) (hnb : nb ≤ 1000)
    (base n m c : Nat) (v : Value) (ys xs : List Value) (A : Option Addr) (hs : a.eval s = v) (hown : w.ownsRow base T k v n ys) (hx : a.eval x = .slice A m c) (hm : xs.length = m * k) (hr : RdV w w.heap.size A xs) (hA : A = none → c = 0) (h1 : ∀ u ∈ xs, u.oneCell' = true)
    (hlen : n + m ≤ 1000000) (hbase : base ≤ w.heap.size)
    (h : ∀ v' w', w'.ownsRow base T k v' (n + m) (ys ++ xs) → w.grownBy w' v.ownBlock → K (a.put o.dst v') w') : o.wp Tryd.prog a w K Q := by
  obtain ⟨i0, hi, hz0, hz1, hz2⟩ := info_parts hinfo
  have hby : (n + m) * nb ≤ 140737488355328 := Nat.le_trans (Nat.mul_le_mul hlen hnb) (by decide)
  cases A with
  | none =>
    have h0 : xs = [] := by
      rcases Nat.eq_zero_or_pos xs.length with h0 | h0
      · exact List.eq_nil_of_length_eq_zero h0
      · obtain ⟨b, o', hA', _⟩ := hr h0
        cases hA'
    subst h0
    have hm0 : m = 0 := by
      rcases Nat.eq_zero_or_pos m with h0 | h0
      · exact h0
      · have := Nat.mul_pos h0 hk
        simp at hm
        omega
    subst hm0
    obtain rfl := hA rfl
    have hrun := run_append_owned_none (P := Tryd.prog) (w := w) base Ts o.type T i0 k hu hi v n ys (by rw [← hz1] at hown ⊢; exact hown)
    unfold Oper.wp
    simp only [execOp, ho, resolve, invoke, builtin, hs, hx, hrun, Sem.run_bind, Sem.run_pure, Result.andThen_ok, List.map_toArray, List.map_cons, List.map_nil]
    exact h v w (by rw [List.append_nil]; exact hown) (World.grownBy.refl w _)
  | some ad =>
    exact wp_append_own w s x Ts ho base T i0 z k nb hu hi hz0 hz1 hz2 hzs hk v n ys hs hown ad m c xs hx hm (src_of hr rfl) h1 (by unfold maxLen; omega) hby hbase fun v' w' h2 h3 _ => h v' w' h2 h3
theorem stepK (w : World) {ops : Array Oper} {o : Oper} {a : Act} {K : Act → World → Prop} {Q : Exit → Act → World → Prop} {E : Prop} (hgd : o.guard = none) (s x : Operand) (Ts T : TypeId) (z : Value) (k nb : Nat) (ho : o.op = .call { callee := .builtin .append, args := #[s, x], argTypes := #[Ts, Ts] })
    (hu : Tryd.prog.underlying Ts = some (.slice T)) (hinfo : (Tryd.prog.info? T).map (fun i => (i.zero, i.size, i.bytes)) = some (some z, k, nb)) (hzs : z.cells.size = k) (hk : 0 < k) (hnb : nb ≤ 1000)
    (base n m c : Nat) (v : Value) (ys xs : List Value) (A : Option Addr) (hs : a.eval s = v) (hown : w.ownsRow base T k v n ys) (hx : a.eval x = .slice A m c) (hm : xs.length = m * k) (hr : RdV w w.heap.size A xs) (hA : A = none → c = 0) (h1 : ∀ u ∈ xs, u.oneCell' = true)
    (hlen : n + m ≤ 1000000) (hbase : base ≤ w.heap.size)
    (h : ∀ v' w', w'.ownsRow base T k v' (n + m) (ys ++ xs) → w.grownBy w' v.ownBlock → K (a.put o.dst v') w') : if Region.wanted o (yielded ops a.tmps) = true then Oper.wp Tryd.prog o a w K Q else E := by
  have hw : Region.wanted o (yielded ops a.tmps) = true := by simp [Region.wanted, hgd]
  rw [if_pos hw]
  exact wp_appK w s x Ts T z k nb ho hu hinfo hzs hk hnb base n m c v ys xs A hs hown hx hm hr hA h1 hlen hbase h
theorem appK (w : World) {ops : Array Oper} {rest : List Oper} {o : Oper} {a : Act} {Q : Exit → Act → World → Prop} (hgd : o.guard = none) (s x : Operand) (Ts T : TypeId) (z : Value) (k nb : Nat) (ho : o.op = .call { callee := .builtin .append, args := #[s, x], argTypes := #[Ts, Ts] })
    (hu : Tryd.prog.underlying Ts = some (.slice T)) (hinfo : (Tryd.prog.info? T).map (fun i => (i.zero, i.size, i.bytes)) = some (some z, k, nb)) (hzs : z.cells.size = k) (hk : 0 < k) (hnb : nb ≤ 1000)
    (base n m c : Nat) (v : Value) (ys xs : List Value) (A : Option Addr) (hs : a.eval s = v) (hown : w.ownsRow base T k v n ys) (hx : a.eval x = .slice A m c) (hm : xs.length = m * k) (hr : RdV w w.heap.size A xs) (hA : A = none → c = 0) (h1 : ∀ u ∈ xs, u.oneCell' = true)
    (hlen : n + m ≤ 1000000) (hbase : base ≤ w.heap.size)
    (h : ∀ v' w', w'.ownsRow base T k v' (n + m) (ys ++ xs) → w.grownBy w' v.ownBlock → wpList Tryd.prog ops Q rest (a.put o.dst v') w') : wpList Tryd.prog ops Q (o :: rest) a w :=
  wpList_plain hgd fun _ hK => wp_appK w s x Ts T z k nb ho hu hinfo hzs hk hnb base n m c v ys xs A hs hown hx hm hr hA h1 hlen hbase fun v' w' h2 h3 => hK _ _ (h v' w' h2 h3)
theorem infoAct : (Tryd.prog.info? 39).map (fun i => (i.zero, i.size, i.bytes)) = some (some (.agg #[.int .i64 0, .int .i64 0, .int .i64 0, .slice none 0 0, .slice none 0 0, .slice none 0 0]), 6, 96) := by kernel_rfl
theorem infoWrit : (Tryd.prog.info? 55).map (fun i => (i.zero, i.size, i.bytes)) = some (some (.agg #[.int .i64 0, .int .i64 0, .slice none 0 0]), 3, 40) := by kernel_rfl
theorem intInfo : (Tryd.prog.info? 3).map (fun i => (i.zero, i.size, i.bytes)) = some (some (.int .i64 0), 1, 8) := by kernel_rfl
/-- A new row of zeros, as ints. -/
def zerosI (k : Nat) : Obj := .cells (madeCells (Value.int .i64 0).cells (k * 1)) 3
theorem make_ints (k : Nat) (hk : k ≤ 1000) (w : World) : (Instr.makeSlice 36 (.int .i64 (k : Int)) (.int .i64 (k : Int))).run Tryd.prog w = .ok (.slice (some ⟨w.heap.size, 0, none⟩) k k) (w.alloc (zerosI k)) := by
  obtain ⟨i0, hi, hz0, hz1, hz2⟩ := info_parts intInfo
  have := run_make (P := Tryd.prog) w 36 3 i0 (.int .i64 0) Tryd.underlying36 hi hz0 .i64 .i64 (k : Int) (k : Int) (by omega) (Int.le_refl _) (by rw [hz2]; omega) (by omega)
  rw [hz1] at this
  simpa [zerosI] using this
theorem zerosI_blk (k : Nat) (w : World) : Blk (w.alloc (zerosI k)) w.heap.size 3 (List.replicate k (.int .i64 0)) := by
  have h := heap_alloc_new w (zerosI k)
  have e : zerosI k = .cells (List.replicate k (Value.int .i64 0)).toArray 3 := by
    unfold zerosI
    congr 1
    refine Array.ext (by rw [size_madeCells]; simp) fun i h1 h2 => ?_
    simp [madeCells, Value.cells, Nat.mod_one]
  rw [e] at h ⊢
  exact h
/-- Acts as flat cells, with the values of their rows. -/
def fCells (q : ActS × Value × Value × Value) : List Value := actCells q.1 q.2.1 q.2.2.1 q.2.2.2
theorem fCells_len (q : ActS × Value × Value × Value) : (fCells q).length = 6 := rfl
theorem acts_flat {F : Nat → Prop} {w : World} {A : Option Addr} {l : List ActS} (h : ActsF F w A l) : ∃ L : List (ActS × Value × Value × Value), L.map (·.1) = l ∧ RdV w w.heap.size A (L.flatMap fCells) ∧ ∀ q ∈ L, ActF F w q.2.1 q.2.2.1 q.2.2.2 q.1 := by
  rcases Nat.eq_zero_or_pos l.length with h0 | hp
  · obtain rfl := List.eq_nil_of_length_eq_zero h0
    exact ⟨[], rfl, RdV.nil, fun q hq => by cases hq⟩
  · obtain ⟨b, o, rfl, hlt, _, hx⟩ := h hp
    have hx' : ∀ i : Fin l.length, ∃ t : Value × Value × Value, ActF F w t.1 t.2.1 t.2.2 l[i] ∧ w.cell? ⟨b, o + i * 6, none⟩ = some (.int .i64 l[i].Do) ∧ w.cell? ⟨b, o + i * 6 + 1, none⟩ = some (.int .i64 l[i].zone) ∧ w.cell? ⟨b, o + i * 6 + 2, none⟩ = some (.int .i64 l[i].page) ∧ w.cell? ⟨b, o + i * 6 + 3, none⟩ = some t.1 ∧ w.cell? ⟨b, o + i * 6 + 4, none⟩ = some t.2.1 ∧ w.cell? ⟨b, o + i * 6 + 5, none⟩ = some t.2.2 := fun i => by
      obtain ⟨vb, vk, vt, r⟩ := hx i i.2
      exact ⟨(vb, vk, vt), r⟩
    obtain ⟨t, ht⟩ := Classical.axiomOfChoice hx'
    refine ⟨List.ofFn fun i : Fin l.length => (l[i], (t i).1, (t i).2.1, (t i).2.2), ?_, fun _ => ⟨b, o, rfl, hlt, fun j hj => ?_⟩, fun q hq => ?_⟩
    · refine List.ext_getElem (by simp) fun i h1 h2 => by simp
    · have hlen := flatK_len fCells 6 fCells_len (List.ofFn fun i : Fin l.length => (l[i], (t i).1, (t i).2.1, (t i).2.2))
      rw [List.length_ofFn] at hlen
      have hi : j / 6 < l.length := by omega
      have hg := flatK_get fCells 6 fCells_len (List.ofFn fun i : Fin l.length => (l[i], (t i).1, (t i).2.1, (t i).2.2)) (j / 6) (j % 6) (by simpa using hi) (by omega)
      rw [show j / 6 * 6 + j % 6 = j by omega, List.getElem?_eq_getElem hj] at hg
      rw [hg]
      obtain ⟨_, c0, c1, c2, c3, c4, c5⟩ := ht ⟨j / 6, hi⟩
      rw [show o + j = o + (j / 6 * 6 + j % 6) by omega]
      simp only [List.getElem_ofFn, fCells, actCells]
      have hm : j % 6 < 6 := by omega
      generalize j % 6 = r at hm ⊢
      rcases (show r = 0 ∨ r = 1 ∨ r = 2 ∨ r = 3 ∨ r = 4 ∨ r = 5 by omega) with rfl | rfl | rfl | rfl | rfl | rfl
      · simpa using c0
      · simpa [Nat.add_assoc] using c1
      · simpa [Nat.add_assoc] using c2
      · simpa [Nat.add_assoc] using c3
      · simpa [Nat.add_assoc] using c4
      · simpa [Nat.add_assoc] using c5
    · obtain ⟨i, rfl⟩ := List.mem_ofFn.1 hq
      exact (ht i).1
theorem acts_of {F : Nat → Prop} {w : World} {g : Nat} {L : List (ActS × Value × Value × Value)} (hg : g < w.heap.size) (hF : F g) (hc : ∀ j u, (L.flatMap fCells)[j]? = some u → w.cell? ⟨g, j, none⟩ = some u) (hf : ∀ q ∈ L, ActF F w q.2.1 q.2.2.1 q.2.2.2 q.1) : ActsF F w (some ⟨g, 0, none⟩) (L.map (·.1)) := by
  intro _
  refine ⟨g, 0, rfl, hg, hF, fun i hi => ?_⟩
  have hi2 : i < L.length := by simpa using hi
  have c := fun j (hj : j < 6) => flatK_get fCells 6 fCells_len L i j hi2 hj
  rw [List.getElem_map]
  refine ⟨L[i].2.1, L[i].2.2.1, L[i].2.2.2, hf _ (List.getElem_mem _), ?_, ?_, ?_, ?_, ?_, ?_⟩
  · simpa using hc _ _ (c 0 (by omega))
  · simpa using hc _ _ (c 1 (by omega))
  · simpa using hc _ _ (c 2 (by omega))
  · simpa using hc _ _ (c 3 (by omega))
  · simpa using hc _ _ (c 4 (by omega))
  · simpa using hc _ _ (c 5 (by omega))
theorem fCells_one {F : Nat → Prop} {w : World} {L : List (ActS × Value × Value × Value)} (hf : ∀ q ∈ L, ActF F w q.2.1 q.2.2.1 q.2.2.2 q.1) : ∀ u ∈ L.flatMap fCells, u.oneCell' = true := by
  intro u hu
  obtain ⟨q, hq, hu⟩ := List.mem_flatMap.1 hu
  obtain ⟨_, _, _, _, _, _, e1, e2, e3⟩ := (hf q hq).form
  simp only [fCells, actCells, List.mem_cons, List.not_mem_nil, or_false] at hu
  rw [e1, e2, e3] at hu
  rcases hu with rfl | rfl | rfl | rfl | rfl | rfl <;> rfl
end Go.Proofs.YtljpkngbhdplbaaDoor
