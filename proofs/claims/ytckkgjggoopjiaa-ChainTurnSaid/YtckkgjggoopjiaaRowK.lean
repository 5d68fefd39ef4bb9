/-
  Rows of a call's own whose elements are several cells: what they hold, what keeps them, append onto them. For whatever program.
-/
import Derived.Test.YtckkgjggoopjiaaCelB
namespace Go.Proofs.Ytckkgjggoopjiaa
open Go.RowKit

theorem fk_len {α : Type} (f : α → List Value) (k : Nat) (hk : ∀ a, (f a).length = k) : ∀ L : List α, (L.flatMap f).length = L.length * k
  | [] => by simp
  | a :: L => by rw [List.flatMap_cons, List.length_append, hk, fk_len f k hk L, List.length_cons, Nat.add_mul]; omega
theorem fk_get {α : Type} (f : α → List Value) (k : Nat) (hk : ∀ a, (f a).length = k) : ∀ (L : List α) (i j : Nat) (h : i < L.length), j < k → (L.flatMap f)[i * k + j]? = (f L[i])[j]?
  | [], i, j, h, _ => by simp at h
  | a :: L, 0, j, _, hj => by
    rw [List.flatMap_cons, List.getElem?_append_left (by rw [hk]; omega)]
    simp
  | a :: L, i + 1, j, h, hj => by
    rw [List.flatMap_cons, List.getElem?_append_right (by rw [hk, Nat.add_mul]; omega), hk, show (i + 1) * k + j - k = i * k + j by rw [Nat.add_mul]; omega]
    exact fk_get f k hk L i j (by simpa using h) hj
/-- A row of a call's own, nil if there is nothing: n elements of k cells. -/
def OwnK (w : World) (base : Nat) (T : TypeId) (k : Nat) (v : Value) (n : Nat) (cs : List Value) : Prop := w.ownsRow base T k v n cs
section
variable {w w' : World} {base base' k n : Nat} {T : TypeId} {v : Value} {cs : List Value}
theorem OwnK.up (h : OwnK w base T k v n cs) (hb : Below w.heap.size w w') : OwnK w' base T k v n cs :=
  ⟨h.1, h.2.imp id fun ⟨g', c', cur, hv, hg, hc, r⟩ => ⟨g', c', cur, hv, hg, (hb.block g' (lt_of_block hc)).trans hc, r⟩⟩
theorem OwnK.le (h : OwnK w base T k v n cs) (hb : base' ≤ base) : OwnK w base' T k v n cs :=
  ⟨h.1, h.2.imp id fun ⟨g', c', cur, hv, hg, r⟩ => ⟨g', c', cur, hv, Nat.le_trans hb hg, r⟩⟩
theorem OwnK.keep {G : Nat → Prop} (h : OwnK w base T k v n cs) (hk : Kept G w w') (hn : ∀ g, base ≤ g → ¬ G g) : OwnK w' base T k v n cs :=
  ⟨h.1, h.2.imp id fun ⟨g', c', cur, hv, hb, hc, r⟩ => ⟨g', c', cur, hv, hb, (hk.block g' (lt_of_block hc) (hn g' hb)).trans hc, r⟩⟩
theorem OwnK.own (h : OwnK w base T k v n cs) : ∀ j, v.ownBlock = some j → base ≤ j := by
  rcases h.2 with ⟨rfl, _⟩ | ⟨g, cap, cur, rfl, hb, hg, _⟩
  · intro j hj
    cases hj
  · intro j hj
    simp [Value.ownBlock] at hj
    subst hj
    exact hb
theorem OwnK.form (h : OwnK w base T k v n cs) : ∃ A c, v = .slice A n c ∧ n ≤ c ∧ c ≤ maxLen ∧ (A = none → c = 0) := by
  rcases h.2 with ⟨rfl, rfl⟩ | ⟨g, cap, cur, rfl, _, _, h1, h2, _⟩
  · exact ⟨_, _, rfl, Nat.le_refl _, Nat.zero_le _, fun _ => rfl⟩
  · exact ⟨_, _, rfl, h1, h2, fun e => by cases e⟩
theorem OwnK.rd {A : Option Addr} {c : Nat} (h : OwnK w base T k (.slice A n c) n cs) : RdV w w.heap.size A cs := by
  intro hp
  rcases h.2 with ⟨_, h0⟩ | ⟨g, cap, cur, hv, hb, hg, hc, _, hs, ht⟩
  · have := h.1
    rw [h0, Nat.zero_mul] at this
    omega
  · injection hv with h1
    refine ⟨g, 0, h1, lt_of_block hg, fun i hi => ?_⟩
    have hu : cs[i]? = some cs[i] := List.getElem?_eq_getElem hi
    generalize cs[i] = u at hu ⊢
    rw [← ht, List.getElem?_take] at hu
    split at hu
    · rw [Nat.zero_add, cell_of_row w g i cur T (0, 0) hg]
      rw [Array.getElem?_toList] at hu
      exact hu
    · cases hu
theorem OwnK.new (w : World) (base : Nat) (T : TypeId) (k n : Nat) (cs : List Value) (hb : base ≤ w.heap.size) (hl : cs.length = n * k) (hn : n ≤ 100000) : OwnK (w.alloc (.cells cs.toArray T)) base T k (.slice (some ⟨w.heap.size, 0, none⟩) n n) n cs :=
  ⟨hl, .inr ⟨w.heap.size, n, cs.toArray, rfl, hb, heap_alloc_new w _, Nat.le_refl _, by unfold maxLen; omega, by simp [hl], by simp [← hl]⟩⟩
theorem OwnK.nil (w : World) (base : Nat) (T : TypeId) (k : Nat) : OwnK w base T k (.slice none 0 0) 0 [] := ⟨by simp, .inl ⟨rfl, rfl⟩⟩
end
theorem srcK {w : World} {A : Option Addr} {ad : Addr} {xs : List Value} (h : RdV w w.heap.size A xs) (hA : A = some ad) : ∀ j u, xs[j]? = some u → w.cell? (ad.add j) = some u := by
  intro j u hj
  obtain ⟨hjl, rfl⟩ := List.getElem?_eq_some_iff.1 hj
  obtain ⟨b', o', hA', _, hc⟩ := h (by omega)
  rw [hA] at hA'
  obtain rfl := Option.some.inj hA'
  have := hc j hjl
  rcases j with _ | j
  · simpa [Addr.add] using this
  · simpa [Addr.add] using this
theorem wp_appP (w : World) {o : Oper} {a : Act} {K : Act → World → Prop} {Q : Exit → Act → World → Prop} (s x : Operand) (Ts T : TypeId) (z : Value) (k nb : Nat) (ho : o.op = .call { callee := .builtin .append, args := #[s, x], argTypes := #[Ts, Ts] })
    (hu : Try.prog.underlying Ts = some (.slice T)) (hinfo : (Try.prog.info? T).map (fun i => (i.zero, i.size, i.bytes)) = some (some z, k, nb)) (hzs : z.cells.size = k) (hk : 0 < k) (hnb : nb ≤ 1000)
    (base n m c : Nat) (v : Value) (ys xs : List Value) (A : Option Addr) (hs : a.eval s = v) (hown : OwnK w base T k v n ys) (hx : a.eval x = .slice A m c) (hm : xs.length = m * k) (hr : RdV w w.heap.size A xs) (hA : A = none → c = 0) (h1 : ∀ u ∈ xs, u.oneCell' = true)
    (hlen : n + m ≤ 1000000) (hbase : base ≤ w.heap.size)
    (h : ∀ v' w', OwnK w' base T k v' (n + m) (ys ++ xs) → w.grownBy w' v.ownBlock → K (a.put o.dst v') w') : o.wp Try.prog a w K Q := by
  obtain ⟨i0, hi, hz0, hz1, hz2⟩ := info_parts hinfo
  have hby : (n + m) * nb ≤ 140737488355328 := Nat.le_trans (Nat.mul_le_mul hlen hnb) (by decide)
  cases A with
  | none =>
    have h0 : xs = [] := by
      rcases Nat.eq_zero_or_pos xs.length with h0 | h0
      · exact List.eq_nil_of_length_eq_zero h0
      · obtain ⟨b, o', hA', _⟩ := hr h0
        cases hA'
    subst h0
    have hm0 : m = 0 := by
      rcases Nat.eq_zero_or_pos m with h0 | h0
      · exact h0
      · have := Nat.mul_pos h0 hk
        simp at hm
        omega
    subst hm0
    obtain rfl := hA rfl
    have hrun := run_append_owned_none (P := Try.prog) (w := w) base Ts o.type T i0 k hu hi v n ys (by rw [← hz1] at hown ⊢; exact hown)
    unfold Oper.wp
    simp only [execOp, ho, resolve, invoke, builtin, hs, hx, hrun, Sem.run_bind, Sem.run_pure, Result.andThen_ok, List.map_toArray, List.map_cons, List.map_nil]
    exact h v w (by rw [List.append_nil]; exact hown) (World.grownBy.refl w _)
  | some ad =>
    exact wp_append_own w s x Ts ho base T i0 z k nb hu hi hz0 hz1 hz2 hzs hk v n ys hs hown ad m c xs hx hm (srcK hr rfl) h1 (by unfold maxLen; omega) hby hbase fun v' w' h2 h3 _ => h v' w' h2 h3
theorem stepP (w : World) {ops : Array Oper} {o : Oper} {a : Act} {K : Act → World → Prop} {Q : Exit → Act → World → Prop} {E : Prop} (hgd : o.guard = none) (s x : Operand) (Ts T : TypeId) (z : Value) (k nb : Nat) (ho : o.op = .call { callee := .builtin .append, args := #[s, x], argTypes := #[Ts, Ts] })
    (hu : Try.prog.underlying Ts = some (.slice T)) (hinfo : (Try.prog.info? T).map (fun i => (i.zero, i.size, i.bytes)) = some (some z, k, nb)) (hzs : z.cells.size = k) (hk : 0 < k) (hnb : nb ≤ 1000)
    (base n m c : Nat) (v : Value) (ys xs : List Value) (A : Option Addr) (hs : a.eval s = v) (hown : OwnK w base T k v n ys) (hx : a.eval x = .slice A m c) (hm : xs.length = m * k) (hr : RdV w w.heap.size A xs) (hA : A = none → c = 0) (h1 : ∀ u ∈ xs, u.oneCell' = true)
    (hlen : n + m ≤ 1000000) (hbase : base ≤ w.heap.size)
    (h : ∀ v' w', OwnK w' base T k v' (n + m) (ys ++ xs) → w.grownBy w' v.ownBlock → K (a.put o.dst v') w') : if Region.wanted o (yielded ops a.tmps) = true then Oper.wp Try.prog o a w K Q else E := by
  have hw : Region.wanted o (yielded ops a.tmps) = true := by simp [Region.wanted, hgd]
  rw [if_pos hw]
  exact wp_appP w s x Ts T z k nb ho hu hinfo hzs hk hnb base n m c v ys xs A hs hown hx hm hr hA h1 hlen hbase h
theorem appP (w : World) {ops : Array Oper} {rest : List Oper} {o : Oper} {a : Act} {Q : Exit → Act → World → Prop} (hgd : o.guard = none) (s x : Operand) (Ts T : TypeId) (z : Value) (k nb : Nat) (ho : o.op = .call { callee := .builtin .append, args := #[s, x], argTypes := #[Ts, Ts] })
    (hu : Try.prog.underlying Ts = some (.slice T)) (hinfo : (Try.prog.info? T).map (fun i => (i.zero, i.size, i.bytes)) = some (some z, k, nb)) (hzs : z.cells.size = k) (hk : 0 < k) (hnb : nb ≤ 1000)
    (base n m c : Nat) (v : Value) (ys xs : List Value) (A : Option Addr) (hs : a.eval s = v) (hown : OwnK w base T k v n ys) (hx : a.eval x = .slice A m c) (hm : xs.length = m * k) (hr : RdV w w.heap.size A xs) (hA : A = none → c = 0) (h1 : ∀ u ∈ xs, u.oneCell' = true)
    (hlen : n + m ≤ 1000000) (hbase : base ≤ w.heap.size)
    (h : ∀ v' w', OwnK w' base T k v' (n + m) (ys ++ xs) → w.grownBy w' v.ownBlock → wpList Try.prog ops Q rest (a.put o.dst v') w') : wpList Try.prog ops Q (o :: rest) a w :=
  wpList_plain hgd fun _ hK => wp_appP w s x Ts T z k nb ho hu hinfo hzs hk hnb base n m c v ys xs A hs hown hx hm hr hA h1 hlen hbase fun v' w' h2 h3 => hK _ _ (h v' w' h2 h3)
end Go.Proofs.Ytckkgjggoopjiaa
