/-
  Rows of the call's own whose value is a letter; append onto them, something or nothing, as a step of a region, or by itself.
-/
import Derived.Test.YtljpkngbhdplbaaDoorZnsF
import Derived.Deep.RegionHeldLaw
import Derived.Deep.RegionLaw
namespace Go.Proofs.YtljpkngbhdplbaaDoor
open Go.RowKit

/-- The value v is the call's own row of cells vs of type T, one cell each; nil, where there are none. -/
def RowV (w : World) (base : Nat) (T : TypeId) (v : Value) (vs : List Value) : Prop := w.ownsRow base T 1 v vs.length vs
theorem RowV.new (w : World) (base : Nat) (T : TypeId) (hb : base ≤ w.heap.size) : RowV (w.alloc (.cells #[] T)) base T (.slice (some ⟨w.heap.size, 0, none⟩) 0 0) [] := OwnG.new w base T [] hb (by simp)
theorem RowV.rise {w w' : World} {base : Nat} {T : TypeId} {v : Value} {vs : List Value} (h : RowV w base T v vs) (hb : Below w.heap.size w w') : RowV w' base T v vs :=
  ⟨h.1, h.2.imp id fun ⟨g', c', cur, hv, hg, hc, r⟩ => ⟨g', c', cur, hv, hg, (hb.block g' (lt_of_block hc)).trans hc, r⟩⟩
theorem RowV.kept {w w' : World} {base : Nat} {T : TypeId} {v : Value} {vs : List Value} {row : Option Nat} (h : RowV w base T v vs) (hg : w.grownBy w' row) (hne : ∀ g, v.ownBlock = some g → some g ≠ row) : RowV w' base T v vs :=
  ⟨h.1, h.2.imp id fun ⟨g', c', cur, hv, hb, hc, r⟩ => ⟨g', c', cur, hv, hb, (hg.block g' (lt_of_block hc) (hne g' (by rw [hv]; rfl))).trans hc, r⟩⟩
theorem RowV.own {w : World} {base : Nat} {T : TypeId} {v : Value} {vs : List Value} (h : RowV w base T v vs) : ∀ j, v.ownBlock = some j → base ≤ j ∧ j < w.heap.size := by
  rcases h.2 with ⟨rfl, _⟩ | ⟨g, cap, cur, rfl, hb, hg, _⟩
  · intro j hj
    cases hj
  · intro j hj
    simp [Value.ownBlock] at hj
    subst hj
    exact ⟨hb, lt_of_block hg⟩
theorem RowV.out {w : World} {base : Nat} {T : TypeId} {v : Value} {vs : List Value} (h : RowV w base T v vs) : ∃ A c, v = .slice A vs.length c ∧ vs.length ≤ c ∧ RdV w w.heap.size A vs ∧ (A = none → c = 0) ∧ (∀ b o x, A = some ⟨b, o, x⟩ → base ≤ b ∧ b < w.heap.size) := by
  rcases h.2 with ⟨rfl, h0⟩ | ⟨g, cap, cur, rfl, hb, hg, hn, hm, hs, ht⟩
  · have e : vs = [] := List.eq_nil_of_length_eq_zero h0
    subst e
    exact ⟨none, 0, rfl, by simp, RdV.nil, fun _ => rfl, fun _ _ _ e => by cases e⟩
  · have hO : OwnG w base T g cap vs := h
    exact ⟨_, cap, rfl, hn, hO.rdV, fun e => (by cases e), fun b o x e => by have e := Option.some.inj e; injection e with e; subst e; exact ⟨hb, lt_of_block hg⟩⟩
theorem RowV.form {w : World} {base : Nat} {T : TypeId} {v : Value} {vs : List Value} (h : RowV w base T v vs) (hp : 0 < vs.length) : ∃ g cap, v = .slice (some ⟨g, 0, none⟩) vs.length cap ∧ OwnG w base T g cap vs := by
  rcases h.2 with ⟨rfl, h0⟩ | ⟨g, cap, cur, rfl, hb, hg, hn, hm, hs, ht⟩
  · omega
  · exact ⟨g, cap, rfl, h⟩
theorem RowV.own8 {w : World} {base : Nat} {v : Value} {xs : List Int} (h : RowV w base 5 v (cellsOf8 xs)) : BytV w v xs := by
  unfold RowV at h
  rw [cells8_len] at h
  exact R8v h
theorem src_of {w : World} {A : Option Addr} {ad : Addr} {xs : List Value} (h : RdV w w.heap.size A xs) (hA : A = some ad) : ∀ j u, xs[j]? = some u → w.cell? (ad.add j) = some u := by
  intro j u hj
  obtain ⟨hjl, rfl⟩ := List.getElem?_eq_some_iff.1 hj
  obtain ⟨b', o', hA', _, hc⟩ := h (by omega)
  rw [hA] at hA'
  obtain rfl := Option.some.inj hA'
  have := hc j hjl
  rcases j with _ | j
  · simpa [Addr.add] using this
  · simpa [Addr.add] using this

theorem wp_appR (w : World) {o : Oper} {a : Act} {K : Act → World → Prop} {Q : Exit → Act → World → Prop} (s x : Operand) (Ts T : TypeId) (z : Value) (nb : Nat) (ho : o.op = .call { callee := .builtin .append, args := #[s, x], argTypes := #[Ts, Ts] })
    (hu : Tryd.prog.underlying Ts = some (.slice T)) (hinfo : (Tryd.prog.info? T).map (fun i => (i.zero, i.size, i.bytes)) = some (some z, 1, nb)) (hzs : z.cells.size = 1) (hnb : nb ≤ 1000)
    (base n m c : Nat) (v : Value) (ys xs : List Value) (A : Option Addr) (hs : a.eval s = v) (hown : RowV w base T v ys) (hn : ys.length = n) (hx : a.eval x = .slice A m c) (hm : xs.length = m) (hr : RdV w w.heap.size A xs) (hA : A = none → c = 0) (h1 : ∀ u ∈ xs, u.oneCell' = true)
    (hlen : n + m ≤ 1000000) (hbase : base ≤ w.heap.size)
    (h : ∀ v' w', RowV w' base T v' (ys ++ xs) → w.grownBy w' v.ownBlock → K (a.put o.dst v') w') : o.wp Tryd.prog a w K Q := by
  obtain ⟨i0, hi, hz0, hz1, hz2⟩ := info_parts hinfo
  subst hn hm
  have hby : (ys.length + xs.length) * nb ≤ 140737488355328 := Nat.le_trans (Nat.mul_le_mul hlen hnb) (by decide)
  cases A with
  | none =>
    have h0 : xs = [] := by
      rcases Nat.eq_zero_or_pos xs.length with h0 | h0
      · exact List.eq_nil_of_length_eq_zero h0
      · obtain ⟨b, o', hA', _⟩ := hr h0
        cases hA'
    subst h0
    obtain rfl := hA rfl
    have hrun := run_append_owned_none (P := Tryd.prog) (w := w) base Ts o.type T i0 1 hu hi v ys.length ys hown
    unfold Oper.wp
    simp only [execOp, ho, resolve, invoke, builtin, hs, hx, hrun, Sem.run_bind, Sem.run_pure, Result.andThen_ok, List.map_toArray, List.map_cons, List.map_nil, List.length_nil]
    exact h v w (by rw [List.append_nil]; exact hown) (World.grownBy.refl w _)
  | some ad =>
    refine wp_append_own w s x Ts ho base T i0 z 1 nb hu hi hz0 hz1 hz2 hzs (by decide) v ys.length ys hs hown ad xs.length c xs hx (by simp) (src_of hr rfl) h1 (by unfold maxLen; omega) hby hbase ?_
    intro v' w' h2 h3 _
    refine h v' w' ?_ h3
    unfold RowV
    rw [List.length_append]
    exact h2
theorem stepR (w : World) {ops : Array Oper} {o : Oper} {a : Act} {K : Act → World → Prop} {Q : Exit → Act → World → Prop} {E : Prop} (hgd : o.guard = none) (s x : Operand) (Ts T : TypeId) (z : Value) (nb : Nat) (ho : o.op = .call { callee := .builtin .append, args := #[s, x], argTypes := #[Ts, Ts] })
    (hu : Tryd.prog.underlying Ts = some (.slice T)) (hinfo : (Tryd.prog.info? T).map (fun i => (i.zero, i.size, i.bytes)) = some (some z, 1, nb)) (hzs : z.cells.size = 1) (hnb : nb ≤ 1000)
    (base n m c : Nat) (v : Value) (ys xs : List Value) (A : Option Addr) (hs : a.eval s = v) (hown : RowV w base T v ys) (hn : ys.length = n) (hx : a.eval x = .slice A m c) (hm : xs.length = m) (hr : RdV w w.heap.size A xs) (hA : A = none → c = 0) (h1 : ∀ u ∈ xs, u.oneCell' = true)
    (hlen : n + m ≤ 1000000) (hbase : base ≤ w.heap.size)
    (h : ∀ v' w', RowV w' base T v' (ys ++ xs) → w.grownBy w' v.ownBlock → K (a.put o.dst v') w') : if Region.wanted o (yielded ops a.tmps) = true then Oper.wp Tryd.prog o a w K Q else E := by
  have hw : Region.wanted o (yielded ops a.tmps) = true := by simp [Region.wanted, hgd]
  rw [if_pos hw]
  exact wp_appR w s x Ts T z nb ho hu hinfo hzs hnb base n m c v ys xs A hs hown hn hx hm hr hA h1 hlen hbase h
theorem appR (w : World) {ops : Array Oper} {rest : List Oper} {o : Oper} {a : Act} {Q : Exit → Act → World → Prop} (hgd : o.guard = none) (s x : Operand) (Ts T : TypeId) (z : Value) (nb : Nat) (ho : o.op = .call { callee := .builtin .append, args := #[s, x], argTypes := #[Ts, Ts] })
    (hu : Tryd.prog.underlying Ts = some (.slice T)) (hinfo : (Tryd.prog.info? T).map (fun i => (i.zero, i.size, i.bytes)) = some (some z, 1, nb)) (hzs : z.cells.size = 1) (hnb : nb ≤ 1000)
    (base n m c : Nat) (v : Value) (ys xs : List Value) (A : Option Addr) (hs : a.eval s = v) (hown : RowV w base T v ys) (hn : ys.length = n) (hx : a.eval x = .slice A m c) (hm : xs.length = m) (hr : RdV w w.heap.size A xs) (hA : A = none → c = 0) (h1 : ∀ u ∈ xs, u.oneCell' = true)
    (hlen : n + m ≤ 1000000) (hbase : base ≤ w.heap.size)
    (h : ∀ v' w', RowV w' base T v' (ys ++ xs) → w.grownBy w' v.ownBlock → wpList Tryd.prog ops Q rest (a.put o.dst v') w') : wpList Tryd.prog ops Q (o :: rest) a w :=
  wpList_plain hgd fun _ hK => wp_appR w s x Ts T z nb ho hu hinfo hzs hnb base n m c v ys xs A hs hown hn hx hm hr hA h1 hlen hbase fun v' w' h2 h3 => hK _ _ (h v' w' h2 h3)
theorem infoU8 : (Tryd.prog.info? 5).map (fun i => (i.zero, i.size, i.bytes)) = some (some (.int .u8 0), 1, 1) := byteInfo
theorem infoRow : (Tryd.prog.info? 35).map (fun i => (i.zero, i.size, i.bytes)) = some (some (.slice none 0 0), 1, 24) := by kernel_rfl
theorem one8 {xs : List Int} : ∀ v ∈ cellsOf8 xs, v.oneCell' = true := by
  intro u hu
  simp only [cellsOf8, List.mem_map] at hu
  obtain ⟨y, _, rfl⟩ := hu
  rfl
end Go.Proofs.YtljpkngbhdplbaaDoor
