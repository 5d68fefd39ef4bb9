/-
  Rows of one-cell elements of whatever type in memory: read (RdV), a call's own (OwnG), and append onto them; rows of rows of bytes (RdR).
-/
import Derived.Test.YtljpkngbhdplbaaDoorBlkB
import Derived.Deep.AppendLies
namespace Go.Proofs.YtljpkngbhdplbaaDoor
open Go.RowKit

/-- The slice of A, vs.length, c reads as these cells, below block B. -/
def RdV (w : World) (B : Nat) (A : Option Addr) (vs : List Value) : Prop :=
  0 < vs.length → ∃ b o : Nat, A = some ⟨b, o, none⟩ ∧ b < B ∧ ∀ i (h : i < vs.length), w.cell? ⟨b, o + i, none⟩ = some vs[i]
theorem RdV.below {w w' : World} {B : Nat} {A : Option Addr} {vs : List Value} (h : RdV w B A vs) (hb : Below B w w') : RdV w' B A vs := by
  intro hn
  obtain ⟨b, o, hA, hlt, hc⟩ := h hn
  exact ⟨b, o, hA, hlt, fun i hi => (hb.cell (p := ⟨b, o + i, none⟩) hlt).trans (hc i hi)⟩
theorem RdV.mono {w : World} {B B' : Nat} {A : Option Addr} {vs : List Value} (h : RdV w B A vs) (hB : B ≤ B') : RdV w B' A vs := by
  intro hn
  obtain ⟨b, o, hA, hlt, hc⟩ := h hn
  exact ⟨b, o, hA, Nat.lt_of_lt_of_le hlt hB, hc⟩
theorem RdV.up {w u : World} {A : Option Addr} {vs : List Value} (h : RdV w w.heap.size A vs) (hb : Below w.heap.size w u) : RdV u u.heap.size A vs := (h.below hb).mono hb.size
theorem RdV.nil {w : World} {B : Nat} {A : Option Addr} : RdV w B A [] := fun h => by simp at h
theorem rd_up {w u : World} {A : Option Addr} {xs : List Int} (h : Rd w w.heap.size A xs) (hb : Below w.heap.size w u) : Rd u u.heap.size A xs := (h.below hb).mono hb.size
theorem RdV.rd {w : World} {B : Nat} {A : Option Addr} {xs : List Int} (h : RdV w B A (cellsOf8 xs)) : Rd w B A xs := by
  intro hn
  obtain ⟨b, o, hA, hlt, hc⟩ := h (by rw [cells8_len]; exact hn)
  exact ⟨b, o, hA, hlt, fun i hi => by rw [hc i (by rw [cells8_len]; exact hi)]; simp [cellsOf8]⟩
theorem Rd.rdV {w : World} {B : Nat} {A : Option Addr} {xs : List Int} (h : Rd w B A xs) : RdV w B A (cellsOf8 xs) := by
  intro hn
  rw [cells8_len] at hn
  obtain ⟨b, o, hA, hlt, hc⟩ := h hn
  exact ⟨b, o, hA, hlt, fun i hi => by rw [cells8_len] at hi; rw [hc i hi]; simp [cellsOf8]⟩

/-- The call's own row of cells vs of type T, in block g. -/
def OwnG (w : World) (base : Nat) (T : TypeId) (g cap : Nat) (vs : List Value) : Prop := w.ownsRow base T 1 (.slice (some ⟨g, 0, none⟩) vs.length cap) vs.length vs
theorem OwnG.mem {w : World} {base g cap : Nat} {T : TypeId} {vs : List Value} (h : OwnG w base T g cap vs) : base ≤ g ∧ g < w.heap.size := by
  rcases h.2 with ⟨h', _⟩ | ⟨_, _, _, h', hb, hg, _⟩
  · simp at h'
  · injection h' with h' _ _
    obtain h' := Option.some.inj h'
    injection h' with h'
    subst h'
    exact ⟨hb, lt_of_block hg⟩
theorem OwnG.cap {w : World} {base g cap : Nat} {T : TypeId} {vs : List Value} (h : OwnG w base T g cap vs) : vs.length ≤ cap := by
  rcases h.2 with ⟨h', _⟩ | ⟨_, _, _, h', _, _, hc, _⟩
  · simp at h'
  · injection h' with _ _ h'
    omega
theorem OwnG.cell {w : World} {base g cap : Nat} {T : TypeId} {vs : List Value} (h : OwnG w base T g cap vs) (k : Nat) (hk : k < vs.length) : w.cell? ⟨g, k, none⟩ = some vs[k] := by
  rw [World.ownsRow.cellAt h k (by omega)]
  simp [hk]
theorem OwnG.rdV {w : World} {base g cap : Nat} {T : TypeId} {vs : List Value} (h : OwnG w base T g cap vs) : RdV w w.heap.size (some ⟨g, 0, none⟩) vs := fun _ => ⟨g, 0, rfl, h.mem.2, fun i hi => by rw [Nat.zero_add]; exact h.cell i hi⟩
theorem OwnG.rise {w w' : World} {base g cap : Nat} {T : TypeId} {vs : List Value} (h : OwnG w base T g cap vs) (hb : Below w.heap.size w w') : OwnG w' base T g cap vs :=
  ⟨h.1, h.2.imp id fun ⟨g', c', cur, hv, hg, hc, r⟩ => ⟨g', c', cur, hv, hg, (hb.block g' (lt_of_block hc)).trans hc, r⟩⟩
theorem OwnG.kept {w w' : World} {base g cap : Nat} {T : TypeId} {vs : List Value} {row : Option Nat} (h : OwnG w base T g cap vs) (hg : w.grownBy w' row) (hne : some g ≠ row) : OwnG w' base T g cap vs := World.ownsRow.kept h hg (.inr hne)
theorem OwnG.le {w : World} {base base' g cap : Nat} {T : TypeId} {vs : List Value} (h : OwnG w base T g cap vs) (hb : base' ≤ base) : OwnG w base' T g cap vs :=
  ⟨h.1, h.2.imp id fun ⟨g', c', cur, hv, hg, r⟩ => ⟨g', c', cur, hv, Nat.le_trans hb hg, r⟩⟩
theorem OwnG.own8 {w : World} {base g cap : Nat} {xs : List Int} (h : OwnG w base 5 g cap (cellsOf8 xs)) : Own8 w base g cap xs := by
  have := h
  unfold OwnG at this
  rw [cells8_len] at this
  exact this
theorem Own8.ownG {w : World} {base g cap : Nat} {xs : List Int} (h : Own8 w base g cap xs) : OwnG w base 5 g cap (cellsOf8 xs) := by
  unfold OwnG
  rw [cells8_len]
  exact h
/-- A new block is a row of the call's own. -/
theorem OwnG.new (w : World) (base : Nat) (T : TypeId) (vs : List Value) (hb : base ≤ w.heap.size) (hm : vs.length ≤ 1000000) : OwnG (w.alloc (.cells vs.toArray T)) base T w.heap.size vs.length vs :=
  ⟨by simp, .inr ⟨w.heap.size, vs.length, vs.toArray, rfl, hb, heap_alloc_new w _, Nat.le_refl _, by unfold maxLen; omega, by simp, by rw [Nat.mul_one]; exact List.take_of_length_le (by simp)⟩⟩

/-- append onto a row of the call's own, something. -/
theorem appG (w : World) {ops : Array Oper} {rest : List Oper} {o : Oper} {a : Act} {Q : Exit → Act → World → Prop} (hgd : o.guard = none) (s x : Operand) (Ts T : TypeId) (z : Value) (nb : Nat) (ho : o.op = .call { callee := .builtin .append, args := #[s, x], argTypes := #[Ts, Ts] })
    (hu : Tryd.prog.underlying Ts = some (.slice T)) (hinfo : (Tryd.prog.info? T).map (fun i => (i.zero, i.size, i.bytes)) = some (some z, 1, nb)) (hzs : z.cells.size = 1) (hnb : nb ≤ 1000)
    (base g cap n m c : Nat) (ys xs : List Value) (ad : Addr) (hs : a.eval s = .slice (some ⟨g, 0, none⟩) n cap) (hown : OwnG w base T g cap ys) (hn : ys.length = n) (hx : a.eval x = .slice (some ad) m c) (hm : xs.length = m) (hr : ∀ j (h : j < xs.length), w.cell? (ad.add j) = some xs[j]) (h1 : ∀ u ∈ xs, u.oneCell' = true)
    (hlen : n + m ≤ 1000000) (hpos : 0 < m) (hbase : base ≤ w.heap.size)
    (h : ∀ g' cap' w', OwnG w' base T g' cap' (ys ++ xs) → w.grownBy w' (some g) → (g' = g ∨ g' = w.heap.size) → wpList Tryd.prog ops Q rest (a.put o.dst (.slice (some ⟨g', 0, none⟩) (n + m) cap')) w') : wpList Tryd.prog ops Q (o :: rest) a w := by
  obtain ⟨i0, hi, hz0, hz1, hz2⟩ := info_parts hinfo
  subst hn hm
  have hby : (ys.length + xs.length) * nb ≤ 140737488355328 := Nat.le_trans (Nat.mul_le_mul hlen hnb) (by decide)
  refine wpList_append_lies w hgd s x Ts ho base T i0 z 1 nb hu hi hz0 hz1 hz2 hzs (by decide) _ ys.length ys hs hown ad xs.length c xs hx (by simp) (fun j u hj => ?_) h1 hpos (by unfold maxLen; omega) hby hbase w.heap.size rfl ?_
  · obtain ⟨hjl, rfl⟩ := List.getElem?_eq_some_iff.1 hj
    exact hr j hjl
  · intro g' cap' w' h2 h3 h4 _
    refine h g' cap' w' ?_ h3 (h4.imp (fun e => ?_) id)
    · unfold OwnG
      rw [List.length_append]
      exact h2
    · exact (Option.some.inj e).symm

/-- Rows of bytes: cells that are slices, each of which reads as its bytes. -/
def RdR (w : World) (vs : List Value) (l : List (List Int)) : Prop :=
  vs.length = l.length ∧ ∀ i (h : i < vs.length) (h2 : i < l.length), ∃ A c, vs[i] = .slice A l[i].length c ∧ l[i].length ≤ c ∧ Rd w w.heap.size A l[i]
theorem RdR.up {w u : World} {vs : List Value} {l : List (List Int)} (h : RdR w vs l) (hb : Below w.heap.size w u) : RdR u vs l :=
  ⟨h.1, fun i h1 h2 => by obtain ⟨A, c, e, hc, hr⟩ := h.2 i h1 h2; exact ⟨A, c, e, hc, rd_up hr hb⟩⟩
theorem RdR.nil {w : World} : RdR w [] [] := ⟨rfl, fun i h => by simp at h⟩
end Go.Proofs.YtljpkngbhdplbaaDoor
