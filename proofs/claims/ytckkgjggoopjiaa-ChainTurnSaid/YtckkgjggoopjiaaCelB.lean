/-
  Memory by blocks and rows of one-cell elements: blocks by their cells, rows that are read (RdV, RowF), a call's own rows and append onto them (OwnG), what a call keeps (Kept). For whatever program; no bytes.
-/
import Derived.Test.YtckkgjggoopjiaaChecked
import Derived.Test.YtckkgjggoopjiaaQuietIn
import Derived.WalkKit
import Derived.WalkLawsBesides
import Derived.Below
import Derived.Outline
import Derived.Lib.Hide
import Derived.Deep.LoopGhost
import Derived.Laws.AppendOwnNone
import Derived.Laws.OwnMore
import Derived.Laws.MakeOwn
import Derived.OwnWalk
import Derived.Deep.AppendLies
import Derived.Deep.Upon
import Derived.Deep.Cut
import Derived.BigRegion
import Derived.Deep.RegionHeld3
namespace Go.Proofs.Ytckkgjggoopjiaa
open Go.RowKit

theorem ret_int {k : IntKind} {a b : Int} (h : a = b) : Ending.returned (.int k a) = .returned (.int k b) := by rw [h]
theorem ret_bool {a b : Bool} (h : a = b) : Ending.returned (.bool a) = .returned (.bool b) := by rw [h]
def IntIs (n : Int) (w : World) (r : Ending) (w' : World) : Prop := r = .returned (.int .i64 n) ∧ w = w'
def BoolIs (b : Bool) (w : World) (r : Ending) (w' : World) : Prop := r = .returned (.bool b) ∧ w = w'
def IntB (n : Int) (w : World) (r : Ending) (w' : World) : Prop := r = .returned (.int .i64 n) ∧ Below w.heap.size w w'
def BoolB (x : Bool) (w : World) (r : Ending) (w' : World) : Prop := r = .returned (.bool x) ∧ Below w.heap.size w w'
theorem below_all {a b c : World} (h : Below a.heap.size a b) (k : Below b.heap.size b c) : Below a.heap.size a c := h.trans (k.mono h.size)

/-- Block g is these cells. -/
def Blk (w : World) (g : Nat) (T : TypeId) (cs : List Value) : Prop := w.heap[g]? = some (.cells cs.toArray T (0, 0))
theorem Blk.cell {w : World} {g : Nat} {T : TypeId} {cs : List Value} (h : Blk w g T cs) (k : Nat) (hk : k < cs.length) : w.cell? ⟨g, k, none⟩ = some cs[k] := by
  rw [cell_of_row w g k cs.toArray T (0, 0) h]
  simp [hk]
theorem Blk.free {w : World} {g : Nat} {T : TypeId} {cs : List Value} (h : Blk w g T cs) (k : Nat) : w.frozen? ⟨g, k, none⟩ = false := frozen_of_row w g k cs.toArray T h
theorem Blk.put {w : World} {g : Nat} {T : TypeId} {cs : List Value} (h : Blk w g T cs) (k : Nat) (u : Value) : Blk (w.setCell ⟨g, k, none⟩ u) g T (cs.set k u) := by
  have := heap_setCell_same w g k cs.toArray T u h
  unfold Blk
  rw [this]
  simp
theorem Blk.up {w w' : World} {B g : Nat} {T : TypeId} {cs : List Value} (h : Blk w g T cs) (hb : Below B w w') (hg : g < B) : Blk w' g T cs := (hb.block g hg).trans h
theorem Blk.kept {w w' : World} {g : Nat} {T : TypeId} {cs : List Value} {row : Option Nat} (h : Blk w g T cs) (hg : w.grownBy w' row) (hne : some g ≠ row) : Blk w' g T cs := (hg.block g (lt_of_block h) hne).trans h
theorem grown_put {w w' : World} {g : Nat} (h : w.grownBy w' (some g)) (k : Nat) (u : Value) : w.grownBy (w'.setCell ⟨g, k, none⟩ u) (some g) :=
  ⟨h.os, h.tape, h.output, by simp [World.setCell]; exact h.size, fun j hj hne => (Below.heap_setCell _ _ _ _ (fun e => hne (by rw [e]))).trans (h.block j hj hne)⟩
theorem grown_drew {w w' : World} {row : Option Nat} (h : w.grownBy w' row) : w.grownBy w'.drew row := ⟨h.os, h.tape, h.output, h.size, h.block⟩

/-- The slice of A, vs.length, c reads as these cells, below block B. -/
def RdV (w : World) (B : Nat) (A : Option Addr) (vs : List Value) : Prop :=
  0 < vs.length → ∃ b o : Nat, A = some ⟨b, o, none⟩ ∧ b < B ∧ ∀ i (h : i < vs.length), w.cell? ⟨b, o + i, none⟩ = some vs[i]
theorem RdV.below {w w' : World} {B : Nat} {A : Option Addr} {vs : List Value} (h : RdV w B A vs) (hb : Below B w w') : RdV w' B A vs := by
  intro hn
  obtain ⟨b, o, hA, hlt, hc⟩ := h hn
  exact ⟨b, o, hA, hlt, fun i hi => (hb.cell (p := ⟨b, o + i, none⟩) hlt).trans (hc i hi)⟩
theorem RdV.mono {w : World} {B B' : Nat} {A : Option Addr} {vs : List Value} (h : RdV w B A vs) (hB : B ≤ B') : RdV w B' A vs := by
  intro hn
  obtain ⟨b, o, hA, hlt, hc⟩ := h hn
  exact ⟨b, o, hA, Nat.lt_of_lt_of_le hlt hB, hc⟩
theorem RdV.up {w u : World} {A : Option Addr} {vs : List Value} (h : RdV w w.heap.size A vs) (hb : Below w.heap.size w u) : RdV u u.heap.size A vs := (h.below hb).mono hb.size
theorem RdV.nil {w : World} {B : Nat} {A : Option Addr} : RdV w B A [] := fun h => by simp at h
/-- The call's own row of cells vs of type T, in block g. -/
def OwnG (w : World) (base : Nat) (T : TypeId) (g cap : Nat) (vs : List Value) : Prop := w.ownsRow base T 1 (.slice (some ⟨g, 0, none⟩) vs.length cap) vs.length vs
theorem OwnG.mem {w : World} {base g cap : Nat} {T : TypeId} {vs : List Value} (h : OwnG w base T g cap vs) : base ≤ g ∧ g < w.heap.size := by
  rcases h.2 with ⟨h', _⟩ | ⟨_, _, _, h', hb, hg, _⟩
  · simp at h'
  · injection h' with h' _ _
    obtain h' := Option.some.inj h'
    injection h' with h'
    subst h'
    exact ⟨hb, lt_of_block hg⟩
theorem OwnG.cap {w : World} {base g cap : Nat} {T : TypeId} {vs : List Value} (h : OwnG w base T g cap vs) : vs.length ≤ cap := by
  rcases h.2 with ⟨h', _⟩ | ⟨_, _, _, h', _, _, hc, _⟩
  · simp at h'
  · injection h' with _ _ h'
    omega
theorem OwnG.cell {w : World} {base g cap : Nat} {T : TypeId} {vs : List Value} (h : OwnG w base T g cap vs) (k : Nat) (hk : k < vs.length) : w.cell? ⟨g, k, none⟩ = some vs[k] := by
  rw [World.ownsRow.cellAt h k (by omega)]
  simp [hk]
theorem OwnG.rdV {w : World} {base g cap : Nat} {T : TypeId} {vs : List Value} (h : OwnG w base T g cap vs) : RdV w w.heap.size (some ⟨g, 0, none⟩) vs := fun _ => ⟨g, 0, rfl, h.mem.2, fun i hi => by rw [Nat.zero_add]; exact h.cell i hi⟩
theorem OwnG.rise {w w' : World} {base g cap : Nat} {T : TypeId} {vs : List Value} (h : OwnG w base T g cap vs) (hb : Below w.heap.size w w') : OwnG w' base T g cap vs :=
  ⟨h.1, h.2.imp id fun ⟨g', c', cur, hv, hg, hc, r⟩ => ⟨g', c', cur, hv, hg, (hb.block g' (lt_of_block hc)).trans hc, r⟩⟩
theorem OwnG.kept {w w' : World} {base g cap : Nat} {T : TypeId} {vs : List Value} {row : Option Nat} (h : OwnG w base T g cap vs) (hg : w.grownBy w' row) (hne : some g ≠ row) : OwnG w' base T g cap vs := World.ownsRow.kept h hg (.inr hne)
theorem OwnG.le {w : World} {base base' g cap : Nat} {T : TypeId} {vs : List Value} (h : OwnG w base T g cap vs) (hb : base' ≤ base) : OwnG w base' T g cap vs :=
  ⟨h.1, h.2.imp id fun ⟨g', c', cur, hv, hg, r⟩ => ⟨g', c', cur, hv, Nat.le_trans hb hg, r⟩⟩
/-- A new block is a row of the call's own. -/
theorem OwnG.new (w : World) (base : Nat) (T : TypeId) (vs : List Value) (hb : base ≤ w.heap.size) (hm : vs.length ≤ 1000000) : OwnG (w.alloc (.cells vs.toArray T)) base T w.heap.size vs.length vs :=
  ⟨by simp, .inr ⟨w.heap.size, vs.length, vs.toArray, rfl, hb, heap_alloc_new w _, Nat.le_refl _, by unfold maxLen; omega, by simp, by rw [Nat.mul_one]; exact List.take_of_length_le (by simp)⟩⟩

/-- append onto a row of the call's own, something. -/
theorem appG (w : World) {ops : Array Oper} {rest : List Oper} {o : Oper} {a : Act} {Q : Exit → Act → World → Prop} (hgd : o.guard = none) (s x : Operand) (Ts T : TypeId) (z : Value) (nb : Nat) (ho : o.op = .call { callee := .builtin .append, args := #[s, x], argTypes := #[Ts, Ts] })
    (hu : Try.prog.underlying Ts = some (.slice T)) (hinfo : (Try.prog.info? T).map (fun i => (i.zero, i.size, i.bytes)) = some (some z, 1, nb)) (hzs : z.cells.size = 1) (hnb : nb ≤ 1000)
    (base g cap n m c : Nat) (ys xs : List Value) (ad : Addr) (hs : a.eval s = .slice (some ⟨g, 0, none⟩) n cap) (hown : OwnG w base T g cap ys) (hn : ys.length = n) (hx : a.eval x = .slice (some ad) m c) (hm : xs.length = m) (hr : ∀ j (h : j < xs.length), w.cell? (ad.add j) = some xs[j]) (h1 : ∀ u ∈ xs, u.oneCell' = true)
    (hlen : n + m ≤ 1000000) (hpos : 0 < m) (hbase : base ≤ w.heap.size)
    (h : ∀ g' cap' w', OwnG w' base T g' cap' (ys ++ xs) → w.grownBy w' (some g) → (g' = g ∨ g' = w.heap.size) → wpList Try.prog ops Q rest (a.put o.dst (.slice (some ⟨g', 0, none⟩) (n + m) cap')) w') : wpList Try.prog ops Q (o :: rest) a w := by
  obtain ⟨i0, hi, hz0, hz1, hz2⟩ := info_parts hinfo
  subst hn hm
  have hby : (ys.length + xs.length) * nb ≤ 140737488355328 := Nat.le_trans (Nat.mul_le_mul hlen hnb) (by decide)
  refine wpList_append_lies w hgd s x Ts ho base T i0 z 1 nb hu hi hz0 hz1 hz2 hzs (by decide) _ ys.length ys hs hown ad xs.length c xs hx (by simp) (fun j u hj => ?_) h1 hpos (by unfold maxLen; omega) hby hbase w.heap.size rfl ?_
  · obtain ⟨hjl, rfl⟩ := List.getElem?_eq_some_iff.1 hj
    exact hr j hjl
  · intro g' cap' w' h2 h3 h4 _
    refine h g' cap' w' ?_ h3 (h4.imp (fun e => ?_) id)
    · unfold OwnG
      rw [List.length_append]
      exact h2
    · exact (Option.some.inj e).symm

/-- Whatever lies outside F lies as it lay. -/
structure Kept (F : Nat → Prop) (w w' : World) : Prop where
  os : w'.os = w.os
  tape : w'.tape = w.tape
  output : w'.output = w.output
  size : w.heap.size ≤ w'.heap.size
  block : ∀ k, k < w.heap.size → ¬ F k → w'.heap[k]? = w.heap[k]?
/-- F and all blocks that were made on the way from a to b. -/
def grow (F : Nat → Prop) (a b : World) : Nat → Prop := fun k => F k ∨ (a.heap.size ≤ k ∧ k < b.heap.size)
theorem Kept.refl (F : Nat → Prop) (w : World) : Kept F w w := ⟨rfl, rfl, rfl, Nat.le_refl _, fun _ _ _ => rfl⟩
theorem Kept.trans {F : Nat → Prop} {a b c : World} (h : Kept F a b) (k : Kept (grow F a b) b c) : Kept F a c :=
  ⟨k.os.trans h.os, k.tape.trans h.tape, k.output.trans h.output, Nat.le_trans h.size k.size, fun i hi hn => (k.block i (Nat.lt_of_lt_of_le hi h.size) (fun hg => hg.elim hn (fun hx => absurd hx.1 (Nat.not_le_of_lt hi)))).trans (h.block i hi hn)⟩
theorem Kept.and {F : Nat → Prop} {a b c : World} (h : Kept F a b) (k : Kept F b c) : Kept F a c :=
  ⟨k.os.trans h.os, k.tape.trans h.tape, k.output.trans h.output, Nat.le_trans h.size k.size, fun i hi hn => (k.block i (Nat.lt_of_lt_of_le hi h.size) hn).trans (h.block i hi hn)⟩
theorem Kept.mono {F G : Nat → Prop} {a b : World} (h : Kept F a b) (hfg : ∀ k, k < a.heap.size → F k → G k) : Kept G a b := ⟨h.os, h.tape, h.output, h.size, fun i hi hn => h.block i hi (fun hf => hn (hfg i hi hf))⟩
theorem Kept.of_below {F : Nat → Prop} {w w' : World} (h : Below w.heap.size w w') : Kept F w w' := ⟨h.os, h.tape, h.output, h.size, fun i hi _ => h.block i hi⟩
theorem Kept.below {F : Nat → Prop} {B : Nat} {w w' : World} (h : Kept F w w') (hB : B ≤ w.heap.size) (hF : ∀ k, F k → B ≤ k) : Below B w w' :=
  ⟨h.os, h.tape, h.output, h.size, fun k hk => h.block k (by omega) (fun hf => by have := hF k hf; omega)⟩
theorem Kept.grown {F : Nat → Prop} {a w w' : World} {row : Option Nat} (h : Kept F a w) (hg : w.grownBy w' row) (hr : ∀ k, row = some k → F k ∨ a.heap.size ≤ k) : Kept F a w' :=
  ⟨hg.os.trans h.os, hg.tape.trans h.tape, hg.output.trans h.output, Nat.le_trans h.size hg.size, fun i hi hn => (hg.block i (Nat.lt_of_lt_of_le hi h.size) (fun e => by
    rcases hr i e.symm with hf | hs
    · exact hn hf
    · omega)).trans (h.block i hi hn)⟩
theorem Kept.put {F : Nat → Prop} {a w : World} (h : Kept F a w) {g : Nat} (hg : F g ∨ a.heap.size ≤ g) (o : Nat) (v : Value) : Kept F a (w.setCell ⟨g, o, none⟩ v) :=
  h.grown (grown_put (World.grownBy.refl w _) o v) (fun k e => by obtain rfl := Option.some.inj e; exact hg)
theorem Kept.alloc {F : Nat → Prop} {a w : World} (h : Kept F a w) (o : Obj) : Kept F a (w.alloc o) := h.grown (World.grownBy_alloc w o none) (fun k e => by cases e)
theorem Kept.drew {F : Nat → Prop} {a w : World} (h : Kept F a w) : Kept F a w.drew := ⟨h.os, h.tape, h.output, h.size, h.block⟩
theorem Kept.blk {F : Nat → Prop} {w w' : World} {g : Nat} {T : TypeId} {cs : List Value} (h : Kept F w w') (hb : Blk w g T cs) (hn : ¬ F g) : Blk w' g T cs := (h.block g (lt_of_block hb) hn).trans hb
theorem Kept.cell {F : Nat → Prop} {w w' : World} {p : Addr} {v : Value} (h : Kept F w w') (hc : w.cell? p = some v) (hn : ¬ F p.block) : w'.cell? p = some v := by
  have hlt : p.block < w.heap.size := by
    apply Classical.byContradiction
    intro hge
    have : w.heap[p.block]? = none := Array.getElem?_eq_none (by omega)
    simp [World.cell?, this] at hc
  rw [World.cell?_of_block (w := w) (h.block p.block hlt hn)]
  exact hc

theorem kept_put (w : World) (g o : Nat) (v : Value) : Kept (fun k => k = g) w (w.setCell ⟨g, o, none⟩ v) := (Kept.refl (fun k => k = g) w).put (.inl rfl) o v

/-- Where something is read it lies in F. -/
def InF (F : Nat → Prop) (A : Option Addr) : Prop := ∀ b o x, A = some ⟨b, o, x⟩ → F b
theorem InF.mono {F G : Nat → Prop} {A : Option Addr} (h : InF F A) (hfg : ∀ k, F k → G k) : InF G A := fun b o x e => hfg _ (h b o x e)
theorem InF.none (F : Nat → Prop) : InF F none := fun _ _ _ e => by cases e
theorem InF.one {F : Nat → Prop} {g o : Nat} (h : F g) : InF F (some ⟨g, o, Option.none⟩) := fun b o x e => by have e := Option.some.inj e; injection e with e; subst e; exact h
/-- .. if there is something. -/
def InN (n : Nat) (F : Nat → Prop) (A : Option Addr) : Prop := 0 < n → InF F A
theorem InN.mono {n : Nat} {F G : Nat → Prop} {A : Option Addr} (h : InN n F A) (hfg : ∀ k, F k → G k) : InN n G A := fun hp => (h hp).mono hfg
theorem InF.n {n : Nat} {F : Nat → Prop} {A : Option Addr} (h : InF F A) : InN n F A := fun _ => h
theorem RdV.keep {F : Nat → Prop} {w w' : World} {A : Option Addr} {vs : List Value} (h : RdV w w.heap.size A vs) (hk : Kept F w w') (hn : InN vs.length (fun k => ¬ F k) A) : RdV w' w'.heap.size A vs := by
  intro hp
  obtain ⟨b, o, hA, hlt, hc⟩ := h hp
  exact ⟨b, o, hA, Nat.lt_of_lt_of_le hlt hk.size, fun i hi => hk.cell (hc i hi) (hn hp _ _ _ hA)⟩

/-- The value v is a slice of these cells, within F. -/
def RowF (F : Nat → Prop) (w : World) (v : Value) (vs : List Value) : Prop := ∃ A c, v = .slice A vs.length c ∧ vs.length ≤ c ∧ RdV w w.heap.size A vs ∧ InN vs.length F A ∧ (A = none → c = 0)
theorem RowF.keep {F G : Nat → Prop} {w w' : World} {v : Value} {vs : List Value} (h : RowF F w v vs) (hk : Kept G w w') (hn : ∀ k, F k → ¬ G k) : RowF F w' v vs := by
  obtain ⟨A, c, e, hc, hr, hf, h0⟩ := h
  exact ⟨A, c, e, hc, hr.keep hk (hf.mono hn), hf, h0⟩
theorem RowF.up {F : Nat → Prop} {w w' : World} {v : Value} {vs : List Value} (h : RowF F w v vs) (hb : Below w.heap.size w w') : RowF F w' v vs := h.keep (G := fun _ => False) (Kept.of_below hb) (fun _ _ => id)
theorem RowF.mono {F G : Nat → Prop} {w : World} {v : Value} {vs : List Value} (h : RowF F w v vs) (hfg : ∀ k, F k → G k) : RowF G w v vs := by
  obtain ⟨A, c, e, hc, hr, hf, h0⟩ := h
  exact ⟨A, c, e, hc, hr, hf.mono hfg, h0⟩
theorem RowF.nil (F : Nat → Prop) (w : World) : RowF F w (.slice none 0 0) [] := ⟨none, 0, rfl, by simp, RdV.nil, (InF.none _).n, fun _ => rfl⟩

/-- Numbers as cells. -/
def iCells (l : List Int) : List Value := l.map (Value.int .i64)
theorem iCells_len (l : List Int) : (iCells l).length = l.length := by simp [iCells]
theorem iCells_one {l : List Int} : ∀ u ∈ iCells l, u.oneCell' = true := by
  intro u hu
  simp only [iCells, List.mem_map] at hu
  obtain ⟨y, _, rfl⟩ := hu
  rfl
theorem Blk.at {w : World} {g : Nat} {T : TypeId} {cs : List Value} (h : Blk w g T cs) {k : Nat} {v : Value} (hk : cs[k]? = some v) : w.cell? ⟨g, k, none⟩ = some v := by
  obtain ⟨hl, rfl⟩ := List.getElem?_eq_some_iff.1 hk
  exact h.cell k hl
theorem set_at {cs : List Value} {k : Nat} {v x : Value} (h : cs[k]? = some x) : (cs.set k v)[k]? = some v := by
  rw [List.getElem?_set_self]
  exact (List.getElem?_eq_some_iff.1 h).1
theorem set_off {cs : List Value} {k j : Nat} {v : Value} (h : k ≠ j) : (cs.set k v)[j]? = cs[j]? := List.getElem?_set_ne h
theorem below_grown {w0 w w' : World} {row : Option Nat} (h : Below w0.heap.size w0 w) (hg : w.grownBy w' row) (hr : ∀ k, row = some k → w0.heap.size ≤ k) : Below w0.heap.size w0 w' :=
  ((Kept.of_below (F := fun _ => False) h).grown hg (fun k e => .inr (hr k e))).below (Nat.le_refl _) (fun k hk => hk.elim)
end Go.Proofs.Ytckkgjggoopjiaa
