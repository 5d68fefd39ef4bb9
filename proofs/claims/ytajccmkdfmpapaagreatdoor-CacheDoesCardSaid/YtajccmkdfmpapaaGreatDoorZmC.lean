/-
  Memory by blocks and rows of one-cell elements: blocks by their cells, rows that are read (RdV, RowF), a call's own rows and append onto them (OwnG), what a call keeps (Kept). For whatever program; no bytes.
  Rows of a call's own whose elements are several cells: what they hold, what keeps them, append onto them. For whatever program.
  Entries in memory, as rows of three cells.
  Rows of numbers of the kind int: append onto them. For whatever program.
  Rows of slots' numbers of a call's own.
-/
import Derived.Test.YtajccmkdfmpapaaGreatDoorChecked
import Derived.Test.YtajccmkdfmpapaaGreatDoorQuietIn
import Derived.WalkKit
import Derived.WalkLawsBesides
import Derived.Below
import Derived.Outline
import Derived.Lib.Hide
import Derived.Deep.LoopGhost
import Derived.Laws.AppendOwnNone
import Derived.Laws.OwnMore
import Derived.Laws.MakeOwn
import Derived.OwnWalk
import Derived.Deep.AppendLies
import Derived.Deep.Upon
import Derived.Deep.Cut
import Derived.BigRegion
import Derived.Deep.RegionHeld3
import Derived.Test.YtajccmkdfmpapaaGreatDoorCaMath2
namespace Go.Proofs.YtajccmkdfmpapaaGreatDoor
open Go.RowKit

theorem ret_int {k : IntKind} {a b : Int} (h : a = b) : Ending.returned (.int k a) = .returned (.int k b) := by rw [h]
theorem ret_bool {a b : Bool} (h : a = b) : Ending.returned (.bool a) = .returned (.bool b) := by rw [h]
def IntIs (n : Int) (w : World) (r : Ending) (w' : World) : Prop := r = .returned (.int .i64 n) ∧ w = w'
def BoolIs (b : Bool) (w : World) (r : Ending) (w' : World) : Prop := r = .returned (.bool b) ∧ w = w'
def IntB (n : Int) (w : World) (r : Ending) (w' : World) : Prop := r = .returned (.int .i64 n) ∧ Below w.heap.size w w'
def BoolB (x : Bool) (w : World) (r : Ending) (w' : World) : Prop := r = .returned (.bool x) ∧ Below w.heap.size w w'
theorem below_all {a b c : World} (h : Below a.heap.size a b) (k : Below b.heap.size b c) : Below a.heap.size a c := h.trans (k.mono h.size)

/-- Block g is these cells. -/
def Blk (w : World) (g : Nat) (T : TypeId) (cs : List Value) : Prop := w.heap[g]? = some (.cells cs.toArray T (0, 0))
theorem Blk.cell {w : World} {g : Nat} {T : TypeId} {cs : List Value} (h : Blk w g T cs) (k : Nat) (hk : k < cs.length) : w.cell? ⟨g, k, none⟩ = some cs[k] := by
  rw [cell_of_row w g k cs.toArray T (0, 0) h]
  simp [hk]
theorem Blk.free {w : World} {g : Nat} {T : TypeId} {cs : List Value} (h : Blk w g T cs) (k : Nat) : w.frozen? ⟨g, k, none⟩ = false := frozen_of_row w g k cs.toArray T h
theorem Blk.put {w : World} {g : Nat} {T : TypeId} {cs : List Value} (h : Blk w g T cs) (k : Nat) (u : Value) : Blk (w.setCell ⟨g, k, none⟩ u) g T (cs.set k u) := by
  have := heap_setCell_same w g k cs.toArray T u h
  unfold Blk
  rw [this]
  simp
theorem Blk.up {w w' : World} {B g : Nat} {T : TypeId} {cs : List Value} (h : Blk w g T cs) (hb : Below B w w') (hg : g < B) : Blk w' g T cs := (hb.block g hg).trans h
theorem Blk.kept {w w' : World} {g : Nat} {T : TypeId} {cs : List Value} {row : Option Nat} (h : Blk w g T cs) (hg : w.grownBy w' row) (hne : some g ≠ row) : Blk w' g T cs := (hg.block g (lt_of_block h) hne).trans h
theorem grown_put {w w' : World} {g : Nat} (h : w.grownBy w' (some g)) (k : Nat) (u : Value) : w.grownBy (w'.setCell ⟨g, k, none⟩ u) (some g) :=
  ⟨h.os, h.tape, h.output, by simp [World.setCell]; exact h.size, fun j hj hne => (Below.heap_setCell _ _ _ _ (fun e => hne (by rw [e]))).trans (h.block j hj hne)⟩
theorem grown_drew {w w' : World} {row : Option Nat} (h : w.grownBy w' row) : w.grownBy w'.drew row := ⟨h.os, h.tape, h.output, h.size, h.block⟩

/-- The slice of A, vs.length, c reads as these cells, below block B. -/
def RdV (w : World) (B : Nat) (A : Option Addr) (vs : List Value) : Prop :=
  0 < vs.length → ∃ b o : Nat, A = some ⟨b, o, none⟩ ∧ b < B ∧ ∀ i (h : i < vs.length), w.cell? ⟨b, o + i, none⟩ = some vs[i]
theorem RdV.below {w w' : World} {B : Nat} {A : Option Addr} {vs : List Value} (h : RdV w B A vs) (hb : Below B w w') : RdV w' B A vs := by
  intro hn
  obtain ⟨b, o, hA, hlt, hc⟩ := h hn
  exact ⟨b, o, hA, hlt, fun i hi => (hb.cell (p := ⟨b, o + i, none⟩) hlt).trans (hc i hi)⟩
theorem RdV.mono {w : World} {B B' : Nat} {A : Option Addr} {vs : List Value} (h : RdV w B A vs) (hB : B ≤ B') : RdV w B' A vs := by
  intro hn
  obtain ⟨b, o, hA, hlt, hc⟩ := h hn
  exact ⟨b, o, hA, Nat.lt_of_lt_of_le hlt hB, hc⟩
theorem RdV.up {w u : World} {A : Option Addr} {vs : List Value} (h : RdV w w.heap.size A vs) (hb : Below w.heap.size w u) : RdV u u.heap.size A vs := (h.below hb).mono hb.size
theorem RdV.nil {w : World} {B : Nat} {A : Option Addr} : RdV w B A [] := fun h => by simp at h
/-- The call's own row of cells vs of type T, in block g. -/
def OwnG (w : World) (base : Nat) (T : TypeId) (g cap : Nat) (vs : List Value) : Prop := w.ownsRow base T 1 (.slice (some ⟨g, 0, none⟩) vs.length cap) vs.length vs
theorem OwnG.mem {w : World} {base g cap : Nat} {T : TypeId} {vs : List Value} (h : OwnG w base T g cap vs) : base ≤ g ∧ g < w.heap.size := by
  rcases h.2 with ⟨h', _⟩ | ⟨_, _, _, h', hb, hg, _⟩
  · simp at h'
  · injection h' with h' _ _
    obtain h' := Option.some.inj h'
    injection h' with h'
    subst h'
    exact ⟨hb, lt_of_block hg⟩
theorem OwnG.cap {w : World} {base g cap : Nat} {T : TypeId} {vs : List Value} (h : OwnG w base T g cap vs) : vs.length ≤ cap := by
  rcases h.2 with ⟨h', _⟩ | ⟨_, _, _, h', _, _, hc, _⟩
  · simp at h'
  · injection h' with _ _ h'
    omega
theorem OwnG.cell {w : World} {base g cap : Nat} {T : TypeId} {vs : List Value} (h : OwnG w base T g cap vs) (k : Nat) (hk : k < vs.length) : w.cell? ⟨g, k, none⟩ = some vs[k] := by
  rw [World.ownsRow.cellAt h k (by omega)]
  simp [hk]
theorem OwnG.rdV {w : World} {base g cap : Nat} {T : TypeId} {vs : List Value} (h : OwnG w base T g cap vs) : RdV w w.heap.size (some ⟨g, 0, none⟩) vs := fun _ => ⟨g, 0, rfl, h.mem.2, fun i hi => by rw [Nat.zero_add]; exact h.cell i hi⟩
theorem OwnG.rise {w w' : World} {base g cap : Nat} {T : TypeId} {vs : List Value} (h : OwnG w base T g cap vs) (hb : Below w.heap.size w w') : OwnG w' base T g cap vs :=
  ⟨h.1, h.2.imp id fun ⟨g', c', cur, hv, hg, hc, r⟩ => ⟨g', c', cur, hv, hg, (hb.block g' (lt_of_block hc)).trans hc, r⟩⟩
theorem OwnG.kept {w w' : World} {base g cap : Nat} {T : TypeId} {vs : List Value} {row : Option Nat} (h : OwnG w base T g cap vs) (hg : w.grownBy w' row) (hne : some g ≠ row) : OwnG w' base T g cap vs := World.ownsRow.kept h hg (.inr hne)
theorem OwnG.le {w : World} {base base' g cap : Nat} {T : TypeId} {vs : List Value} (h : OwnG w base T g cap vs) (hb : base' ≤ base) : OwnG w base' T g cap vs :=
  ⟨h.1, h.2.imp id fun ⟨g', c', cur, hv, hg, r⟩ => ⟨g', c', cur, hv, Nat.le_trans hb hg, r⟩⟩
/-- A new block is a row of the call's own. -/
theorem OwnG.new (w : World) (base : Nat) (T : TypeId) (vs : List Value) (hb : base ≤ w.heap.size) (hm : vs.length ≤ 1000000) : OwnG (w.alloc (.cells vs.toArray T)) base T w.heap.size vs.length vs :=
  ⟨by simp, .inr ⟨w.heap.size, vs.length, vs.toArray, rfl, hb, heap_alloc_new w _, Nat.le_refl _, by unfold maxLen; omega, by simp, by rw [Nat.mul_one]; exact List.take_of_length_le (by simp)⟩⟩

/-- append onto a row of the call's own, something. -/
theorem appG (w : World) {ops : Array Oper} {rest : List Oper} {o : Oper} {a : Act} {Q : Exit → Act → World → Prop} (hgd : o.guard = none) (s x : Operand) (Ts T : TypeId) (z : Value) (nb : Nat) (ho : o.op = .call { callee := .builtin .append, args := #[s, x], argTypes := #[Ts, Ts] })
    (hu : Tryz.prog.underlying Ts = some (.slice T)) (hinfo : (Tryz.prog.info? T).map (fun i => (i.zero, i.size, i.bytes)) = some (some z, 1, nb)) (hzs : z.cells.size = 1) (hnb : nb ≤ 1000)
    (base g cap n m c : Nat) (ys xs : List Value) (ad : Addr) (hs : a.eval s = .slice (some ⟨g, 0, none⟩) n cap) (hown : OwnG w base T g cap ys) (hn : ys.length = n) (hx : a.eval x = .slice (some ad) m c) (hm : xs.length = m) (hr : ∀ j (h : j < xs.length), w.cell? (ad.add j) = some xs[j]) (h1 : ∀ u ∈ xs, u.oneCell' = true)
    (hlen : n + m ≤ 1000000) (hpos : 0 < m) (hbase : base ≤ w.heap.size)
    (h : ∀ g' cap' w', OwnG w' base T g' cap' (ys ++ xs) → w.grownBy w' (some g) → (g' = g ∨ g' = w.heap.size) → wpList Tryz.prog ops Q rest (a.put o.dst (.slice (some ⟨g', 0, none⟩) (n + m) cap')) w') : wpList Tryz.prog ops Q (o :: rest) a w := by
  obtain ⟨i0, hi, hz0, hz1, hz2⟩ := info_parts hinfo
  subst hn hm
  have hby : (ys.length + xs.length) * nb ≤ 140737488355328 := Nat.le_trans (Nat.mul_le_mul hlen hnb) (by decide)
  refine wpList_append_lies w hgd s x Ts ho base T i0 z 1 nb hu hi hz0 hz1 hz2 hzs (by decide) _ ys.length ys hs hown ad xs.length c xs hx (by simp) (fun j u hj => ?_) h1 hpos (by unfold maxLen; omega) hby hbase w.heap.size rfl ?_
  · obtain ⟨hjl, rfl⟩ := List.getElem?_eq_some_iff.1 hj
    exact hr j hjl
  · intro g' cap' w' h2 h3 h4 _
    refine h g' cap' w' ?_ h3 (h4.imp (fun e => ?_) id)
    · unfold OwnG
      rw [List.length_append]
      exact h2
    · exact (Option.some.inj e).symm

/-- Whatever lies outside F lies as it lay. -/
structure Kept (F : Nat → Prop) (w w' : World) : Prop where
  os : w'.os = w.os
  tape : w'.tape = w.tape
  output : w'.output = w.output
  size : w.heap.size ≤ w'.heap.size
  block : ∀ k, k < w.heap.size → ¬ F k → w'.heap[k]? = w.heap[k]?
/-- F and all blocks that were made on the way from a to b. -/
def grow (F : Nat → Prop) (a b : World) : Nat → Prop := fun k => F k ∨ (a.heap.size ≤ k ∧ k < b.heap.size)
theorem Kept.refl (F : Nat → Prop) (w : World) : Kept F w w := ⟨rfl, rfl, rfl, Nat.le_refl _, fun _ _ _ => rfl⟩
theorem Kept.trans {F : Nat → Prop} {a b c : World} (h : Kept F a b) (k : Kept (grow F a b) b c) : Kept F a c :=
  ⟨k.os.trans h.os, k.tape.trans h.tape, k.output.trans h.output, Nat.le_trans h.size k.size, fun i hi hn => (k.block i (Nat.lt_of_lt_of_le hi h.size) (fun hg => hg.elim hn (fun hx => absurd hx.1 (Nat.not_le_of_lt hi)))).trans (h.block i hi hn)⟩
theorem Kept.and {F : Nat → Prop} {a b c : World} (h : Kept F a b) (k : Kept F b c) : Kept F a c :=
  ⟨k.os.trans h.os, k.tape.trans h.tape, k.output.trans h.output, Nat.le_trans h.size k.size, fun i hi hn => (k.block i (Nat.lt_of_lt_of_le hi h.size) hn).trans (h.block i hi hn)⟩
theorem Kept.mono {F G : Nat → Prop} {a b : World} (h : Kept F a b) (hfg : ∀ k, k < a.heap.size → F k → G k) : Kept G a b := ⟨h.os, h.tape, h.output, h.size, fun i hi hn => h.block i hi (fun hf => hn (hfg i hi hf))⟩
theorem Kept.of_below {F : Nat → Prop} {w w' : World} (h : Below w.heap.size w w') : Kept F w w' := ⟨h.os, h.tape, h.output, h.size, fun i hi _ => h.block i hi⟩
theorem Kept.below {F : Nat → Prop} {B : Nat} {w w' : World} (h : Kept F w w') (hB : B ≤ w.heap.size) (hF : ∀ k, F k → B ≤ k) : Below B w w' :=
  ⟨h.os, h.tape, h.output, h.size, fun k hk => h.block k (by omega) (fun hf => by have := hF k hf; omega)⟩
theorem Kept.grown {F : Nat → Prop} {a w w' : World} {row : Option Nat} (h : Kept F a w) (hg : w.grownBy w' row) (hr : ∀ k, row = some k → F k ∨ a.heap.size ≤ k) : Kept F a w' :=
  ⟨hg.os.trans h.os, hg.tape.trans h.tape, hg.output.trans h.output, Nat.le_trans h.size hg.size, fun i hi hn => (hg.block i (Nat.lt_of_lt_of_le hi h.size) (fun e => by
    rcases hr i e.symm with hf | hs
    · exact hn hf
    · omega)).trans (h.block i hi hn)⟩
theorem Kept.put {F : Nat → Prop} {a w : World} (h : Kept F a w) {g : Nat} (hg : F g ∨ a.heap.size ≤ g) (o : Nat) (v : Value) : Kept F a (w.setCell ⟨g, o, none⟩ v) :=
  h.grown (grown_put (World.grownBy.refl w _) o v) (fun k e => by obtain rfl := Option.some.inj e; exact hg)
theorem Kept.alloc {F : Nat → Prop} {a w : World} (h : Kept F a w) (o : Obj) : Kept F a (w.alloc o) := h.grown (World.grownBy_alloc w o none) (fun k e => by cases e)
theorem Kept.drew {F : Nat → Prop} {a w : World} (h : Kept F a w) : Kept F a w.drew := ⟨h.os, h.tape, h.output, h.size, h.block⟩
theorem Kept.blk {F : Nat → Prop} {w w' : World} {g : Nat} {T : TypeId} {cs : List Value} (h : Kept F w w') (hb : Blk w g T cs) (hn : ¬ F g) : Blk w' g T cs := (h.block g (lt_of_block hb) hn).trans hb
theorem Kept.cell {F : Nat → Prop} {w w' : World} {p : Addr} {v : Value} (h : Kept F w w') (hc : w.cell? p = some v) (hn : ¬ F p.block) : w'.cell? p = some v := by
  have hlt : p.block < w.heap.size := by
    apply Classical.byContradiction
    intro hge
    have : w.heap[p.block]? = none := Array.getElem?_eq_none (by omega)
    simp [World.cell?, this] at hc
  rw [World.cell?_of_block (w := w) (h.block p.block hlt hn)]
  exact hc

theorem kept_put (w : World) (g o : Nat) (v : Value) : Kept (fun k => k = g) w (w.setCell ⟨g, o, none⟩ v) := (Kept.refl (fun k => k = g) w).put (.inl rfl) o v

/-- Where something is read it lies in F. -/
def InF (F : Nat → Prop) (A : Option Addr) : Prop := ∀ b o x, A = some ⟨b, o, x⟩ → F b
theorem InF.mono {F G : Nat → Prop} {A : Option Addr} (h : InF F A) (hfg : ∀ k, F k → G k) : InF G A := fun b o x e => hfg _ (h b o x e)
theorem InF.none (F : Nat → Prop) : InF F none := fun _ _ _ e => by cases e
theorem InF.one {F : Nat → Prop} {g o : Nat} (h : F g) : InF F (some ⟨g, o, Option.none⟩) := fun b o x e => by have e := Option.some.inj e; injection e with e; subst e; exact h
/-- .. if there is something. -/
def InN (n : Nat) (F : Nat → Prop) (A : Option Addr) : Prop := 0 < n → InF F A
theorem InN.mono {n : Nat} {F G : Nat → Prop} {A : Option Addr} (h : InN n F A) (hfg : ∀ k, F k → G k) : InN n G A := fun hp => (h hp).mono hfg
theorem InF.n {n : Nat} {F : Nat → Prop} {A : Option Addr} (h : InF F A) : InN n F A := fun _ => h
theorem RdV.keep {F : Nat → Prop} {w w' : World} {A : Option Addr} {vs : List Value} (h : RdV w w.heap.size A vs) (hk : Kept F w w') (hn : InN vs.length (fun k => ¬ F k) A) : RdV w' w'.heap.size A vs := by
  intro hp
  obtain ⟨b, o, hA, hlt, hc⟩ := h hp
  exact ⟨b, o, hA, Nat.lt_of_lt_of_le hlt hk.size, fun i hi => hk.cell (hc i hi) (hn hp _ _ _ hA)⟩

/-- The value v is a slice of these cells, within F. -/
def RowF (F : Nat → Prop) (w : World) (v : Value) (vs : List Value) : Prop := ∃ A c, v = .slice A vs.length c ∧ vs.length ≤ c ∧ RdV w w.heap.size A vs ∧ InN vs.length F A ∧ (A = none → c = 0)
theorem RowF.keep {F G : Nat → Prop} {w w' : World} {v : Value} {vs : List Value} (h : RowF F w v vs) (hk : Kept G w w') (hn : ∀ k, F k → ¬ G k) : RowF F w' v vs := by
  obtain ⟨A, c, e, hc, hr, hf, h0⟩ := h
  exact ⟨A, c, e, hc, hr.keep hk (hf.mono hn), hf, h0⟩
theorem RowF.up {F : Nat → Prop} {w w' : World} {v : Value} {vs : List Value} (h : RowF F w v vs) (hb : Below w.heap.size w w') : RowF F w' v vs := h.keep (G := fun _ => False) (Kept.of_below hb) (fun _ _ => id)
theorem RowF.mono {F G : Nat → Prop} {w : World} {v : Value} {vs : List Value} (h : RowF F w v vs) (hfg : ∀ k, F k → G k) : RowF G w v vs := by
  obtain ⟨A, c, e, hc, hr, hf, h0⟩ := h
  exact ⟨A, c, e, hc, hr, hf.mono hfg, h0⟩
theorem RowF.nil (F : Nat → Prop) (w : World) : RowF F w (.slice none 0 0) [] := ⟨none, 0, rfl, by simp, RdV.nil, (InF.none _).n, fun _ => rfl⟩

/-- Numbers as cells. -/
def iCells (l : List Int) : List Value := l.map (Value.int .i64)
theorem iCells_len (l : List Int) : (iCells l).length = l.length := by simp [iCells]
theorem iCells_one {l : List Int} : ∀ u ∈ iCells l, u.oneCell' = true := by
  intro u hu
  simp only [iCells, List.mem_map] at hu
  obtain ⟨y, _, rfl⟩ := hu
  rfl
theorem Blk.at {w : World} {g : Nat} {T : TypeId} {cs : List Value} (h : Blk w g T cs) {k : Nat} {v : Value} (hk : cs[k]? = some v) : w.cell? ⟨g, k, none⟩ = some v := by
  obtain ⟨hl, rfl⟩ := List.getElem?_eq_some_iff.1 hk
  exact h.cell k hl
theorem set_at {cs : List Value} {k : Nat} {v x : Value} (h : cs[k]? = some x) : (cs.set k v)[k]? = some v := by
  rw [List.getElem?_set_self]
  exact (List.getElem?_eq_some_iff.1 h).1
theorem set_off {cs : List Value} {k j : Nat} {v : Value} (h : k ≠ j) : (cs.set k v)[j]? = cs[j]? := List.getElem?_set_ne h
theorem below_grown {w0 w w' : World} {row : Option Nat} (h : Below w0.heap.size w0 w) (hg : w.grownBy w' row) (hr : ∀ k, row = some k → w0.heap.size ≤ k) : Below w0.heap.size w0 w' :=
  ((Kept.of_below (F := fun _ => False) h).grown hg (fun k e => .inr (hr k e))).below (Nat.le_refl _) (fun k hk => hk.elim)
end Go.Proofs.YtajccmkdfmpapaaGreatDoor
namespace Go.Proofs.YtajccmkdfmpapaaGreatDoor
open Go.RowKit

theorem fk_len {α : Type} (f : α → List Value) (k : Nat) (hk : ∀ a, (f a).length = k) : ∀ L : List α, (L.flatMap f).length = L.length * k
  | [] => by simp
  | a :: L => by rw [List.flatMap_cons, List.length_append, hk, fk_len f k hk L, List.length_cons, Nat.add_mul]; omega
theorem fk_get {α : Type} (f : α → List Value) (k : Nat) (hk : ∀ a, (f a).length = k) : ∀ (L : List α) (i j : Nat) (h : i < L.length), j < k → (L.flatMap f)[i * k + j]? = (f L[i])[j]?
  | [], i, j, h, _ => by simp at h
  | a :: L, 0, j, _, hj => by
    rw [List.flatMap_cons, List.getElem?_append_left (by rw [hk]; omega)]
    simp
  | a :: L, i + 1, j, h, hj => by
    rw [List.flatMap_cons, List.getElem?_append_right (by rw [hk, Nat.add_mul]; omega), hk, show (i + 1) * k + j - k = i * k + j by rw [Nat.add_mul]; omega]
    exact fk_get f k hk L i j (by simpa using h) hj
/-- A row of a call's own, nil if there is nothing: n elements of k cells. -/
def OwnK (w : World) (base : Nat) (T : TypeId) (k : Nat) (v : Value) (n : Nat) (cs : List Value) : Prop := w.ownsRow base T k v n cs
section
variable {w w' : World} {base base' k n : Nat} {T : TypeId} {v : Value} {cs : List Value}
theorem OwnK.up (h : OwnK w base T k v n cs) (hb : Below w.heap.size w w') : OwnK w' base T k v n cs :=
  ⟨h.1, h.2.imp id fun ⟨g', c', cur, hv, hg, hc, r⟩ => ⟨g', c', cur, hv, hg, (hb.block g' (lt_of_block hc)).trans hc, r⟩⟩
theorem OwnK.le (h : OwnK w base T k v n cs) (hb : base' ≤ base) : OwnK w base' T k v n cs :=
  ⟨h.1, h.2.imp id fun ⟨g', c', cur, hv, hg, r⟩ => ⟨g', c', cur, hv, Nat.le_trans hb hg, r⟩⟩
theorem OwnK.keep {G : Nat → Prop} (h : OwnK w base T k v n cs) (hk : Kept G w w') (hn : ∀ g, base ≤ g → ¬ G g) : OwnK w' base T k v n cs :=
  ⟨h.1, h.2.imp id fun ⟨g', c', cur, hv, hb, hc, r⟩ => ⟨g', c', cur, hv, hb, (hk.block g' (lt_of_block hc) (hn g' hb)).trans hc, r⟩⟩
theorem OwnK.own (h : OwnK w base T k v n cs) : ∀ j, v.ownBlock = some j → base ≤ j := by
  rcases h.2 with ⟨rfl, _⟩ | ⟨g, cap, cur, rfl, hb, hg, _⟩
  · intro j hj
    cases hj
  · intro j hj
    simp [Value.ownBlock] at hj
    subst hj
    exact hb
theorem OwnK.form (h : OwnK w base T k v n cs) : ∃ A c, v = .slice A n c ∧ n ≤ c ∧ c ≤ maxLen ∧ (A = none → c = 0) := by
  rcases h.2 with ⟨rfl, rfl⟩ | ⟨g, cap, cur, rfl, _, _, h1, h2, _⟩
  · exact ⟨_, _, rfl, Nat.le_refl _, Nat.zero_le _, fun _ => rfl⟩
  · exact ⟨_, _, rfl, h1, h2, fun e => by cases e⟩
theorem OwnK.rd {A : Option Addr} {c : Nat} (h : OwnK w base T k (.slice A n c) n cs) : RdV w w.heap.size A cs := by
  intro hp
  rcases h.2 with ⟨_, h0⟩ | ⟨g, cap, cur, hv, hb, hg, hc, _, hs, ht⟩
  · have := h.1
    rw [h0, Nat.zero_mul] at this
    omega
  · injection hv with h1
    refine ⟨g, 0, h1, lt_of_block hg, fun i hi => ?_⟩
    have hu : cs[i]? = some cs[i] := List.getElem?_eq_getElem hi
    generalize cs[i] = u at hu ⊢
    rw [← ht, List.getElem?_take] at hu
    split at hu
    · rw [Nat.zero_add, cell_of_row w g i cur T (0, 0) hg]
      rw [Array.getElem?_toList] at hu
      exact hu
    · cases hu
theorem OwnK.new (w : World) (base : Nat) (T : TypeId) (k n : Nat) (cs : List Value) (hb : base ≤ w.heap.size) (hl : cs.length = n * k) (hn : n ≤ 100000) : OwnK (w.alloc (.cells cs.toArray T)) base T k (.slice (some ⟨w.heap.size, 0, none⟩) n n) n cs :=
  ⟨hl, .inr ⟨w.heap.size, n, cs.toArray, rfl, hb, heap_alloc_new w _, Nat.le_refl _, by unfold maxLen; omega, by simp [hl], by simp [← hl]⟩⟩
theorem OwnK.nil (w : World) (base : Nat) (T : TypeId) (k : Nat) : OwnK w base T k (.slice none 0 0) 0 [] := ⟨by simp, .inl ⟨rfl, rfl⟩⟩
end
theorem srcK {w : World} {A : Option Addr} {ad : Addr} {xs : List Value} (h : RdV w w.heap.size A xs) (hA : A = some ad) : ∀ j u, xs[j]? = some u → w.cell? (ad.add j) = some u := by
  intro j u hj
  obtain ⟨hjl, rfl⟩ := List.getElem?_eq_some_iff.1 hj
  obtain ⟨b', o', hA', _, hc⟩ := h (by omega)
  rw [hA] at hA'
  obtain rfl := Option.some.inj hA'
  have := hc j hjl
  rcases j with _ | j
  · simpa [Addr.add] using this
  · simpa [Addr.add] using this
theorem wp_appP (w : World) {o : Oper} {a : Act} {K : Act → World → Prop} {Q : Exit → Act → World → Prop} (s x : Operand) (Ts T : TypeId) (z : Value) (k nb : Nat) (ho : o.op = .call { callee := .builtin .append, args := #[s, x], argTypes := #[Ts, Ts] })
    (hu : Tryz.prog.underlying Ts = some (.slice T)) (hinfo : (Tryz.prog.info? T).map (fun i => (i.zero, i.size, i.bytes)) = some (some z, k, nb)) (hzs : z.cells.size = k) (hk : 0 < k) (hnb : nb ≤ 1000)
    (base n m c : Nat) (v : Value) (ys xs : List Value) (A : Option Addr) (hs : a.eval s = v) (hown : OwnK w base T k v n ys) (hx : a.eval x = .slice A m c) (hm : xs.length = m * k) (hr : RdV w w.heap.size A xs) (hA : A = none → c = 0) (h1 : ∀ u ∈ xs, u.oneCell' = true)
    (hlen : n + m ≤ 1000000) (hbase : base ≤ w.heap.size)
    (h : ∀ v' w', OwnK w' base T k v' (n + m) (ys ++ xs) → w.grownBy w' v.ownBlock → K (a.put o.dst v') w') : o.wp Tryz.prog a w K Q := by
  obtain ⟨i0, hi, hz0, hz1, hz2⟩ := info_parts hinfo
  have hby : (n + m) * nb ≤ 140737488355328 := Nat.le_trans (Nat.mul_le_mul hlen hnb) (by decide)
  cases A with
  | none =>
    have h0 : xs = [] := by
      rcases Nat.eq_zero_or_pos xs.length with h0 | h0
      · exact List.eq_nil_of_length_eq_zero h0
      · obtain ⟨b, o', hA', _⟩ := hr h0
        cases hA'
    subst h0
    have hm0 : m = 0 := by
      rcases Nat.eq_zero_or_pos m with h0 | h0
      · exact h0
      · have := Nat.mul_pos h0 hk
        simp at hm
        omega
    subst hm0
    obtain rfl := hA rfl
    have hrun := run_append_owned_none (P := Tryz.prog) (w := w) base Ts o.type T i0 k hu hi v n ys (by rw [← hz1] at hown ⊢; exact hown)
    unfold Oper.wp
    simp only [execOp, ho, resolve, invoke, builtin, hs, hx, hrun, Sem.run_bind, Sem.run_pure, Result.andThen_ok, List.map_toArray, List.map_cons, List.map_nil]
    exact h v w (by rw [List.append_nil]; exact hown) (World.grownBy.refl w _)
  | some ad =>
    exact wp_append_own w s x Ts ho base T i0 z k nb hu hi hz0 hz1 hz2 hzs hk v n ys hs hown ad m c xs hx hm (srcK hr rfl) h1 (by unfold maxLen; omega) hby hbase fun v' w' h2 h3 _ => h v' w' h2 h3
theorem stepP (w : World) {ops : Array Oper} {o : Oper} {a : Act} {K : Act → World → Prop} {Q : Exit → Act → World → Prop} {E : Prop} (hgd : o.guard = none) (s x : Operand) (Ts T : TypeId) (z : Value) (k nb : Nat) (ho : o.op = .call { callee := .builtin .append, args := #[s, x], argTypes := #[Ts, Ts] })
    (hu : Tryz.prog.underlying Ts = some (.slice T)) (hinfo : (Tryz.prog.info? T).map (fun i => (i.zero, i.size, i.bytes)) = some (some z, k, nb)) (hzs : z.cells.size = k) (hk : 0 < k) (hnb : nb ≤ 1000)
    (base n m c : Nat) (v : Value) (ys xs : List Value) (A : Option Addr) (hs : a.eval s = v) (hown : OwnK w base T k v n ys) (hx : a.eval x = .slice A m c) (hm : xs.length = m * k) (hr : RdV w w.heap.size A xs) (hA : A = none → c = 0) (h1 : ∀ u ∈ xs, u.oneCell' = true)
    (hlen : n + m ≤ 1000000) (hbase : base ≤ w.heap.size)
    (h : ∀ v' w', OwnK w' base T k v' (n + m) (ys ++ xs) → w.grownBy w' v.ownBlock → K (a.put o.dst v') w') : if Region.wanted o (yielded ops a.tmps) = true then Oper.wp Tryz.prog o a w K Q else E := by
  have hw : Region.wanted o (yielded ops a.tmps) = true := by simp [Region.wanted, hgd]
  rw [if_pos hw]
  exact wp_appP w s x Ts T z k nb ho hu hinfo hzs hk hnb base n m c v ys xs A hs hown hx hm hr hA h1 hlen hbase h
theorem appP (w : World) {ops : Array Oper} {rest : List Oper} {o : Oper} {a : Act} {Q : Exit → Act → World → Prop} (hgd : o.guard = none) (s x : Operand) (Ts T : TypeId) (z : Value) (k nb : Nat) (ho : o.op = .call { callee := .builtin .append, args := #[s, x], argTypes := #[Ts, Ts] })
    (hu : Tryz.prog.underlying Ts = some (.slice T)) (hinfo : (Tryz.prog.info? T).map (fun i => (i.zero, i.size, i.bytes)) = some (some z, k, nb)) (hzs : z.cells.size = k) (hk : 0 < k) (hnb : nb ≤ 1000)
    (base n m c : Nat) (v : Value) (ys xs : List Value) (A : Option Addr) (hs : a.eval s = v) (hown : OwnK w base T k v n ys) (hx : a.eval x = .slice A m c) (hm : xs.length = m * k) (hr : RdV w w.heap.size A xs) (hA : A = none → c = 0) (h1 : ∀ u ∈ xs, u.oneCell' = true)
    (hlen : n + m ≤ 1000000) (hbase : base ≤ w.heap.size)
    (h : ∀ v' w', OwnK w' base T k v' (n + m) (ys ++ xs) → w.grownBy w' v.ownBlock → wpList Tryz.prog ops Q rest (a.put o.dst v') w') : wpList Tryz.prog ops Q (o :: rest) a w :=
  wpList_plain hgd fun _ hK => wp_appP w s x Ts T z k nb ho hu hinfo hzs hk hnb base n m c v ys xs A hs hown hx hm hr hA h1 hlen hbase fun v' w' h2 h3 => hK _ _ (h v' w' h2 h3)
end Go.Proofs.YtajccmkdfmpapaaGreatDoor
namespace Go.Proofs.YtajccmkdfmpapaaGreatDoor
open Go.RowKit

theorem OwnK.set {w : World} {base k n c g i : Nat} {T : TypeId} {cs : List Value} (h : OwnK w base T k (.slice (some ⟨g, 0, none⟩) n c) n cs) (u : Value) : OwnK (w.setCell ⟨g, i, none⟩ u) base T k (.slice (some ⟨g, 0, none⟩) n c) n (cs.set i u) := by
  refine ⟨by rw [List.length_set]; exact h.1, ?_⟩
  rcases h.2 with ⟨e, _⟩ | ⟨g', cap, cur, hv, hb, hg, hc, hm, hs, ht⟩
  · cases e
  · injection hv with e1 e2 e3
    have e1 := Option.some.inj e1
    injection e1 with e1
    subst e1
    refine .inr ⟨g, cap, cur.setIfInBounds i u, by rw [e3], hb, heap_setCell_same w g i cur T u hg, hc, hm, by simp [hs], ?_⟩
    rw [Array.toList_setIfInBounds, List.take_set, ht]
theorem OwnK.free {w : World} {base k n c g : Nat} {T : TypeId} {cs : List Value} (h : OwnK w base T k (.slice (some ⟨g, 0, none⟩) n c) n cs) (i : Nat) : w.frozen? ⟨g, i, none⟩ = false := by
  rcases h.2 with ⟨e, _⟩ | ⟨g', cap, cur, hv, hb, hg, hc, hm, hs, ht⟩
  · cases e
  · injection hv with e1
    have e1 := Option.some.inj e1
    injection e1 with e1
    subst e1
    exact frozen_of_row w g i cur T hg
theorem OwnK.off {w : World} {base k n c b o : Nat} {T : TypeId} {cs : List Value} (h : OwnK w base T k (.slice (some ⟨b, o, none⟩) n c) n cs) : o = 0 := by
  rcases h.2 with ⟨e, _⟩ | ⟨g, cap, cur, hv, _⟩
  · cases e
  · injection hv with e1
    have e1 := Option.some.inj e1
    injection e1
theorem OwnK.blockLt {w : World} {base k n : Nat} {T : TypeId} {v : Value} {cs : List Value} (h : OwnK w base T k v n cs) : ∀ j, v.ownBlock = some j → j < w.heap.size := by
  rcases h.2 with ⟨rfl, _⟩ | ⟨g, cap, cur, rfl, hb, hg, _⟩
  · intro j hj
    cases hj
  · intro j hj
    simp [Value.ownBlock] at hj
    subst hj
    exact lt_of_block hg
/-- An entry's cells. -/
def ceC (e : CE) : List Value := [.int .i64 (e.b : Int), .int .u32 (e.a : Int), .bool e.d]
def cesC (L : List CE) : List Value := L.flatMap ceC
theorem cesC_len (L : List CE) : (cesC L).length = L.length * 3 := fk_len ceC 3 (fun _ => rfl) L
theorem cesC_at {L : List CE} {i : Nat} (h : i < L.length) : (cesC L)[i * 3]? = some (.int .i64 (L[i].b : Int)) ∧ (cesC L)[i * 3 + 1]? = some (.int .u32 (L[i].a : Int)) ∧ (cesC L)[i * 3 + 2]? = some (.bool L[i].d) := ⟨fk_get ceC 3 (fun _ => rfl) L i 0 h (by omega), fk_get ceC 3 (fun _ => rfl) L i 1 h (by omega), fk_get ceC 3 (fun _ => rfl) L i 2 h (by omega)⟩
theorem cesC_one (L : List CE) : ∀ u ∈ cesC L, u.oneCell' = true := by
  intro u hu
  obtain ⟨e, _, he⟩ := List.mem_flatMap.1 hu
  simp only [ceC, List.mem_cons, List.not_mem_nil, or_false] at he
  rcases he with rfl | rfl | rfl <;> rfl
theorem cesC_app (A B : List CE) : cesC (A ++ B) = cesC A ++ cesC B := by simp [cesC]
theorem ceInfo : (Tryz.prog.info? 59).map (fun i => (i.zero, i.size, i.bytes)) = some (some (.agg #[.int .i64 0, .int .u32 0, .bool false]), 3, 16) := by kernel_rfl
theorem ces_cells {w : World} {b o : Nat} {L : List CE} (h : ∀ i (h : i < (cesC L).length), w.cell? ⟨b, o + i, none⟩ = some (cesC L)[i]) (k : Nat) (hk : k < L.length) : w.cell? ⟨b, o + k * 3, none⟩ = some (.int .i64 (L[k].b : Int)) ∧ w.cell? ⟨b, o + k * 3 + 1, none⟩ = some (.int .u32 (L[k].a : Int)) ∧ w.cell? ⟨b, o + k * 3 + 2, none⟩ = some (.bool L[k].d) := by
  obtain ⟨h0, h1, h2⟩ := cesC_at hk
  obtain ⟨l0, e0⟩ := List.getElem?_eq_some_iff.1 h0
  obtain ⟨l1, e1⟩ := List.getElem?_eq_some_iff.1 h1
  obtain ⟨l2, e2⟩ := List.getElem?_eq_some_iff.1 h2
  rw [h _ l0, e0, Nat.add_assoc, h _ l1, e1, Nat.add_assoc, h _ l2, e2]
  exact ⟨rfl, rfl, rfl⟩
theorem cesC_set1 : ∀ {L : List CE} {i : Nat} (h : i < L.length) (y : Nat), cesC (L.set i { L[i] with a := y }) = (cesC L).set (i * 3 + 1) (.int .u32 (y : Int))
  | e :: L, 0, _, y => rfl
  | e :: L, i + 1, h, y => by
    have ih := cesC_set1 (L := L) (i := i) (by simpa using h) y
    show ceC e ++ cesC (L.set i { L[i]'(by simpa using h) with a := y }) = (ceC e ++ cesC L).set ((i + 1) * 3 + 1) _
    rw [ih, show (i + 1) * 3 + 1 = i * 3 + 1 + 1 + 1 + 1 by omega]
    rfl
theorem cesC_set2 : ∀ {L : List CE} {i : Nat} (h : i < L.length) (d : Bool), cesC (L.set i { L[i] with d := d }) = (cesC L).set (i * 3 + 2) (.bool d)
  | e :: L, 0, _, d => rfl
  | e :: L, i + 1, h, d => by
    have ih := cesC_set2 (L := L) (i := i) (by simpa using h) d
    show ceC e ++ cesC (L.set i { L[i]'(by simpa using h) with d := d }) = (ceC e ++ cesC L).set ((i + 1) * 3 + 2) _
    rw [ih, show (i + 1) * 3 + 2 = i * 3 + 2 + 1 + 1 + 1 by omega]
    rfl
/-- A row of entries of one's own. -/
def DirtyIs (l : List CE) (w : World) (r : Ending) (w' : World) : Prop := ∃ v, r = .returned v ∧ OwnK w' w.heap.size 59 3 v l.length (cesC l) ∧ Below w.heap.size w w'
end Go.Proofs.YtajccmkdfmpapaaGreatDoor
namespace Go.Proofs.YtajccmkdfmpapaaGreatDoor
open Go.RowKit

theorem intInfo : (Tryz.prog.info? 3).map (fun i => (i.zero, i.size, i.bytes)) = some (some (.int .i64 0), 1, 8) := by kernel_rfl
theorem append_zeroI (w : World) (ty : TypeId) (A A' : Option Addr) (s cap c' : Nat) (hs : s ≤ cap) : (Builtin.append_ #[43, 43] ty #[.slice A s cap, .slice A' 0 c']).run Tryz.prog w = .ok (.slice A s cap) w := by
  obtain ⟨i0, hi, hz0, hz1, hz2⟩ := info_parts intInfo
  refine run_append_nothing w 43 43 ty 3 i0 Tryz.underlying43 hi A s cap hs (.slice A' 0 c') ⟨.inl ⟨3, Tryz.underlying43⟩, fun w' => by simp [Builtin.lenOf], ?_, ?_, by simp, fun u hu => by cases hu⟩
  · cases A' <;> simp [Builtin.firstCells, loadCells, loadCellsFrom]
  · cases A' <;> simp [Builtin.firstCells, loadCells, loadCellsFrom]
/-- append of numbers that are read, onto a row of numbers of the call's own. -/
theorem appI (w : World) {ops : Array Oper} {rest : List Oper} {o : Oper} {a : Act} {Q : Exit → Act → World → Prop} (hgd : o.guard = none) (s x : Operand) (ho : o.op = .call { callee := .builtin .append, args := #[s, x], argTypes := #[43, 43] })
    (base B g cap n m c : Nat) (ys xs : List Int) (A : Option Addr) (hs : a.eval s = .slice (some ⟨g, 0, none⟩) n cap) (hown : OwnG w base 3 g cap (iCells ys)) (hn : ys.length = n) (hx : a.eval x = .slice A m c) (hr : RdV w B A (iCells xs)) (hm : xs.length = m)
    (hlen : n + m ≤ 1000000) (hbase : base ≤ w.heap.size)
    (h : ∀ g' cap' w', OwnG w' base 3 g' cap' (iCells (ys ++ xs)) → w.grownBy w' (some g) → (g' = g ∨ g' = w.heap.size) → wpList Tryz.prog ops Q rest (a.put o.dst (.slice (some ⟨g', 0, none⟩) (n + m) cap')) w') : wpList Tryz.prog ops Q (o :: rest) a w := by
  rcases Nat.eq_zero_or_pos m with h0 | hp
  · subst h0
    have h0 : xs = [] := List.eq_nil_of_length_eq_zero hm
    subst h0
    have hc := hown.cap
    rw [iCells_len, hn] at hc
    refine wpList_plain hgd fun K hK => ?_
    have hrun := append_zeroI w o.type (some ⟨g, 0, none⟩) A n cap c hc
    unfold Oper.wp
    simp [execOp, ho, resolve, invoke, builtin, hs, hx, hrun, Result.andThen]
    refine hK _ _ ?_
    have := h g cap w (by rw [List.append_nil]; exact hown) (World.grownBy.refl w _) (.inl rfl)
    rwa [Nat.add_zero] at this
  · have hrow : 0 < (iCells xs).length := by rw [iCells_len]; omega
    obtain ⟨b, o', rfl, _, hc⟩ := hr hrow
    refine appG w hgd s x 43 3 (.int .i64 0) 8 ho Tryz.underlying43 intInfo rfl (by decide) base g cap n m c (iCells ys) (iCells xs) ⟨b, o', none⟩ hs hown (by rw [iCells_len]; exact hn) hx (by rw [iCells_len]; exact hm) (fun j hj => by
      have := hc j hj
      rcases j with _ | j
      · simpa [Addr.add] using this
      · simpa [Addr.add] using this) iCells_one hlen hp hbase ?_
    intro g' cap' w' h1 h2 h3
    refine h g' cap' w' ?_ h2 h3
    simpa [iCells] using h1
def nats (l : List Nat) : List Int := l.map (fun (x : Nat) => (x : Int))
theorem nats_len (l : List Nat) : (nats l).length = l.length := by simp [nats]
theorem nats_snoc (l : List Nat) (x : Nat) : iCells (nats (l ++ [x])) = iCells (nats l) ++ [.int .i64 (x : Int)] := by simp [iCells, nats]
/-- A list of one's own. -/
def ListIs (l : List Nat) (w : World) (r : Ending) (w' : World) : Prop := ∃ A c, r = .returned (.slice A l.length c) ∧ RowF (fun k => w.heap.size ≤ k) w' (.slice A l.length c) (iCells (nats l)) ∧ Below w.heap.size w w'
theorem RowF.rdI {F : Nat → Prop} {w : World} {A : Option Addr} {n c : Nat} {xs : List Int} (h : RowF F w (.slice A n c) (iCells xs)) : RdV w w.heap.size A (iCells xs) ∧ xs.length = n ∧ n ≤ c := by
  obtain ⟨A', c', e, hc, hr, _⟩ := h
  injection e with e1 e2 e3
  subst e1 e2 e3
  exact ⟨hr, (iCells_len _).symm, hc⟩
theorem rdv_i {w : World} {B b o : Nat} {xs : List Int} (h : ∀ i (h : i < (iCells xs).length), w.cell? ⟨b, o + i, none⟩ = some (iCells xs)[i]) (k : Nat) (hk : k < xs.length) : w.cell? ⟨b, o + k, none⟩ = some (.int .i64 xs[k]) := by
  rw [h k (by rw [iCells_len]; exact hk)]
  simp [iCells]
theorem row_rd (w : World) (vs : List Value) : RdV (w.alloc (.cells vs.toArray 3)) (w.alloc (.cells vs.toArray 3)).heap.size (some ⟨w.heap.size, 0, none⟩) vs := fun _ =>
  ⟨w.heap.size, 0, rfl, by simp, fun i hi => by rw [Nat.zero_add]; exact Blk.cell (T := 3) (heap_alloc_new w _) i hi⟩
end Go.Proofs.YtajccmkdfmpapaaGreatDoor
namespace Go.Proofs.YtajccmkdfmpapaaGreatDoor
open Go.RowKit

/-- A row of slots' numbers of the call's own. -/
def NatR (w : World) (base g cap : Nat) (l : List Nat) : Prop := OwnG w base 3 g cap (iCells (nats l))
theorem NatR.new (w : World) (base : Nat) (hb : base ≤ w.heap.size) (l : List Nat) (hl : l.length ≤ 1000) : NatR (w.alloc (.cells (iCells (nats l)).toArray 3)) base w.heap.size l.length l := by
  have := OwnG.new w base 3 (iCells (nats l)) hb (by rw [iCells_len, nats_len]; omega)
  rw [iCells_len, nats_len] at this
  exact this
theorem NatR.keep {F : Nat → Prop} {w w' : World} {base g cap : Nat} {l : List Nat} (h : NatR w base g cap l) (hk : Kept F w w') (hn : ¬ F g) : NatR w' base g cap l := by
  refine ⟨h.1, h.2.imp id fun ⟨g', c', cur, hv, hg, hc, r⟩ => ⟨g', c', cur, hv, hg, ?_, r⟩⟩
  have hv' := hv
  injection hv' with h1
  have h1 := Option.some.inj h1
  injection h1 with h1
  subst h1
  exact (hk.block g (lt_of_block hc) hn).trans hc
theorem NatR.up {w w' : World} {base g cap : Nat} {l : List Nat} (h : NatR w base g cap l) (hb : Below w.heap.size w w') : NatR w' base g cap l := h.keep (F := fun _ => False) (Kept.of_below hb) id
theorem NatR.rd {w : World} {base g cap : Nat} {l : List Nat} (h : NatR w base g cap l) : RdV w w.heap.size (some ⟨g, 0, none⟩) (iCells (nats l)) := OwnG.rdV h
theorem NatR.cell {w : World} {base g cap : Nat} {l : List Nat} (h : NatR w base g cap l) (k : Nat) (hk : k < l.length) : w.cell? ⟨g, k, none⟩ = some (.int .i64 (l[k] : Int)) := by
  rw [OwnG.cell h k (by rw [iCells_len, nats_len]; exact hk)]
  simp [iCells, nats]
theorem NatR.mem {w : World} {base g cap : Nat} {l : List Nat} (h : NatR w base g cap l) : base ≤ g ∧ g < w.heap.size := OwnG.mem h
theorem nats_app (a b : List Nat) : nats (a ++ b) = nats a ++ nats b := by simp [nats]
end Go.Proofs.YtajccmkdfmpapaaGreatDoor
