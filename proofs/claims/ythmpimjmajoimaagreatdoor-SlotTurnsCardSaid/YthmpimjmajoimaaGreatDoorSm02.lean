/-
  Bytes in memory: a call's own rows, appends; an ending that answers true. For whatever program that has bytes.
  Blocks by their cells, rows of a call's own; numbers as bytes, laid one behind the other. For whatever program that has bytes.
  Rows of one-cell elements of whatever type in memory: read (RdV), a call's own (OwnG), and append onto them; rows of rows of bytes (RdR).
  Footprints: the blocks that a structure in memory owns; what a call that writes to them alone keeps; rows of rows of bytes within a footprint.
-/
import Derived.Test.YthmpimjmajoimaaGreatDoorSm01
import Derived.Laws.AppendOwnNone
import Derived.Laws.OwnMore
import Derived.Laws.MakeOwn
import Derived.OwnWalk
import Derived.Deep.AppendLies
namespace Go.Proofs.YthmpimjmajoimaaGreatDoor
open Go.RowKit

theorem below_all {a b c : World} (h : Below a.heap.size a b) (k : Below b.heap.size b c) : Below a.heap.size a c := h.trans (k.mono h.size)
theorem byt_of {xs : List Int} (h : xs.all (fun x => decide (0 ≤ x) && decide (x ≤ 255)) = true) : Byt xs := fun x hx => by simpa using List.all_eq_true.1 h x hx
def TrueB (w : World) (r : Ending) (w' : World) : Prop := r = .returned (.bool true) ∧ Below w.heap.size w w'

theorem byteInfo : (Tryz.prog.info? 5).map (fun i => (i.zero, i.size, i.bytes)) = some (some (.int .u8 0), 1, 1) := by kernel_rfl
def cellsOf8 (xs : List Int) : List Value := xs.map (Value.int .u8)
theorem cells8_len (xs : List Int) : (cellsOf8 xs).length = xs.length := by simp [cellsOf8]

theorem Rd.of_own {w : World} {base : Nat} {v : Value} {xs : List Int} (h : w.ownsRow base 5 1 v xs.length (cellsOf8 xs)) : ∃ A c, v = .slice A xs.length c ∧ xs.length ≤ c ∧ Rd w w.heap.size A xs := by
  rcases h.2 with ⟨rfl, h0⟩ | ⟨g, cap, cur, rfl, hb, hg, hn, _, _, ht⟩
  · exact ⟨none, 0, by rw [h0], by omega, fun hn => by omega⟩
  · refine ⟨_, cap, rfl, hn, fun hp => ⟨g, 0, rfl, lt_of_block hg, fun i hi => ?_⟩⟩
    have := h.cells (g := g) rfl i (.int .u8 xs[i]) (by simp [cellsOf8, hi])
    rcases i with _ | i
    · simpa [Addr.add] using this
    · simpa [Addr.add, Nat.zero_add] using this

theorem append_rd (w : World) {ops : Array Oper} {rest : List Oper} {o : Oper} {a : Act} {Q : Exit → Act → World → Prop} (hgd : o.guard = none) (s x : Operand) (ho : o.op = .call { callee := .builtin .append, args := #[s, x], argTypes := #[61, 61] })
    (base B : Nat) (v : Value) (ys : List Int) (hs : a.eval s = v) (hown : w.ownsRow base 5 1 v ys.length (cellsOf8 ys)) (A : Option Addr) (xs : List Int) (c : Nat) (hx : a.eval x = .slice A xs.length c) (hr : Rd w B A xs) (hnil : A = none → c = 0)
    (hlen : ys.length + xs.length ≤ 1000000) (hbase : base ≤ w.heap.size)
    (h : ∀ v' w' zs, Hid (zs = ys ++ xs) → w'.ownsRow base 5 1 v' zs.length (cellsOf8 zs) → w.grownBy w' v.ownBlock → wpList Tryz.prog ops Q rest (a.put o.dst v') w') : wpList Tryz.prog ops Q (o :: rest) a w := by
  obtain ⟨i0, hi, hz0, hz1, hz2⟩ := info_parts byteInfo
  cases A with
  | none =>
    have h0 : xs = [] := by
      rcases Nat.eq_zero_or_pos xs.length with h0 | h0
      · exact List.eq_nil_of_length_eq_zero h0
      · obtain ⟨b, o', hA, _⟩ := hr h0
        cases hA
    subst h0
    obtain rfl := hnil rfl
    exact wpList_append_own_none hgd s x 61 ho base 5 i0 1 Tryz.underlying61 hi v ys.length (cellsOf8 ys) hs hown hx (h v w ys (Lib.hid (by simp)) hown (World.grownBy.refl w _))
  | some ad =>
    refine wpList_append_own w hgd s x 61 ho base 5 i0 (.int .u8 0) 1 1 Tryz.underlying61 hi hz0 hz1 hz2 rfl (by decide) v ys.length (cellsOf8 ys) hs hown ad xs.length c (cellsOf8 xs) hx (by simp [cellsOf8]) ?_ ?_ (by unfold maxLen; omega) (by omega) hbase ?_
    · intro j u hj
      simp only [cellsOf8, List.getElem?_map, Option.map_eq_some_iff] at hj
      obtain ⟨y, hy, rfl⟩ := hj
      obtain ⟨hjl, rfl⟩ := List.getElem?_eq_some_iff.1 hy
      obtain ⟨b, o', hA, _, hc⟩ := hr (by omega)
      obtain rfl := Option.some.inj hA
      have := hc j hjl
      rcases j with _ | j
      · simpa [Addr.add] using this
      · simpa [Addr.add] using this
    · intro u hu
      simp only [cellsOf8, List.mem_map] at hu
      obtain ⟨y, _, rfl⟩ := hu
      rfl
    · intro v' w' h1 h2 _
      refine h v' w' (ys ++ xs) (Lib.hid rfl) ?_ h2
      simpa [cellsOf8] using h1

theorem own_empty (w : World) (base : Nat) (hb : base ≤ w.heap.size) : (w.alloc (.cells #[] 5)).ownsRow base 5 1 (.slice (some ⟨w.heap.size, 0, none⟩) 0 0) ([] : List Int).length (cellsOf8 []) :=
  ⟨by simp [cellsOf8], .inr ⟨w.heap.size, 0, #[], rfl, hb, heap_alloc_new w _, Nat.le_refl _, by unfold maxLen; omega, by simp, by simp [cellsOf8]⟩⟩

/-- The call's own row of bytes xs, in block g. -/
def Own8 (w : World) (base g cap : Nat) (xs : List Int) : Prop := w.ownsRow base 5 1 (.slice (some ⟨g, 0, none⟩) xs.length cap) xs.length (cellsOf8 xs)
theorem Own8.cell {w : World} {base g cap : Nat} {xs : List Int} (h : Own8 w base g cap xs) (k : Nat) (hk : k < xs.length) : w.cell? ⟨g, k, none⟩ = some (.int .u8 xs[k]) := by
  rw [World.ownsRow.cellAt h k (by omega)]
  simp [cellsOf8, hk]
theorem Own8.free {w : World} {base g cap : Nat} {xs : List Int} (h : Own8 w base g cap xs) (k : Nat) : w.frozen? ⟨g, k, none⟩ = false := World.ownsRow.frozenAt h k
theorem Own8.put {w : World} {base g cap : Nat} {xs : List Int} (h : Own8 w base g cap xs) (k : Nat) (c : Int) : Own8 (w.setCell ⟨g, k, none⟩ (.int .u8 c)) base g cap (xs.set k c) := by
  have := (World.ownsRow.stored h k (.int .u8 c)).1
  unfold Own8
  rw [List.length_set]
  have e : cellsOf8 (xs.set k c) = (cellsOf8 xs).set k (.int .u8 c) := by simp [cellsOf8, List.map_set]
  rw [e]
  exact this
theorem Own8.rd {w : World} {base g cap : Nat} {xs : List Int} (h : Own8 w base g cap xs) : Rd w w.heap.size (some ⟨g, 0, none⟩) xs := by
  intro hp
  obtain ⟨_, _, hv, hb, hg⟩ := World.ownsRow.form h hp
  injection hv with hv
  injection hv with hv
  injection hv with hv
  subst hv
  exact ⟨g, 0, rfl, hg, fun i hi => by rw [Nat.zero_add]; exact h.cell i hi⟩
theorem Own8.base {w : World} {base g cap : Nat} {xs : List Int} (h : Own8 w base g cap xs) (hp : 0 < xs.length) : base ≤ g ∧ g < w.heap.size := by
  obtain ⟨_, _, hv, hb, hg⟩ := World.ownsRow.form h hp
  injection hv with hv
  injection hv with hv
  injection hv with hv
  subst hv
  exact ⟨hb, hg⟩
theorem Own8.cap {w : World} {base g cap : Nat} {xs : List Int} (h : Own8 w base g cap xs) : xs.length ≤ cap := by
  rcases h.2 with ⟨h', _⟩ | ⟨_, _, _, h', _, _, hc, _⟩
  · simp at h'
  · injection h' with _ _ h'
    omega
theorem Own8.of {w : World} {base : Nat} {v : Value} {xs : List Int} (h : w.ownsRow base 5 1 v xs.length (cellsOf8 xs)) (hp : 0 < xs.length) : ∃ g cap, v = .slice (some ⟨g, 0, none⟩) xs.length cap ∧ Own8 w base g cap xs := by
  obtain ⟨g, cap, rfl, _, _⟩ := World.ownsRow.form h hp
  exact ⟨g, cap, rfl, h⟩
/-- A new row of zeros. -/
def zerosObj (k : Nat) : Obj := .cells (madeCells (Value.int .u8 0).cells (k * 1)) 5
theorem make_zeros (k : Nat) (hk : k ≤ 20000) (w : World) : (Instr.makeSlice 61 (.int .i64 (k : Int)) (.int .i64 (k : Int))).run Tryz.prog w = .ok (.slice (some ⟨w.heap.size, 0, none⟩) k k) (w.alloc (zerosObj k)) := by
  obtain ⟨i0, hi, hz0, hz1, hz2⟩ := info_parts byteInfo
  have := run_make (P := Tryz.prog) w 61 5 i0 (.int .u8 0) Tryz.underlying61 hi hz0 .i64 .i64 (k : Int) (k : Int) (by omega) (Int.le_refl _) (by rw [hz2]; omega) (by omega)
  rw [hz1] at this
  simpa [zerosObj] using this
theorem rd_zeros (w : World) (os : List Int) (h : os = List.replicate os.length 0) : Rd (w.alloc (zerosObj os.length)) (w.heap.size + 1) (some ⟨w.heap.size, 0, none⟩) os := by
  intro hn
  refine ⟨w.heap.size, 0, rfl, by omega, fun i hi => ?_⟩
  have e : os[i] = 0 := List.eq_of_mem_replicate (n := os.length) (by rw [← h]; exact List.getElem_mem hi)
  rw [e]
  have hb : (w.alloc (zerosObj os.length)).heap[w.heap.size]? = some (zerosObj os.length) := heap_alloc_new w _
  rw [Nat.zero_add, cell_of_row _ w.heap.size i (madeCells (Value.int .u8 0).cells (os.length * 1)) 5 (0, 0) hb]
  have hs : i < (madeCells (Value.int .u8 0).cells (os.length * 1)).size := by rw [size_madeCells]; omega
  rw [Array.getElem?_eq_getElem hs]
  simp [madeCells, Value.cells, Nat.mod_one]
end Go.Proofs.YthmpimjmajoimaaGreatDoor
namespace Go.Proofs.YthmpimjmajoimaaGreatDoor
open Go.RowKit

/-- Block g is these cells. -/
def Blk (w : World) (g : Nat) (T : TypeId) (cs : List Value) : Prop := w.heap[g]? = some (.cells cs.toArray T (0, 0))
theorem Blk.cell {w : World} {g : Nat} {T : TypeId} {cs : List Value} (h : Blk w g T cs) (k : Nat) (hk : k < cs.length) : w.cell? ⟨g, k, none⟩ = some cs[k] := by
  rw [cell_of_row w g k cs.toArray T (0, 0) h]
  simp [hk]
theorem Blk.free {w : World} {g : Nat} {T : TypeId} {cs : List Value} (h : Blk w g T cs) (k : Nat) : w.frozen? ⟨g, k, none⟩ = false := frozen_of_row w g k cs.toArray T h
theorem Blk.put {w : World} {g : Nat} {T : TypeId} {cs : List Value} (h : Blk w g T cs) (k : Nat) (u : Value) : Blk (w.setCell ⟨g, k, none⟩ u) g T (cs.set k u) := by
  have := heap_setCell_same w g k cs.toArray T u h
  unfold Blk
  rw [this]
  simp
theorem Blk.up {w w' : World} {B g : Nat} {T : TypeId} {cs : List Value} (h : Blk w g T cs) (hb : Below B w w') (hg : g < B) : Blk w' g T cs := (hb.block g hg).trans h
theorem Blk.kept {w w' : World} {g : Nat} {T : TypeId} {cs : List Value} {row : Option Nat} (h : Blk w g T cs) (hg : w.grownBy w' row) (hne : some g ≠ row) : Blk w' g T cs := (hg.block g (lt_of_block h) hne).trans h
theorem grown_put {w w' : World} {g : Nat} (h : w.grownBy w' (some g)) (k : Nat) (u : Value) : w.grownBy (w'.setCell ⟨g, k, none⟩ u) (some g) :=
  ⟨h.os, h.tape, h.output, by simp [World.setCell]; exact h.size, fun j hj hne => (Below.heap_setCell _ _ _ _ (fun e => hne (by rw [e]))).trans (h.block j hj hne)⟩
theorem grown_drew {w w' : World} {row : Option Nat} (h : w.grownBy w' row) : w.grownBy w'.drew row := ⟨h.os, h.tape, h.output, h.size, h.block⟩
/-- Block g is these bytes. -/
def Blk8 (w : World) (g : Nat) (xs : List Int) : Prop := Blk w g 5 (cellsOf8 xs)
theorem Blk8.put {w : World} {g : Nat} {xs : List Int} (h : Blk8 w g xs) (k : Nat) (c : Int) : Blk8 (w.setCell ⟨g, k, none⟩ (.int .u8 c)) g (xs.set k c) := by
  have := Blk.put h k (.int .u8 c)
  unfold Blk8
  rw [show cellsOf8 (xs.set k c) = (cellsOf8 xs).set k (.int .u8 c) by simp [cellsOf8, List.map_set]]
  exact this
theorem Blk8.rd {w : World} {g : Nat} {xs : List Int} (h : Blk8 w g xs) (o : Nat) : Rd w w.heap.size (some ⟨g, o, none⟩) (xs.drop o) := by
  intro hn
  simp at hn
  refine ⟨g, o, rfl, lt_of_block h, fun i hi => ?_⟩
  simp at hi
  rw [Blk.cell h (o + i) (by simp [cellsOf8]; omega)]
  simp [cellsOf8]
theorem Blk8.own {w : World} {g base : Nat} {xs : List Int} (h : Blk8 w g xs) (hb : base ≤ g) (hm : xs.length ≤ 1000000) : Own8 w base g xs.length xs :=
  ⟨by simp [cellsOf8], .inr ⟨g, xs.length, (cellsOf8 xs).toArray, rfl, hb, h, Nat.le_refl _, by unfold maxLen; omega, by simp [cellsOf8], by rw [Nat.mul_one]; exact List.take_of_length_le (by simp [cellsOf8])⟩⟩

theorem Own8.kept {w w' : World} {base g cap : Nat} {xs : List Int} {row : Option Nat} (h : Own8 w base g cap xs) (hg : w.grownBy w' row) (hne : some g ≠ row) : Own8 w' base g cap xs := World.ownsRow.kept h hg (.inr hne)
theorem Own8.le {w : World} {base base' g cap : Nat} {xs : List Int} (h : Own8 w base g cap xs) (hb : base' ≤ base) : Own8 w base' g cap xs :=
  ⟨h.1, h.2.imp id fun ⟨g', c', cur, hv, hg, r⟩ => ⟨g', c', cur, hv, Nat.le_trans hb hg, r⟩⟩
/-- The bytes of numbers. -/
def flat (ns : List Int) : List Int := ns.flatMap four
theorem flat_len (ns : List Int) : (flat ns).length = 4 * ns.length := by
  induction ns with
  | nil => rfl
  | cons n ns ih =>
    have : flat (n :: ns) = four n ++ flat ns := rfl
    rw [this, List.length_append, ih, four_len, List.length_cons]
    omega
theorem flat_get (ns : List Int) (i : Nat) (hi : i < ns.length) : (flat ns)[4 * i]? = some (ns[i] % 256) ∧ (flat ns)[4 * i + 1]? = some (ns[i] / 256 % 256) ∧ (flat ns)[4 * i + 2]? = some (ns[i] / 65536 % 256) ∧ (flat ns)[4 * i + 3]? = some (ns[i] / 16777216 % 256) := by
  induction ns generalizing i with
  | nil => simp at hi
  | cons n ns ih =>
    have e : flat (n :: ns) = (n % 256) :: (n / 256 % 256) :: (n / 65536 % 256) :: (n / 16777216 % 256) :: flat ns := rfl
    cases i with
    | zero => simp [e]
    | succ i =>
      have := ih i (by simpa using hi)
      simp only [e, List.getElem_cons_succ]
      rw [show 4 * (i + 1) = 4 * i + 1 + 1 + 1 + 1 by omega]
      simpa [Nat.add_right_comm _ 1, Nat.add_assoc, List.getElem?_cons_succ] using this
theorem lay_step {xs fl : List Int} {o t : Nat} {v : Int} (hv : fl[t]? = some v) (h : o + fl.length ≤ xs.length) : (putB xs o (fl.take t)).set (o + t) v = putB xs o (fl.take (t + 1)) := by
  obtain ⟨ht, rfl⟩ := List.getElem?_eq_some_iff.1 hv
  have e : (fl.take t).length = t := by simp; omega
  have := putB_snoc (xs := xs) (ys := fl.take t) (o := o) fl[t] (by omega)
  rw [e] at this
  rw [this, List.take_succ_eq_append_getElem ht]


/-- append of bytes onto a row of the call's own: the lengths as numbers. -/
theorem app8 (w : World) {ops : Array Oper} {rest : List Oper} {o : Oper} {a : Act} {Q : Exit → Act → World → Prop} (hgd : o.guard = none) (s x : Operand) (ho : o.op = .call { callee := .builtin .append, args := #[s, x], argTypes := #[61, 61] })
    (base B g cap n m c : Nat) (ys xs : List Int) (A : Option Addr) (hs : a.eval s = .slice (some ⟨g, 0, none⟩) n cap) (hown : Own8 w base g cap ys) (hn : ys.length = n) (hx : a.eval x = .slice A m c) (hr : Rd w B A xs) (hm : xs.length = m) (hnil : A = none → c = 0)
    (hlen : n + m ≤ 1000000) (hpos : 0 < n + m) (hbase : base ≤ w.heap.size)
    (h : ∀ g' cap' w', Own8 w' base g' cap' (ys ++ xs) → w.grownBy w' (some g) → wpList Tryz.prog ops Q rest (a.put o.dst (.slice (some ⟨g', 0, none⟩) (n + m) cap')) w') : wpList Tryz.prog ops Q (o :: rest) a w := by
  subst hn hm
  refine append_rd w hgd s x ho base B _ ys hs hown A xs c hx hr hnil hlen hbase ?_
  intro v' w' zs hz hown' hg
  obtain rfl := hz.out
  obtain ⟨g', cap', rfl, ho'⟩ := Own8.of hown' (by simp; omega)
  have e : (ys ++ xs).length = ys.length + xs.length := List.length_append
  rw [e]
  exact h g' cap' w' ho' hg
theorem Own8.one (w : World) (base : Nat) (k : Int) (hb : base ≤ w.heap.size) : Own8 (w.alloc (.cells #[.int .u8 k] 5)) base w.heap.size 1 [k] :=
  Blk8.own (xs := [k]) (show Blk8 _ _ _ from heap_alloc_new w _) hb (by simp)
theorem Own8.none (w : World) (base : Nat) (hb : base ≤ w.heap.size) : Own8 (w.alloc (.cells #[] 5)) base w.heap.size 0 [] := own_empty w base hb
theorem Own8.up {w w' : World} {base g cap : Nat} {xs : List Int} (h : Own8 w base g cap xs) (hb : Below w.heap.size w w') (_hp : 0 < xs.length) : Own8 w' base g cap xs :=
  ⟨h.1, h.2.imp id fun ⟨g', c', cur, hv, hg, hc, r⟩ => ⟨g', c', cur, hv, hg, (hb.block g' (lt_of_block hc)).trans hc, r⟩⟩

theorem or_part {a x : Int} (k : Nat) (h0 : 0 ≤ a) (ha : a < 2 ^ k) (x0 : 0 ≤ x) (hx : x * 2 ^ k + a < 4294967296) : bits .or .u32 a (x * 2 ^ k) = a + x * 2 ^ k := by
  have hp : (0 : Int) < 2 ^ k := Int.pow_pos (by omega)
  have hm : 0 ≤ x * 2 ^ k := Int.mul_nonneg x0 (by omega)
  rw [u32_or a (x * 2 ^ k) h0 (by omega) hm (by omega)]
  have e1 : (x * 2 ^ k).toNat = 2 ^ k * x.toNat := by
    obtain ⟨y, rfl⟩ := Int.eq_ofNat_of_zero_le x0
    rw [show ((y : Int) * 2 ^ k) = ((y * 2 ^ k : Nat) : Int) by simp, Int.toNat_natCast, Int.toNat_natCast, Nat.mul_comm]
  have e2 : a.toNat < 2 ^ k := by
    have : ((2 ^ k : Nat) : Int) = (2 : Int) ^ k := by simp
    omega
  rw [e1, Nat.or_comm, ← Nat.two_pow_add_eq_or_of_lt e2, ← e1]
  omega

/-- The first j of a number's bytes. -/
def part (x0 x1 x2 x3 : Int) : Nat → Int
  | 0 => 0
  | 1 => x0
  | 2 => x0 + x1 * 256
  | 3 => x0 + x1 * 256 + x2 * 65536
  | _ => x0 + x1 * 256 + x2 * 65536 + x3 * 16777216

/-- The bytes at o of block b are those of the number n. -/
def Four (w : World) (b o : Nat) (n : Int) : Prop := ∃ x0 x1 x2 x3 : Int, n = back4 x0 x1 x2 x3 ∧ (0 ≤ x0 ∧ x0 ≤ 255) ∧ (0 ≤ x1 ∧ x1 ≤ 255) ∧ (0 ≤ x2 ∧ x2 ≤ 255) ∧ (0 ≤ x3 ∧ x3 ≤ 255) ∧
  w.cell? ⟨b, o, none⟩ = some (.int .u8 x0) ∧ w.cell? ⟨b, o + 1, none⟩ = some (.int .u8 x1) ∧ w.cell? ⟨b, o + 2, none⟩ = some (.int .u8 x2) ∧ w.cell? ⟨b, o + 3, none⟩ = some (.int .u8 x3)
theorem rd_four_at {w : World} {B b o : Nat} {ps : List Int} (k : Nat) (hr : Rd w B (some ⟨b, o, none⟩) ps) (hx : Byt ps) (hk : k + 4 ≤ ps.length) : Four w b (o + k) (bk ps k) := by
  obtain ⟨b', o', hA, _, hc⟩ := hr (by omega)
  injection hA with hA
  injection hA with e1 e2
  subst e1 e2
  have g : ∀ j (h : j < ps.length), ps.getD j 0 = ps[j] := fun j h => by simp [List.getD_eq_getElem?_getD, h]
  refine ⟨ps.getD k 0, ps.getD (k + 1) 0, ps.getD (k + 2) 0, ps.getD (k + 3) 0, rfl, ?_, ?_, ?_, ?_, ?_, ?_, ?_, ?_⟩
  · rw [g k (by omega)]; exact hx.get k (by omega)
  · rw [g (k + 1) (by omega)]; exact hx.get (k + 1) (by omega)
  · rw [g (k + 2) (by omega)]; exact hx.get (k + 2) (by omega)
  · rw [g (k + 3) (by omega)]; exact hx.get (k + 3) (by omega)
  · rw [g k (by omega)]; exact hc k (by omega)
  · rw [g (k + 1) (by omega), Nat.add_assoc]; exact hc (k + 1) (by omega)
  · rw [g (k + 2) (by omega), Nat.add_assoc]; exact hc (k + 2) (by omega)
  · rw [g (k + 3) (by omega), Nat.add_assoc]; exact hc (k + 3) (by omega)
theorem Own8.mem {w : World} {base g cap : Nat} {xs : List Int} (h : Own8 w base g cap xs) : base ≤ g ∧ g < w.heap.size := by
  rcases h.2 with ⟨h', _⟩ | ⟨_, _, _, h', hb, hg, _⟩
  · simp at h'
  · injection h' with h' _ _
    injection h' with h'
    injection h' with h'
    subst h'
    exact ⟨hb, lt_of_block hg⟩
theorem Own8.rise {w w' : World} {base g cap : Nat} {xs : List Int} (h : Own8 w base g cap xs) (hb : Below w.heap.size w w') : Own8 w' base g cap xs :=
  ⟨h.1, h.2.imp id fun ⟨g', c', cur, hv, hg, hc, r⟩ => ⟨g', c', cur, hv, hg, (hb.block g' (lt_of_block hc)).trans hc, r⟩⟩
end Go.Proofs.YthmpimjmajoimaaGreatDoor
namespace Go.Proofs.YthmpimjmajoimaaGreatDoor
open Go.RowKit

/-- The slice of A, vs.length, c reads as these cells, below block B. -/
def RdV (w : World) (B : Nat) (A : Option Addr) (vs : List Value) : Prop :=
  0 < vs.length → ∃ b o : Nat, A = some ⟨b, o, none⟩ ∧ b < B ∧ ∀ i (h : i < vs.length), w.cell? ⟨b, o + i, none⟩ = some vs[i]
theorem RdV.below {w w' : World} {B : Nat} {A : Option Addr} {vs : List Value} (h : RdV w B A vs) (hb : Below B w w') : RdV w' B A vs := by
  intro hn
  obtain ⟨b, o, hA, hlt, hc⟩ := h hn
  exact ⟨b, o, hA, hlt, fun i hi => (hb.cell (p := ⟨b, o + i, none⟩) hlt).trans (hc i hi)⟩
theorem RdV.mono {w : World} {B B' : Nat} {A : Option Addr} {vs : List Value} (h : RdV w B A vs) (hB : B ≤ B') : RdV w B' A vs := by
  intro hn
  obtain ⟨b, o, hA, hlt, hc⟩ := h hn
  exact ⟨b, o, hA, Nat.lt_of_lt_of_le hlt hB, hc⟩
theorem RdV.up {w u : World} {A : Option Addr} {vs : List Value} (h : RdV w w.heap.size A vs) (hb : Below w.heap.size w u) : RdV u u.heap.size A vs := (h.below hb).mono hb.size
theorem RdV.nil {w : World} {B : Nat} {A : Option Addr} : RdV w B A [] := fun h => by simp at h
theorem rd_up {w u : World} {A : Option Addr} {xs : List Int} (h : Rd w w.heap.size A xs) (hb : Below w.heap.size w u) : Rd u u.heap.size A xs := (h.below hb).mono hb.size
theorem RdV.rd {w : World} {B : Nat} {A : Option Addr} {xs : List Int} (h : RdV w B A (cellsOf8 xs)) : Rd w B A xs := by
  intro hn
  obtain ⟨b, o, hA, hlt, hc⟩ := h (by rw [cells8_len]; exact hn)
  exact ⟨b, o, hA, hlt, fun i hi => by rw [hc i (by rw [cells8_len]; exact hi)]; simp [cellsOf8]⟩
theorem Rd.rdV {w : World} {B : Nat} {A : Option Addr} {xs : List Int} (h : Rd w B A xs) : RdV w B A (cellsOf8 xs) := by
  intro hn
  rw [cells8_len] at hn
  obtain ⟨b, o, hA, hlt, hc⟩ := h hn
  exact ⟨b, o, hA, hlt, fun i hi => by rw [cells8_len] at hi; rw [hc i hi]; simp [cellsOf8]⟩

/-- The call's own row of cells vs of type T, in block g. -/
def OwnG (w : World) (base : Nat) (T : TypeId) (g cap : Nat) (vs : List Value) : Prop := w.ownsRow base T 1 (.slice (some ⟨g, 0, none⟩) vs.length cap) vs.length vs
theorem OwnG.mem {w : World} {base g cap : Nat} {T : TypeId} {vs : List Value} (h : OwnG w base T g cap vs) : base ≤ g ∧ g < w.heap.size := by
  rcases h.2 with ⟨h', _⟩ | ⟨_, _, _, h', hb, hg, _⟩
  · simp at h'
  · injection h' with h' _ _
    obtain h' := Option.some.inj h'
    injection h' with h'
    subst h'
    exact ⟨hb, lt_of_block hg⟩
theorem OwnG.cap {w : World} {base g cap : Nat} {T : TypeId} {vs : List Value} (h : OwnG w base T g cap vs) : vs.length ≤ cap := by
  rcases h.2 with ⟨h', _⟩ | ⟨_, _, _, h', _, _, hc, _⟩
  · simp at h'
  · injection h' with _ _ h'
    omega
theorem OwnG.cell {w : World} {base g cap : Nat} {T : TypeId} {vs : List Value} (h : OwnG w base T g cap vs) (k : Nat) (hk : k < vs.length) : w.cell? ⟨g, k, none⟩ = some vs[k] := by
  rw [World.ownsRow.cellAt h k (by omega)]
  simp [hk]
theorem OwnG.rdV {w : World} {base g cap : Nat} {T : TypeId} {vs : List Value} (h : OwnG w base T g cap vs) : RdV w w.heap.size (some ⟨g, 0, none⟩) vs := fun _ => ⟨g, 0, rfl, h.mem.2, fun i hi => by rw [Nat.zero_add]; exact h.cell i hi⟩
theorem OwnG.rise {w w' : World} {base g cap : Nat} {T : TypeId} {vs : List Value} (h : OwnG w base T g cap vs) (hb : Below w.heap.size w w') : OwnG w' base T g cap vs :=
  ⟨h.1, h.2.imp id fun ⟨g', c', cur, hv, hg, hc, r⟩ => ⟨g', c', cur, hv, hg, (hb.block g' (lt_of_block hc)).trans hc, r⟩⟩
theorem OwnG.kept {w w' : World} {base g cap : Nat} {T : TypeId} {vs : List Value} {row : Option Nat} (h : OwnG w base T g cap vs) (hg : w.grownBy w' row) (hne : some g ≠ row) : OwnG w' base T g cap vs := World.ownsRow.kept h hg (.inr hne)
theorem OwnG.le {w : World} {base base' g cap : Nat} {T : TypeId} {vs : List Value} (h : OwnG w base T g cap vs) (hb : base' ≤ base) : OwnG w base' T g cap vs :=
  ⟨h.1, h.2.imp id fun ⟨g', c', cur, hv, hg, r⟩ => ⟨g', c', cur, hv, Nat.le_trans hb hg, r⟩⟩
theorem OwnG.own8 {w : World} {base g cap : Nat} {xs : List Int} (h : OwnG w base 5 g cap (cellsOf8 xs)) : Own8 w base g cap xs := by
  have := h
  unfold OwnG at this
  rw [cells8_len] at this
  exact this
theorem Own8.ownG {w : World} {base g cap : Nat} {xs : List Int} (h : Own8 w base g cap xs) : OwnG w base 5 g cap (cellsOf8 xs) := by
  unfold OwnG
  rw [cells8_len]
  exact h
/-- A new block is a row of the call's own. -/
theorem OwnG.new (w : World) (base : Nat) (T : TypeId) (vs : List Value) (hb : base ≤ w.heap.size) (hm : vs.length ≤ 1000000) : OwnG (w.alloc (.cells vs.toArray T)) base T w.heap.size vs.length vs :=
  ⟨by simp, .inr ⟨w.heap.size, vs.length, vs.toArray, rfl, hb, heap_alloc_new w _, Nat.le_refl _, by unfold maxLen; omega, by simp, by rw [Nat.mul_one]; exact List.take_of_length_le (by simp)⟩⟩

/-- append onto a row of the call's own, something. -/
theorem appG (w : World) {ops : Array Oper} {rest : List Oper} {o : Oper} {a : Act} {Q : Exit → Act → World → Prop} (hgd : o.guard = none) (s x : Operand) (Ts T : TypeId) (z : Value) (nb : Nat) (ho : o.op = .call { callee := .builtin .append, args := #[s, x], argTypes := #[Ts, Ts] })
    (hu : Tryz.prog.underlying Ts = some (.slice T)) (hinfo : (Tryz.prog.info? T).map (fun i => (i.zero, i.size, i.bytes)) = some (some z, 1, nb)) (hzs : z.cells.size = 1) (hnb : nb ≤ 1000)
    (base g cap n m c : Nat) (ys xs : List Value) (ad : Addr) (hs : a.eval s = .slice (some ⟨g, 0, none⟩) n cap) (hown : OwnG w base T g cap ys) (hn : ys.length = n) (hx : a.eval x = .slice (some ad) m c) (hm : xs.length = m) (hr : ∀ j (h : j < xs.length), w.cell? (ad.add j) = some xs[j]) (h1 : ∀ u ∈ xs, u.oneCell' = true)
    (hlen : n + m ≤ 1000000) (hpos : 0 < m) (hbase : base ≤ w.heap.size)
    (h : ∀ g' cap' w', OwnG w' base T g' cap' (ys ++ xs) → w.grownBy w' (some g) → (g' = g ∨ g' = w.heap.size) → wpList Tryz.prog ops Q rest (a.put o.dst (.slice (some ⟨g', 0, none⟩) (n + m) cap')) w') : wpList Tryz.prog ops Q (o :: rest) a w := by
  obtain ⟨i0, hi, hz0, hz1, hz2⟩ := info_parts hinfo
  subst hn hm
  have hby : (ys.length + xs.length) * nb ≤ 140737488355328 := Nat.le_trans (Nat.mul_le_mul hlen hnb) (by decide)
  refine wpList_append_lies w hgd s x Ts ho base T i0 z 1 nb hu hi hz0 hz1 hz2 hzs (by decide) _ ys.length ys hs hown ad xs.length c xs hx (by simp) (fun j u hj => ?_) h1 hpos (by unfold maxLen; omega) hby hbase w.heap.size rfl ?_
  · obtain ⟨hjl, rfl⟩ := List.getElem?_eq_some_iff.1 hj
    exact hr j hjl
  · intro g' cap' w' h2 h3 h4 _
    refine h g' cap' w' ?_ h3 (h4.imp (fun e => ?_) id)
    · unfold OwnG
      rw [List.length_append]
      exact h2
    · exact (Option.some.inj e).symm

/-- Rows of bytes: cells that are slices, each of which reads as its bytes. -/
def RdR (w : World) (vs : List Value) (l : List (List Int)) : Prop :=
  vs.length = l.length ∧ ∀ i (h : i < vs.length) (h2 : i < l.length), ∃ A c, vs[i] = .slice A l[i].length c ∧ l[i].length ≤ c ∧ Rd w w.heap.size A l[i]
theorem RdR.up {w u : World} {vs : List Value} {l : List (List Int)} (h : RdR w vs l) (hb : Below w.heap.size w u) : RdR u vs l :=
  ⟨h.1, fun i h1 h2 => by obtain ⟨A, c, e, hc, hr⟩ := h.2 i h1 h2; exact ⟨A, c, e, hc, rd_up hr hb⟩⟩
theorem RdR.nil {w : World} : RdR w [] [] := ⟨rfl, fun i h => by simp at h⟩
end Go.Proofs.YthmpimjmajoimaaGreatDoor
namespace Go.Proofs.YthmpimjmajoimaaGreatDoor
open Go.RowKit

/-- Whatever lies outside F lies as it lay. -/
structure Kept (F : Nat → Prop) (w w' : World) : Prop where
  os : w'.os = w.os
  tape : w'.tape = w.tape
  output : w'.output = w.output
  size : w.heap.size ≤ w'.heap.size
  block : ∀ k, k < w.heap.size → ¬ F k → w'.heap[k]? = w.heap[k]?
/-- F and all blocks that were made on the way from a to b. -/
def grow (F : Nat → Prop) (a b : World) : Nat → Prop := fun k => F k ∨ (a.heap.size ≤ k ∧ k < b.heap.size)
theorem Kept.refl (F : Nat → Prop) (w : World) : Kept F w w := ⟨rfl, rfl, rfl, Nat.le_refl _, fun _ _ _ => rfl⟩
theorem Kept.trans {F : Nat → Prop} {a b c : World} (h : Kept F a b) (k : Kept (grow F a b) b c) : Kept F a c :=
  ⟨k.os.trans h.os, k.tape.trans h.tape, k.output.trans h.output, Nat.le_trans h.size k.size, fun i hi hn => (k.block i (Nat.lt_of_lt_of_le hi h.size) (fun hg => hg.elim hn (fun hx => absurd hx.1 (Nat.not_le_of_lt hi)))).trans (h.block i hi hn)⟩
theorem Kept.and {F : Nat → Prop} {a b c : World} (h : Kept F a b) (k : Kept F b c) : Kept F a c :=
  ⟨k.os.trans h.os, k.tape.trans h.tape, k.output.trans h.output, Nat.le_trans h.size k.size, fun i hi hn => (k.block i (Nat.lt_of_lt_of_le hi h.size) hn).trans (h.block i hi hn)⟩
theorem Kept.mono {F G : Nat → Prop} {a b : World} (h : Kept F a b) (hfg : ∀ k, k < a.heap.size → F k → G k) : Kept G a b := ⟨h.os, h.tape, h.output, h.size, fun i hi hn => h.block i hi (fun hf => hn (hfg i hi hf))⟩
theorem Kept.of_below {F : Nat → Prop} {w w' : World} (h : Below w.heap.size w w') : Kept F w w' := ⟨h.os, h.tape, h.output, h.size, fun i hi _ => h.block i hi⟩
theorem Kept.below {F : Nat → Prop} {B : Nat} {w w' : World} (h : Kept F w w') (hB : B ≤ w.heap.size) (hF : ∀ k, F k → B ≤ k) : Below B w w' :=
  ⟨h.os, h.tape, h.output, h.size, fun k hk => h.block k (by omega) (fun hf => by have := hF k hf; omega)⟩
theorem Kept.grown {F : Nat → Prop} {a w w' : World} {row : Option Nat} (h : Kept F a w) (hg : w.grownBy w' row) (hr : ∀ k, row = some k → F k ∨ a.heap.size ≤ k) : Kept F a w' :=
  ⟨hg.os.trans h.os, hg.tape.trans h.tape, hg.output.trans h.output, Nat.le_trans h.size hg.size, fun i hi hn => (hg.block i (Nat.lt_of_lt_of_le hi h.size) (fun e => by
    rcases hr i e.symm with hf | hs
    · exact hn hf
    · omega)).trans (h.block i hi hn)⟩
theorem Kept.put {F : Nat → Prop} {a w : World} (h : Kept F a w) {g : Nat} (hg : F g ∨ a.heap.size ≤ g) (o : Nat) (v : Value) : Kept F a (w.setCell ⟨g, o, none⟩ v) :=
  h.grown (grown_put (World.grownBy.refl w _) o v) (fun k e => by obtain rfl := Option.some.inj e; exact hg)
theorem Kept.alloc {F : Nat → Prop} {a w : World} (h : Kept F a w) (o : Obj) : Kept F a (w.alloc o) := h.grown (World.grownBy_alloc w o none) (fun k e => by cases e)
theorem Kept.drew {F : Nat → Prop} {a w : World} (h : Kept F a w) : Kept F a w.drew := ⟨h.os, h.tape, h.output, h.size, h.block⟩
theorem Kept.blk {F : Nat → Prop} {w w' : World} {g : Nat} {T : TypeId} {cs : List Value} (h : Kept F w w') (hb : Blk w g T cs) (hn : ¬ F g) : Blk w' g T cs := (h.block g (lt_of_block hb) hn).trans hb
theorem Kept.cell {F : Nat → Prop} {w w' : World} {p : Addr} {v : Value} (h : Kept F w w') (hc : w.cell? p = some v) (hn : ¬ F p.block) : w'.cell? p = some v := by
  have hlt : p.block < w.heap.size := by
    apply Classical.byContradiction
    intro hge
    have : w.heap[p.block]? = none := Array.getElem?_eq_none (by omega)
    simp [World.cell?, this] at hc
  rw [World.cell?_of_block (w := w) (h.block p.block hlt hn)]
  exact hc

/-- Where something is read it lies in F. -/
def InF (F : Nat → Prop) (A : Option Addr) : Prop := ∀ b o x, A = some ⟨b, o, x⟩ → F b
theorem InF.mono {F G : Nat → Prop} {A : Option Addr} (h : InF F A) (hfg : ∀ k, F k → G k) : InF G A := fun b o x e => hfg _ (h b o x e)
theorem InF.none (F : Nat → Prop) : InF F none := fun _ _ _ e => by cases e
theorem InF.one {F : Nat → Prop} {g o : Nat} (h : F g) : InF F (some ⟨g, o, Option.none⟩) := fun b o x e => by have e := Option.some.inj e; injection e with e; subst e; exact h
/-- .. if there is something. -/
def InN (n : Nat) (F : Nat → Prop) (A : Option Addr) : Prop := 0 < n → InF F A
theorem InN.mono {n : Nat} {F G : Nat → Prop} {A : Option Addr} (h : InN n F A) (hfg : ∀ k, F k → G k) : InN n G A := fun hp => (h hp).mono hfg
theorem InF.n {n : Nat} {F : Nat → Prop} {A : Option Addr} (h : InF F A) : InN n F A := fun _ => h
theorem Rd.keep {F : Nat → Prop} {w w' : World} {A : Option Addr} {xs : List Int} (h : Rd w w.heap.size A xs) (hk : Kept F w w') (hn : InN xs.length (fun k => ¬ F k) A) : Rd w' w'.heap.size A xs := by
  intro hp
  obtain ⟨b, o, hA, hlt, hc⟩ := h hp
  exact ⟨b, o, hA, Nat.lt_of_lt_of_le hlt hk.size, fun i hi => hk.cell (hc i hi) (hn hp _ _ _ hA)⟩
theorem RdV.keep {F : Nat → Prop} {w w' : World} {A : Option Addr} {vs : List Value} (h : RdV w w.heap.size A vs) (hk : Kept F w w') (hn : InN vs.length (fun k => ¬ F k) A) : RdV w' w'.heap.size A vs := by
  intro hp
  obtain ⟨b, o, hA, hlt, hc⟩ := h hp
  exact ⟨b, o, hA, Nat.lt_of_lt_of_le hlt hk.size, fun i hi => hk.cell (hc i hi) (hn hp _ _ _ hA)⟩

/-- The value v is a slice that reads as these bytes, within F. -/
def BytF (F : Nat → Prop) (w : World) (v : Value) (xs : List Int) : Prop := ∃ A c, v = .slice A xs.length c ∧ xs.length ≤ c ∧ Rd w w.heap.size A xs ∧ InN xs.length F A ∧ (A = none → c = 0)
theorem BytF.keep {F G : Nat → Prop} {w w' : World} {v : Value} {xs : List Int} (h : BytF F w v xs) (hk : Kept G w w') (hn : ∀ k, F k → ¬ G k) : BytF F w' v xs := by
  obtain ⟨A, c, e, hc, hr, hf, h0⟩ := h
  exact ⟨A, c, e, hc, hr.keep hk (hf.mono hn), hf, h0⟩
theorem BytF.mono {F G : Nat → Prop} {w : World} {v : Value} {xs : List Int} (h : BytF F w v xs) (hfg : ∀ k, F k → G k) : BytF G w v xs := by
  obtain ⟨A, c, e, hc, hr, hf, h0⟩ := h
  exact ⟨A, c, e, hc, hr, hf.mono hfg, h0⟩
/-- The value v is a row of rows of bytes, within F. -/
structure RowsF (F : Nat → Prop) (w : World) (v : Value) (l : List (List Int)) : Prop where
  out : ∃ A c vs, v = .slice A l.length c ∧ l.length ≤ c ∧ RdV w w.heap.size A vs ∧ InN vs.length F A ∧ (A = none → c = 0) ∧ vs.length = l.length ∧ ∀ i (h : i < vs.length) (h2 : i < l.length), BytF F w vs[i] l[i]
theorem RowsF.keep {F G : Nat → Prop} {w w' : World} {v : Value} {l : List (List Int)} (h : RowsF F w v l) (hk : Kept G w w') (hn : ∀ k, F k → ¬ G k) : RowsF F w' v l := by
  obtain ⟨A, c, vs, e, hc, hr, hf, h0, hl, hx⟩ := h.out
  exact ⟨A, c, vs, e, hc, hr.keep hk (hf.mono hn), hf, h0, hl, fun i h1 h2 => (hx i h1 h2).keep hk hn⟩
theorem RowsF.mono {F G : Nat → Prop} {w : World} {v : Value} {l : List (List Int)} (h : RowsF F w v l) (hfg : ∀ k, F k → G k) : RowsF G w v l := by
  obtain ⟨A, c, vs, e, hc, hr, hf, h0, hl, hx⟩ := h.out
  exact ⟨A, c, vs, e, hc, hr, hf.mono hfg, h0, hl, fun i h1 h2 => (hx i h1 h2).mono hfg⟩
theorem RowsF.up {F : Nat → Prop} {w w' : World} {v : Value} {l : List (List Int)} (h : RowsF F w v l) (hb : Below w.heap.size w w') : RowsF F w' v l := h.keep (G := fun _ => False) (Kept.of_below hb) (fun _ _ => id)
theorem RowsF.nil (F : Nat → Prop) (w : World) : RowsF F w (.slice none 0 0) [] := ⟨none, 0, [], rfl, by simp, RdV.nil, (InF.none _).n, fun _ => rfl, rfl, fun i h => by simp at h⟩
end Go.Proofs.YthmpimjmajoimaaGreatDoor
