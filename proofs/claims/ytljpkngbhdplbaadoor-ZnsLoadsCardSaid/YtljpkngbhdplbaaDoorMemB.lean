/-
  Bytes in memory: a call's own rows, appends; an ending that answers true. For whatever program that has bytes.
-/
import Derived.Test.YtljpkngbhdplbaaDoorRdA
import Derived.Test.YtljpkngbhdplbaaDoorQuietIn
import Derived.Laws.AppendOwnNone
import Derived.Laws.OwnMore
import Derived.Laws.MakeOwn
import Derived.OwnWalk
import Derived.Deep.AppendLies
namespace Go.Proofs.YtljpkngbhdplbaaDoor
open Go.RowKit

theorem below_all {a b c : World} (h : Below a.heap.size a b) (k : Below b.heap.size b c) : Below a.heap.size a c := h.trans (k.mono h.size)
theorem byt_of {xs : List Int} (h : xs.all (fun x => decide (0 ≤ x) && decide (x ≤ 255)) = true) : Byt xs := fun x hx => by simpa using List.all_eq_true.1 h x hx
def TrueB (w : World) (r : Ending) (w' : World) : Prop := r = .returned (.bool true) ∧ Below w.heap.size w w'

theorem byteInfo : (Tryd.prog.info? 5).map (fun i => (i.zero, i.size, i.bytes)) = some (some (.int .u8 0), 1, 1) := by kernel_rfl
def cellsOf8 (xs : List Int) : List Value := xs.map (Value.int .u8)
theorem cells8_len (xs : List Int) : (cellsOf8 xs).length = xs.length := by simp [cellsOf8]

theorem Rd.of_own {w : World} {base : Nat} {v : Value} {xs : List Int} (h : w.ownsRow base 5 1 v xs.length (cellsOf8 xs)) : ∃ A c, v = .slice A xs.length c ∧ xs.length ≤ c ∧ Rd w w.heap.size A xs := by
  rcases h.2 with ⟨rfl, h0⟩ | ⟨g, cap, cur, rfl, hb, hg, hn, _, _, ht⟩
  · exact ⟨none, 0, by rw [h0], by omega, fun hn => by omega⟩
  · refine ⟨_, cap, rfl, hn, fun hp => ⟨g, 0, rfl, lt_of_block hg, fun i hi => ?_⟩⟩
    have := h.cells (g := g) rfl i (.int .u8 xs[i]) (by simp [cellsOf8, hi])
    rcases i with _ | i
    · simpa [Addr.add] using this
    · simpa [Addr.add, Nat.zero_add] using this

theorem append_rd (w : World) {ops : Array Oper} {rest : List Oper} {o : Oper} {a : Act} {Q : Exit → Act → World → Prop} (hgd : o.guard = none) (s x : Operand) (ho : o.op = .call { callee := .builtin .append, args := #[s, x], argTypes := #[35, 35] })
    (base B : Nat) (v : Value) (ys : List Int) (hs : a.eval s = v) (hown : w.ownsRow base 5 1 v ys.length (cellsOf8 ys)) (A : Option Addr) (xs : List Int) (c : Nat) (hx : a.eval x = .slice A xs.length c) (hr : Rd w B A xs) (hnil : A = none → c = 0)
    (hlen : ys.length + xs.length ≤ 1000000) (hbase : base ≤ w.heap.size)
    (h : ∀ v' w' zs, Hid (zs = ys ++ xs) → w'.ownsRow base 5 1 v' zs.length (cellsOf8 zs) → w.grownBy w' v.ownBlock → wpList Tryd.prog ops Q rest (a.put o.dst v') w') : wpList Tryd.prog ops Q (o :: rest) a w := by
  obtain ⟨i0, hi, hz0, hz1, hz2⟩ := info_parts byteInfo
  cases A with
  | none =>
    have h0 : xs = [] := by
      rcases Nat.eq_zero_or_pos xs.length with h0 | h0
      · exact List.eq_nil_of_length_eq_zero h0
      · obtain ⟨b, o', hA, _⟩ := hr h0
        cases hA
    subst h0
    obtain rfl := hnil rfl
    exact wpList_append_own_none hgd s x 35 ho base 5 i0 1 Tryd.underlying35 hi v ys.length (cellsOf8 ys) hs hown hx (h v w ys (Lib.hid (by simp)) hown (World.grownBy.refl w _))
  | some ad =>
    refine wpList_append_own w hgd s x 35 ho base 5 i0 (.int .u8 0) 1 1 Tryd.underlying35 hi hz0 hz1 hz2 rfl (by decide) v ys.length (cellsOf8 ys) hs hown ad xs.length c (cellsOf8 xs) hx (by simp [cellsOf8]) ?_ ?_ (by unfold maxLen; omega) (by omega) hbase ?_
    · intro j u hj
      simp only [cellsOf8, List.getElem?_map, Option.map_eq_some_iff] at hj
      obtain ⟨y, hy, rfl⟩ := hj
      obtain ⟨hjl, rfl⟩ := List.getElem?_eq_some_iff.1 hy
      obtain ⟨b, o', hA, _, hc⟩ := hr (by omega)
      obtain rfl := Option.some.inj hA
      have := hc j hjl
      rcases j with _ | j
      · simpa [Addr.add] using this
      · simpa [Addr.add] using this
    · intro u hu
      simp only [cellsOf8, List.mem_map] at hu
      obtain ⟨y, _, rfl⟩ := hu
      rfl
    · intro v' w' h1 h2 _
      refine h v' w' (ys ++ xs) (Lib.hid rfl) ?_ h2
      simpa [cellsOf8] using h1

theorem own_empty (w : World) (base : Nat) (hb : base ≤ w.heap.size) : (w.alloc (.cells #[] 5)).ownsRow base 5 1 (.slice (some ⟨w.heap.size, 0, none⟩) 0 0) ([] : List Int).length (cellsOf8 []) :=
  ⟨by simp [cellsOf8], .inr ⟨w.heap.size, 0, #[], rfl, hb, heap_alloc_new w _, Nat.le_refl _, by unfold maxLen; omega, by simp, by simp [cellsOf8]⟩⟩

/-- The call's own row of bytes xs, in block g. -/
def Own8 (w : World) (base g cap : Nat) (xs : List Int) : Prop := w.ownsRow base 5 1 (.slice (some ⟨g, 0, none⟩) xs.length cap) xs.length (cellsOf8 xs)
theorem Own8.cell {w : World} {base g cap : Nat} {xs : List Int} (h : Own8 w base g cap xs) (k : Nat) (hk : k < xs.length) : w.cell? ⟨g, k, none⟩ = some (.int .u8 xs[k]) := by
  rw [World.ownsRow.cellAt h k (by omega)]
  simp [cellsOf8, hk]
theorem Own8.free {w : World} {base g cap : Nat} {xs : List Int} (h : Own8 w base g cap xs) (k : Nat) : w.frozen? ⟨g, k, none⟩ = false := World.ownsRow.frozenAt h k
theorem Own8.put {w : World} {base g cap : Nat} {xs : List Int} (h : Own8 w base g cap xs) (k : Nat) (c : Int) : Own8 (w.setCell ⟨g, k, none⟩ (.int .u8 c)) base g cap (xs.set k c) := by
  have := (World.ownsRow.stored h k (.int .u8 c)).1
  unfold Own8
  rw [List.length_set]
  have e : cellsOf8 (xs.set k c) = (cellsOf8 xs).set k (.int .u8 c) := by simp [cellsOf8, List.map_set]
  rw [e]
  exact this
theorem Own8.rd {w : World} {base g cap : Nat} {xs : List Int} (h : Own8 w base g cap xs) : Rd w w.heap.size (some ⟨g, 0, none⟩) xs := by
  intro hp
  obtain ⟨_, _, hv, hb, hg⟩ := World.ownsRow.form h hp
  injection hv with hv
  injection hv with hv
  injection hv with hv
  subst hv
  exact ⟨g, 0, rfl, hg, fun i hi => by rw [Nat.zero_add]; exact h.cell i hi⟩
theorem Own8.base {w : World} {base g cap : Nat} {xs : List Int} (h : Own8 w base g cap xs) (hp : 0 < xs.length) : base ≤ g ∧ g < w.heap.size := by
  obtain ⟨_, _, hv, hb, hg⟩ := World.ownsRow.form h hp
  injection hv with hv
  injection hv with hv
  injection hv with hv
  subst hv
  exact ⟨hb, hg⟩
theorem Own8.cap {w : World} {base g cap : Nat} {xs : List Int} (h : Own8 w base g cap xs) : xs.length ≤ cap := by
  rcases h.2 with ⟨h', _⟩ | ⟨_, _, _, h', _, _, hc, _⟩
  · simp at h'
  · injection h' with _ _ h'
    omega
theorem Own8.of {w : World} {base : Nat} {v : Value} {xs : List Int} (h : w.ownsRow base 5 1 v xs.length (cellsOf8 xs)) (hp : 0 < xs.length) : ∃ g cap, v = .slice (some ⟨g, 0, none⟩) xs.length cap ∧ Own8 w base g cap xs := by
  obtain ⟨g, cap, rfl, _, _⟩ := World.ownsRow.form h hp
  exact ⟨g, cap, rfl, h⟩
/-- A new row of zeros. -/
def zerosObj (k : Nat) : Obj := .cells (madeCells (Value.int .u8 0).cells (k * 1)) 5
theorem make_zeros (k : Nat) (hk : k ≤ 20000) (w : World) : (Instr.makeSlice 35 (.int .i64 (k : Int)) (.int .i64 (k : Int))).run Tryd.prog w = .ok (.slice (some ⟨w.heap.size, 0, none⟩) k k) (w.alloc (zerosObj k)) := by
  obtain ⟨i0, hi, hz0, hz1, hz2⟩ := info_parts byteInfo
  have := run_make (P := Tryd.prog) w 35 5 i0 (.int .u8 0) Tryd.underlying35 hi hz0 .i64 .i64 (k : Int) (k : Int) (by omega) (Int.le_refl _) (by rw [hz2]; omega) (by omega)
  rw [hz1] at this
  simpa [zerosObj] using this
theorem rd_zeros (w : World) (os : List Int) (h : os = List.replicate os.length 0) : Rd (w.alloc (zerosObj os.length)) (w.heap.size + 1) (some ⟨w.heap.size, 0, none⟩) os := by
  intro hn
  refine ⟨w.heap.size, 0, rfl, by omega, fun i hi => ?_⟩
  have e : os[i] = 0 := List.eq_of_mem_replicate (n := os.length) (by rw [← h]; exact List.getElem_mem hi)
  rw [e]
  have hb : (w.alloc (zerosObj os.length)).heap[w.heap.size]? = some (zerosObj os.length) := heap_alloc_new w _
  rw [Nat.zero_add, cell_of_row _ w.heap.size i (madeCells (Value.int .u8 0).cells (os.length * 1)) 5 (0, 0) hb]
  have hs : i < (madeCells (Value.int .u8 0).cells (os.length * 1)).size := by rw [size_madeCells]; omega
  rw [Array.getElem?_eq_getElem hs]
  simp [madeCells, Value.cells, Nat.mod_one]
end Go.Proofs.YtljpkngbhdplbaaDoor
