/-
  Bytes in memory: the word Rd (a slice that reads as bytes); the document's Same. For whatever program that has bytes, and platelayerref03.Same.
  A region that draws its order, whose operations read and whose callees read or make memory: one walk in the order of the text, in every world that has a property G (which new memory does not end). For whatever program.
  Bytes in memory: a call's own rows, appends; an ending that answers true. For whatever program that has bytes.
  Blocks by their cells, rows of a call's own; numbers as bytes, laid one behind the other. For whatever program that has bytes.
  Rows of one-cell elements of whatever type in memory: read (RdV), a call's own (OwnG), and append onto them; rows of rows of bytes (RdR).
-/
import Derived.Test.YthmpimjmajoimaaGreatDoorChecked
import Derived.Test.YthmpimjmajoimaaGreatDoorSw01
import Derived.WalkKit
import Derived.WalkLawsBesides
import Derived.Below
import Derived.Outline
import Derived.Lib.Hide
import Derived.Deep.LoopGhost
import Derived.Laws.BitsAllLaws
import Derived.Laws.Shifts
import Derived.Deep.QuietTactic
import Derived.BigQuiet
import Derived.Laws.AppendOwnNone
import Derived.Laws.OwnMore
import Derived.Laws.MakeOwn
import Derived.OwnWalk
import Derived.Deep.AppendLies
namespace Go.Proofs.YthmpimjmajoimaaGreatDoor
open Go.RowKit

theorem ret_u32 {a b : Int} (h : a = b) : Ending.returned (.int .u32 a) = .returned (.int .u32 b) := by rw [h]
theorem ret_bool {a b : Bool} (h : a = b) : Ending.returned (.bool a) = .returned (.bool b) := by rw [h]
def NumIs (n : Int) (w : World) (r : Ending) (w' : World) : Prop := r = .returned (.int .u32 n) ∧ w = w'
def NumB (n : Int) (w : World) (r : Ending) (w' : World) : Prop := r = .returned (.int .u32 n) ∧ Below w.heap.size w w'
def BoolB (x : Bool) (w : World) (r : Ending) (w' : World) : Prop := r = .returned (.bool x) ∧ Below w.heap.size w w'

/-- The slice of A, xs.length, c reads as these bytes, below block B. -/
def Rd (w : World) (B : Nat) (A : Option Addr) (xs : List Int) : Prop :=
  0 < xs.length → ∃ b o : Nat, A = some ⟨b, o, none⟩ ∧ b < B ∧ ∀ i (h : i < xs.length), w.cell? ⟨b, o + i, none⟩ = some (.int .u8 xs[i])
theorem Rd.below {w w' : World} {B : Nat} {A : Option Addr} {xs : List Int} (h : Rd w B A xs) (hb : Below B w w') : Rd w' B A xs := by
  intro hn
  obtain ⟨b, o, hA, hlt, hc⟩ := h hn
  exact ⟨b, o, hA, hlt, fun i hi => (hb.cell (p := ⟨b, o + i, none⟩) hlt).trans (hc i hi)⟩
theorem Rd.mono {w : World} {B B' : Nat} {A : Option Addr} {xs : List Int} (h : Rd w B A xs) (hB : B ≤ B') : Rd w B' A xs := by
  intro hn
  obtain ⟨b, o, hA, hlt, hc⟩ := h hn
  exact ⟨b, o, hA, Nat.lt_of_lt_of_le hlt hB, hc⟩
theorem Rd.take {w : World} {B : Nat} {A : Option Addr} {xs : List Int} (h : Rd w B A xs) (k : Nat) : Rd w B A (xs.take k) := by
  intro hn
  simp at hn
  obtain ⟨b, o, hA, hlt, hc⟩ := h (by omega)
  refine ⟨b, o, hA, hlt, fun i hi => ?_⟩
  simp at hi
  rw [List.getElem_take]
  exact hc i (by omega)
theorem Rd.drop {w : World} {B b o : Nat} {xs : List Int} (h : Rd w B (some ⟨b, o, none⟩) xs) (k : Nat) : Rd w B (some ⟨b, o + k, none⟩) (xs.drop k) := by
  intro hn
  simp at hn
  obtain ⟨b', o', hA, hlt, hc⟩ := h (by omega)
  injection hA with hA
  injection hA with e1 e2
  subst e1 e2
  refine ⟨b, o + k, rfl, hlt, fun i hi => ?_⟩
  simp at hi
  rw [List.getElem_drop, Nat.add_assoc]
  exact hc (k + i) (by omega)
theorem Rd.nil {w : World} {B : Nat} {A : Option Addr} : Rd w B A [] := fun h => by simp at h


/-- Are bytes the same? -/
theorem same_len {A A2 : Option Addr} {n m c c2 : Nat} {w : World} (h : n ≠ m) : Calls Tryz.prog 51 #[.slice A n c, .slice A2 m c2] w (BoolB false w) := by
  have q : ((n : Int) == (m : Int)) = false := by simp; omega
  go_enter Tryz.func51, Tryz.ntmps51
  go_wp2_with fail
  go_ret
  exact ⟨rfl, Below.refl _ _⟩
theorem same_step {xs ys : List Int} {k : Nat} (h1 : k < xs.length) (h2 : k < ys.length) (h : xs.take k = ys.take k) (he : xs[k] = ys[k]) : xs.take (k + 1) = ys.take (k + 1) := by
  rw [List.take_succ_eq_append_getElem h1, List.take_succ_eq_append_getElem h2, h, he]
theorem same_no {xs ys : List Int} {k : Nat} (h1 : k < xs.length) (h2 : k < ys.length) (he : xs[k] ≠ ys[k]) : decide (xs = ys) = false := by
  simp only [decide_eq_false_iff_not]
  rintro rfl
  exact he rfl
set_option maxHeartbeats 1000000 in
theorem same_eq {A A2 : Option Addr} {xs ys : List Int} {c c2 : Nat} {w : World} (hr : Rd w w.heap.size A xs) (hr2 : Rd w w.heap.size A2 ys) (hl : ys.length = xs.length) (hn : xs.length ≤ 20000) : Calls Tryz.prog 51 #[.slice A xs.length c, .slice A2 xs.length c2] w (BoolB (decide (xs = ys)) w) := by
  have HR := Lib.hid hr
  have HR2 := Lib.hid hr2
  have HL := Lib.hid hl
  clear hr hr2 hl
  go_enter Tryz.func51, Tryz.ntmps51
  go_wp2_with fail
  go_loopg [5] xs.length (fun n i wr => ∃ k : Nat, k ≤ xs.length ∧ n = xs.length - k ∧ i = .int .i64 k ∧ xs.take k = ys.take k ∧ Below w.heap.size w wr)
  case atStart => exact ⟨0, by omega, by omega, rfl, rfl, Below.refl _ _⟩
  case round =>
    obtain ⟨k, hk, hm, rfl, ht, hb⟩ := hrel
    have HB := Lib.hid hb
    have HM := Lib.hid hm
    have HT := Lib.hid ht
    clear hb hm ht
    by_cases hlt : k < xs.length
    · have hlt2 : k < ys.length := by rw [HL.out]; exact hlt
      obtain ⟨b, o, rfl, hbl, hcell⟩ := (HR.out.below HB.out) (by omega)
      obtain ⟨b2, o2, rfl, hbl2, hcell2⟩ := (HR2.out.below HB.out) (by omega)
      have c0 := hcell k hlt
      have c1 := hcell2 k hlt2
      clear hcell hcell2
      by_cases he : xs[k] = ys[k]
      · have HS := Lib.hid (same_step hlt hlt2 HT.out he)
        rw [← he] at c1
        have q : (xs[k] == xs[k]) = true := by simp
        go_wp2_with fail
        go_region
        go_wp2_with fail
        go_roundg (xs.length - (k + 1))
        case rel => exact ⟨k + 1, by omega, rfl, by go_num, HS.out, HB.out.drew⟩
        case measure => have := HM.out; omega
      · have HS := Lib.hid (same_no hlt hlt2 he)
        have q : (xs[k] == ys[k]) = false := by simp [he]
        go_wp2_with fail
        go_region
        go_wp2_with fail
        go_ret
        exact ⟨by rw [HS.out]; rfl, HB.out.drew⟩
    · obtain rfl : k = xs.length := by omega
      have HS : Hid (decide (xs = ys) = true) := Lib.hid (by
        have := HT.out
        rw [List.take_length, ← HL.out, List.take_length] at this
        simpa using this)
      go_wp2_with fail
      go_ret
      exact ⟨by rw [HS.out]; rfl, HB.out⟩
theorem same_is {A A2 : Option Addr} {xs ys : List Int} {n m c c2 : Nat} {w : World} (hr : Rd w w.heap.size A xs) (hr2 : Rd w w.heap.size A2 ys) (hl : xs.length = n) (hl2 : ys.length = m) (hn : n ≤ 20000) : Calls Tryz.prog 51 #[.slice A n c, .slice A2 m c2] w (BoolB (decide (xs = ys)) w) := by
  subst hl hl2
  by_cases h : xs.length = ys.length
  · have := same_eq (c := c) (c2 := c2) hr hr2 h.symm hn
    rwa [h] at this ⊢
  · have e : decide (xs = ys) = false := by
      simp only [decide_eq_false_iff_not]
      rintro rfl
      exact h rfl
    rw [e]
    exact same_len h
end Go.Proofs.YthmpimjmajoimaaGreatDoor
namespace Go.Proofs.YthmpimjmajoimaaGreatDoor
open Go.RowKit

/-- A world that has the property G. -/
structure In (G : World → Prop) where
  w : World
  ok : G w

section
variable {P : Program} {G : World → Prop}

theorem wp_region_in {id : Nat} {Q : Exit → Act → World → Prop} {a : Act} {w : World} {l : List Oper} (G : World → Prop) (hG : G w.drew) (hm : P.follows .mixedOrders = true) (hB : Region.lexB .any l.toArray = true)
    (h : Nonempty (In G) → wpQuiet P l.toArray (fun w' => ∃ n : In G, w' = n.w) (fun a' => ∀ n : In G, Q .normal a' n.w) l a) : (Code.region id l.toArray true).wp P Q a w :=
  wp_region_quiet (C := fun w' => ∃ n : In G, w' = n.w) hm hB ⟨⟨_, hG⟩, rfl⟩ (by
    have h' := h ⟨⟨_, hG⟩⟩
    have e : (fun a' => ∀ w', (∃ n : In G, w' = n.w) → Q .normal a' w') = (fun a' => ∀ n : In G, Q .normal a' n.w) := by
      funext a'
      exact propext ⟨fun k n => k _ ⟨n, rfl⟩, fun k w' ⟨n, hn⟩ => hn ▸ k n⟩
    rw [e]
    simpa using h')

/-- A callee that leaves the world alone. -/
theorem In.same {f : FuncId} {args : Array Value} {n : In G} {v : Value} (h : Calls P f args n.w fun e w' => e = .returned v ∧ n.w = w') : Calls P f args n.w fun e w'' => e = .returned v ∧ ∃ m : In G, w'' = m.w :=
  h.mono fun _ _ ⟨he, hw⟩ => ⟨he, n, hw.symm⟩
/-- A callee that makes memory. -/
theorem In.more {f : FuncId} {args : Array Value} {n : In G} {v : Value} (up : ∀ {a b : World}, G a → Below a.heap.size a b → G b) (h : Calls P f args n.w fun e w' => e = .returned v ∧ Below n.w.heap.size n.w w') :
    Calls P f args n.w fun e w'' => e = .returned v ∧ ∃ m : In G, w'' = m.w :=
  h.mono fun _ w' ⟨he, hw⟩ => ⟨he, ⟨w', up n.ok hw⟩, rfl⟩
end
end Go.Proofs.YthmpimjmajoimaaGreatDoor
namespace Go.Proofs.YthmpimjmajoimaaGreatDoor
open Go.RowKit

theorem below_all {a b c : World} (h : Below a.heap.size a b) (k : Below b.heap.size b c) : Below a.heap.size a c := h.trans (k.mono h.size)
theorem byteInfo : (Tryz.prog.info? 5).map (fun i => (i.zero, i.size, i.bytes)) = some (some (.int .u8 0), 1, 1) := by kernel_rfl
def cellsOf8 (xs : List Int) : List Value := xs.map (Value.int .u8)
theorem cells8_len (xs : List Int) : (cellsOf8 xs).length = xs.length := by simp [cellsOf8]

theorem Rd.of_own {w : World} {base : Nat} {v : Value} {xs : List Int} (h : w.ownsRow base 5 1 v xs.length (cellsOf8 xs)) : ∃ A c, v = .slice A xs.length c ∧ xs.length ≤ c ∧ Rd w w.heap.size A xs := by
  rcases h.2 with ⟨rfl, h0⟩ | ⟨g, cap, cur, rfl, hb, hg, hn, _, _, ht⟩
  · exact ⟨none, 0, by rw [h0], by omega, fun hn => by omega⟩
  · refine ⟨_, cap, rfl, hn, fun hp => ⟨g, 0, rfl, lt_of_block hg, fun i hi => ?_⟩⟩
    have := h.cells (g := g) rfl i (.int .u8 xs[i]) (by simp [cellsOf8, hi])
    rcases i with _ | i
    · simpa [Addr.add] using this
    · simpa [Addr.add, Nat.zero_add] using this

theorem append_rd (w : World) {ops : Array Oper} {rest : List Oper} {o : Oper} {a : Act} {Q : Exit → Act → World → Prop} (hgd : o.guard = none) (s x : Operand) (ho : o.op = .call { callee := .builtin .append, args := #[s, x], argTypes := #[61, 61] })
    (base B : Nat) (v : Value) (ys : List Int) (hs : a.eval s = v) (hown : w.ownsRow base 5 1 v ys.length (cellsOf8 ys)) (A : Option Addr) (xs : List Int) (c : Nat) (hx : a.eval x = .slice A xs.length c) (hr : Rd w B A xs) (hnil : A = none → c = 0)
    (hlen : ys.length + xs.length ≤ 1000000) (hbase : base ≤ w.heap.size)
    (h : ∀ v' w' zs, Hid (zs = ys ++ xs) → w'.ownsRow base 5 1 v' zs.length (cellsOf8 zs) → w.grownBy w' v.ownBlock → wpList Tryz.prog ops Q rest (a.put o.dst v') w') : wpList Tryz.prog ops Q (o :: rest) a w := by
  obtain ⟨i0, hi, hz0, hz1, hz2⟩ := info_parts byteInfo
  cases A with
  | none =>
    have h0 : xs = [] := by
      rcases Nat.eq_zero_or_pos xs.length with h0 | h0
      · exact List.eq_nil_of_length_eq_zero h0
      · obtain ⟨b, o', hA, _⟩ := hr h0
        cases hA
    subst h0
    obtain rfl := hnil rfl
    exact wpList_append_own_none hgd s x 61 ho base 5 i0 1 Tryz.underlying61 hi v ys.length (cellsOf8 ys) hs hown hx (h v w ys (Lib.hid (by simp)) hown (World.grownBy.refl w _))
  | some ad =>
    refine wpList_append_own w hgd s x 61 ho base 5 i0 (.int .u8 0) 1 1 Tryz.underlying61 hi hz0 hz1 hz2 rfl (by decide) v ys.length (cellsOf8 ys) hs hown ad xs.length c (cellsOf8 xs) hx (by simp [cellsOf8]) ?_ ?_ (by unfold maxLen; omega) (by omega) hbase ?_
    · intro j u hj
      simp only [cellsOf8, List.getElem?_map, Option.map_eq_some_iff] at hj
      obtain ⟨y, hy, rfl⟩ := hj
      obtain ⟨hjl, rfl⟩ := List.getElem?_eq_some_iff.1 hy
      obtain ⟨b, o', hA, _, hc⟩ := hr (by omega)
      obtain rfl := Option.some.inj hA
      have := hc j hjl
      rcases j with _ | j
      · simpa [Addr.add] using this
      · simpa [Addr.add] using this
    · intro u hu
      simp only [cellsOf8, List.mem_map] at hu
      obtain ⟨y, _, rfl⟩ := hu
      rfl
    · intro v' w' h1 h2 _
      refine h v' w' (ys ++ xs) (Lib.hid rfl) ?_ h2
      simpa [cellsOf8] using h1

theorem own_empty (w : World) (base : Nat) (hb : base ≤ w.heap.size) : (w.alloc (.cells #[] 5)).ownsRow base 5 1 (.slice (some ⟨w.heap.size, 0, none⟩) 0 0) ([] : List Int).length (cellsOf8 []) :=
  ⟨by simp [cellsOf8], .inr ⟨w.heap.size, 0, #[], rfl, hb, heap_alloc_new w _, Nat.le_refl _, by unfold maxLen; omega, by simp, by simp [cellsOf8]⟩⟩

/-- The call's own row of bytes xs, in block g. -/
def Own8 (w : World) (base g cap : Nat) (xs : List Int) : Prop := w.ownsRow base 5 1 (.slice (some ⟨g, 0, none⟩) xs.length cap) xs.length (cellsOf8 xs)
theorem Own8.cell {w : World} {base g cap : Nat} {xs : List Int} (h : Own8 w base g cap xs) (k : Nat) (hk : k < xs.length) : w.cell? ⟨g, k, none⟩ = some (.int .u8 xs[k]) := by
  rw [World.ownsRow.cellAt h k (by omega)]
  simp [cellsOf8, hk]
theorem Own8.free {w : World} {base g cap : Nat} {xs : List Int} (h : Own8 w base g cap xs) (k : Nat) : w.frozen? ⟨g, k, none⟩ = false := World.ownsRow.frozenAt h k
theorem Own8.put {w : World} {base g cap : Nat} {xs : List Int} (h : Own8 w base g cap xs) (k : Nat) (c : Int) : Own8 (w.setCell ⟨g, k, none⟩ (.int .u8 c)) base g cap (xs.set k c) := by
  have := (World.ownsRow.stored h k (.int .u8 c)).1
  unfold Own8
  rw [List.length_set]
  have e : cellsOf8 (xs.set k c) = (cellsOf8 xs).set k (.int .u8 c) := by simp [cellsOf8, List.map_set]
  rw [e]
  exact this
theorem Own8.rd {w : World} {base g cap : Nat} {xs : List Int} (h : Own8 w base g cap xs) : Rd w w.heap.size (some ⟨g, 0, none⟩) xs := by
  intro hp
  obtain ⟨_, _, hv, hb, hg⟩ := World.ownsRow.form h hp
  injection hv with hv
  injection hv with hv
  injection hv with hv
  subst hv
  exact ⟨g, 0, rfl, hg, fun i hi => by rw [Nat.zero_add]; exact h.cell i hi⟩
theorem Own8.base {w : World} {base g cap : Nat} {xs : List Int} (h : Own8 w base g cap xs) (hp : 0 < xs.length) : base ≤ g ∧ g < w.heap.size := by
  obtain ⟨_, _, hv, hb, hg⟩ := World.ownsRow.form h hp
  injection hv with hv
  injection hv with hv
  injection hv with hv
  subst hv
  exact ⟨hb, hg⟩
theorem Own8.cap {w : World} {base g cap : Nat} {xs : List Int} (h : Own8 w base g cap xs) : xs.length ≤ cap := by
  rcases h.2 with ⟨h', _⟩ | ⟨_, _, _, h', _, _, hc, _⟩
  · simp at h'
  · injection h' with _ _ h'
    omega
theorem Own8.of {w : World} {base : Nat} {v : Value} {xs : List Int} (h : w.ownsRow base 5 1 v xs.length (cellsOf8 xs)) (hp : 0 < xs.length) : ∃ g cap, v = .slice (some ⟨g, 0, none⟩) xs.length cap ∧ Own8 w base g cap xs := by
  obtain ⟨g, cap, rfl, _, _⟩ := World.ownsRow.form h hp
  exact ⟨g, cap, rfl, h⟩
/-- A new row of zeros. -/
def zerosObj (k : Nat) : Obj := .cells (madeCells (Value.int .u8 0).cells (k * 1)) 5
theorem make_zeros (k : Nat) (hk : k ≤ 20000) (w : World) : (Instr.makeSlice 61 (.int .i64 (k : Int)) (.int .i64 (k : Int))).run Tryz.prog w = .ok (.slice (some ⟨w.heap.size, 0, none⟩) k k) (w.alloc (zerosObj k)) := by
  obtain ⟨i0, hi, hz0, hz1, hz2⟩ := info_parts byteInfo
  have := run_make (P := Tryz.prog) w 61 5 i0 (.int .u8 0) Tryz.underlying61 hi hz0 .i64 .i64 (k : Int) (k : Int) (by omega) (Int.le_refl _) (by rw [hz2]; omega) (by omega)
  rw [hz1] at this
  simpa [zerosObj] using this
end Go.Proofs.YthmpimjmajoimaaGreatDoor
namespace Go.Proofs.YthmpimjmajoimaaGreatDoor
open Go.RowKit

/-- Block g is these cells. -/
def Blk (w : World) (g : Nat) (T : TypeId) (cs : List Value) : Prop := w.heap[g]? = some (.cells cs.toArray T (0, 0))
theorem Blk.cell {w : World} {g : Nat} {T : TypeId} {cs : List Value} (h : Blk w g T cs) (k : Nat) (hk : k < cs.length) : w.cell? ⟨g, k, none⟩ = some cs[k] := by
  rw [cell_of_row w g k cs.toArray T (0, 0) h]
  simp [hk]
theorem Blk.free {w : World} {g : Nat} {T : TypeId} {cs : List Value} (h : Blk w g T cs) (k : Nat) : w.frozen? ⟨g, k, none⟩ = false := frozen_of_row w g k cs.toArray T h
theorem Blk.put {w : World} {g : Nat} {T : TypeId} {cs : List Value} (h : Blk w g T cs) (k : Nat) (u : Value) : Blk (w.setCell ⟨g, k, none⟩ u) g T (cs.set k u) := by
  have := heap_setCell_same w g k cs.toArray T u h
  unfold Blk
  rw [this]
  simp
theorem Blk.up {w w' : World} {B g : Nat} {T : TypeId} {cs : List Value} (h : Blk w g T cs) (hb : Below B w w') (hg : g < B) : Blk w' g T cs := (hb.block g hg).trans h
theorem Blk.kept {w w' : World} {g : Nat} {T : TypeId} {cs : List Value} {row : Option Nat} (h : Blk w g T cs) (hg : w.grownBy w' row) (hne : some g ≠ row) : Blk w' g T cs := (hg.block g (lt_of_block h) hne).trans h
theorem grown_put {w w' : World} {g : Nat} (h : w.grownBy w' (some g)) (k : Nat) (u : Value) : w.grownBy (w'.setCell ⟨g, k, none⟩ u) (some g) :=
  ⟨h.os, h.tape, h.output, by simp [World.setCell]; exact h.size, fun j hj hne => (Below.heap_setCell _ _ _ _ (fun e => hne (by rw [e]))).trans (h.block j hj hne)⟩
theorem grown_drew {w w' : World} {row : Option Nat} (h : w.grownBy w' row) : w.grownBy w'.drew row := ⟨h.os, h.tape, h.output, h.size, h.block⟩
/-- Block g is these bytes. -/
def Blk8 (w : World) (g : Nat) (xs : List Int) : Prop := Blk w g 5 (cellsOf8 xs)
theorem Blk8.put {w : World} {g : Nat} {xs : List Int} (h : Blk8 w g xs) (k : Nat) (c : Int) : Blk8 (w.setCell ⟨g, k, none⟩ (.int .u8 c)) g (xs.set k c) := by
  have := Blk.put h k (.int .u8 c)
  unfold Blk8
  rw [show cellsOf8 (xs.set k c) = (cellsOf8 xs).set k (.int .u8 c) by simp [cellsOf8, List.map_set]]
  exact this
theorem Blk8.rd {w : World} {g : Nat} {xs : List Int} (h : Blk8 w g xs) (o : Nat) : Rd w w.heap.size (some ⟨g, o, none⟩) (xs.drop o) := by
  intro hn
  simp at hn
  refine ⟨g, o, rfl, lt_of_block h, fun i hi => ?_⟩
  simp at hi
  rw [Blk.cell h (o + i) (by simp [cellsOf8]; omega)]
  simp [cellsOf8]
theorem Blk8.own {w : World} {g base : Nat} {xs : List Int} (h : Blk8 w g xs) (hb : base ≤ g) (hm : xs.length ≤ 1000000) : Own8 w base g xs.length xs :=
  ⟨by simp [cellsOf8], .inr ⟨g, xs.length, (cellsOf8 xs).toArray, rfl, hb, h, Nat.le_refl _, by unfold maxLen; omega, by simp [cellsOf8], by rw [Nat.mul_one]; exact List.take_of_length_le (by simp [cellsOf8])⟩⟩

theorem Own8.kept {w w' : World} {base g cap : Nat} {xs : List Int} {row : Option Nat} (h : Own8 w base g cap xs) (hg : w.grownBy w' row) (hne : some g ≠ row) : Own8 w' base g cap xs := World.ownsRow.kept h hg (.inr hne)
theorem Own8.le {w : World} {base base' g cap : Nat} {xs : List Int} (h : Own8 w base g cap xs) (hb : base' ≤ base) : Own8 w base' g cap xs :=
  ⟨h.1, h.2.imp id fun ⟨g', c', cur, hv, hg, r⟩ => ⟨g', c', cur, hv, Nat.le_trans hb hg, r⟩⟩
/-- The bytes of numbers. -/
def flat (ns : List Int) : List Int := ns.flatMap four
theorem flat_len (ns : List Int) : (flat ns).length = 4 * ns.length := by
  induction ns with
  | nil => rfl
  | cons n ns ih =>
    have : flat (n :: ns) = four n ++ flat ns := rfl
    rw [this, List.length_append, ih, four_len, List.length_cons]
    omega
theorem flat_get (ns : List Int) (i : Nat) (hi : i < ns.length) : (flat ns)[4 * i]? = some (ns[i] % 256) ∧ (flat ns)[4 * i + 1]? = some (ns[i] / 256 % 256) ∧ (flat ns)[4 * i + 2]? = some (ns[i] / 65536 % 256) ∧ (flat ns)[4 * i + 3]? = some (ns[i] / 16777216 % 256) := by
  induction ns generalizing i with
  | nil => simp at hi
  | cons n ns ih =>
    have e : flat (n :: ns) = (n % 256) :: (n / 256 % 256) :: (n / 65536 % 256) :: (n / 16777216 % 256) :: flat ns := rfl
    cases i with
    | zero => simp [e]
    | succ i =>
      have := ih i (by simpa using hi)
      simp only [e, List.getElem_cons_succ]
      rw [show 4 * (i + 1) = 4 * i + 1 + 1 + 1 + 1 by omega]
      simpa [Nat.add_right_comm _ 1, Nat.add_assoc, List.getElem?_cons_succ] using this
theorem lay_step {xs fl : List Int} {o t : Nat} {v : Int} (hv : fl[t]? = some v) (h : o + fl.length ≤ xs.length) : (putB xs o (fl.take t)).set (o + t) v = putB xs o (fl.take (t + 1)) := by
  obtain ⟨ht, rfl⟩ := List.getElem?_eq_some_iff.1 hv
  have e : (fl.take t).length = t := by simp; omega
  have := putB_snoc (xs := xs) (ys := fl.take t) (o := o) fl[t] (by omega)
  rw [e] at this
  rw [this, List.take_succ_eq_append_getElem ht]


/-- append of bytes onto a row of the call's own: the lengths as numbers. -/
theorem app8 (w : World) {ops : Array Oper} {rest : List Oper} {o : Oper} {a : Act} {Q : Exit → Act → World → Prop} (hgd : o.guard = none) (s x : Operand) (ho : o.op = .call { callee := .builtin .append, args := #[s, x], argTypes := #[61, 61] })
    (base B g cap n m c : Nat) (ys xs : List Int) (A : Option Addr) (hs : a.eval s = .slice (some ⟨g, 0, none⟩) n cap) (hown : Own8 w base g cap ys) (hn : ys.length = n) (hx : a.eval x = .slice A m c) (hr : Rd w B A xs) (hm : xs.length = m) (hnil : A = none → c = 0)
    (hlen : n + m ≤ 1000000) (hpos : 0 < n + m) (hbase : base ≤ w.heap.size)
    (h : ∀ g' cap' w', Own8 w' base g' cap' (ys ++ xs) → w.grownBy w' (some g) → wpList Tryz.prog ops Q rest (a.put o.dst (.slice (some ⟨g', 0, none⟩) (n + m) cap')) w') : wpList Tryz.prog ops Q (o :: rest) a w := by
  subst hn hm
  refine append_rd w hgd s x ho base B _ ys hs hown A xs c hx hr hnil hlen hbase ?_
  intro v' w' zs hz hown' hg
  obtain rfl := hz.out
  obtain ⟨g', cap', rfl, ho'⟩ := Own8.of hown' (by simp; omega)
  have e : (ys ++ xs).length = ys.length + xs.length := List.length_append
  rw [e]
  exact h g' cap' w' ho' hg
theorem Own8.one (w : World) (base : Nat) (k : Int) (hb : base ≤ w.heap.size) : Own8 (w.alloc (.cells #[.int .u8 k] 5)) base w.heap.size 1 [k] :=
  Blk8.own (xs := [k]) (show Blk8 _ _ _ from heap_alloc_new w _) hb (by simp)
theorem Own8.none (w : World) (base : Nat) (hb : base ≤ w.heap.size) : Own8 (w.alloc (.cells #[] 5)) base w.heap.size 0 [] := own_empty w base hb
theorem Own8.up {w w' : World} {base g cap : Nat} {xs : List Int} (h : Own8 w base g cap xs) (hb : Below w.heap.size w w') (_hp : 0 < xs.length) : Own8 w' base g cap xs :=
  ⟨h.1, h.2.imp id fun ⟨g', c', cur, hv, hg, hc, r⟩ => ⟨g', c', cur, hv, hg, (hb.block g' (lt_of_block hc)).trans hc, r⟩⟩

theorem or_part {a x : Int} (k : Nat) (h0 : 0 ≤ a) (ha : a < 2 ^ k) (x0 : 0 ≤ x) (hx : x * 2 ^ k + a < 4294967296) : bits .or .u32 a (x * 2 ^ k) = a + x * 2 ^ k := by
  have hp : (0 : Int) < 2 ^ k := Int.pow_pos (by omega)
  have hm : 0 ≤ x * 2 ^ k := Int.mul_nonneg x0 (by omega)
  rw [u32_or a (x * 2 ^ k) h0 (by omega) hm (by omega)]
  have e1 : (x * 2 ^ k).toNat = 2 ^ k * x.toNat := by
    obtain ⟨y, rfl⟩ := Int.eq_ofNat_of_zero_le x0
    rw [show ((y : Int) * 2 ^ k) = ((y * 2 ^ k : Nat) : Int) by simp, Int.toNat_natCast, Int.toNat_natCast, Nat.mul_comm]
  have e2 : a.toNat < 2 ^ k := by
    have : ((2 ^ k : Nat) : Int) = (2 : Int) ^ k := by simp
    omega
  rw [e1, Nat.or_comm, ← Nat.two_pow_add_eq_or_of_lt e2, ← e1]
  omega

/-- The first j of a number's bytes. -/
def part (x0 x1 x2 x3 : Int) : Nat → Int
  | 0 => 0
  | 1 => x0
  | 2 => x0 + x1 * 256
  | 3 => x0 + x1 * 256 + x2 * 65536
  | _ => x0 + x1 * 256 + x2 * 65536 + x3 * 16777216

/-- The bytes at o of block b are those of the number n. -/
def Four (w : World) (b o : Nat) (n : Int) : Prop := ∃ x0 x1 x2 x3 : Int, n = back4 x0 x1 x2 x3 ∧ (0 ≤ x0 ∧ x0 ≤ 255) ∧ (0 ≤ x1 ∧ x1 ≤ 255) ∧ (0 ≤ x2 ∧ x2 ≤ 255) ∧ (0 ≤ x3 ∧ x3 ≤ 255) ∧
  w.cell? ⟨b, o, none⟩ = some (.int .u8 x0) ∧ w.cell? ⟨b, o + 1, none⟩ = some (.int .u8 x1) ∧ w.cell? ⟨b, o + 2, none⟩ = some (.int .u8 x2) ∧ w.cell? ⟨b, o + 3, none⟩ = some (.int .u8 x3)
theorem rd_four_at {w : World} {B b o : Nat} {ps : List Int} (k : Nat) (hr : Rd w B (some ⟨b, o, none⟩) ps) (hx : Byt ps) (hk : k + 4 ≤ ps.length) : Four w b (o + k) (bk ps k) := by
  obtain ⟨b', o', hA, _, hc⟩ := hr (by omega)
  injection hA with hA
  injection hA with e1 e2
  subst e1 e2
  have g : ∀ j (h : j < ps.length), ps.getD j 0 = ps[j] := fun j h => by simp [List.getD_eq_getElem?_getD, h]
  refine ⟨ps.getD k 0, ps.getD (k + 1) 0, ps.getD (k + 2) 0, ps.getD (k + 3) 0, rfl, ?_, ?_, ?_, ?_, ?_, ?_, ?_, ?_⟩
  · rw [g k (by omega)]; exact hx.get k (by omega)
  · rw [g (k + 1) (by omega)]; exact hx.get (k + 1) (by omega)
  · rw [g (k + 2) (by omega)]; exact hx.get (k + 2) (by omega)
  · rw [g (k + 3) (by omega)]; exact hx.get (k + 3) (by omega)
  · rw [g k (by omega)]; exact hc k (by omega)
  · rw [g (k + 1) (by omega), Nat.add_assoc]; exact hc (k + 1) (by omega)
  · rw [g (k + 2) (by omega), Nat.add_assoc]; exact hc (k + 2) (by omega)
  · rw [g (k + 3) (by omega), Nat.add_assoc]; exact hc (k + 3) (by omega)
theorem Own8.mem {w : World} {base g cap : Nat} {xs : List Int} (h : Own8 w base g cap xs) : base ≤ g ∧ g < w.heap.size := by
  rcases h.2 with ⟨h', _⟩ | ⟨_, _, _, h', hb, hg, _⟩
  · simp at h'
  · injection h' with h' _ _
    injection h' with h'
    injection h' with h'
    subst h'
    exact ⟨hb, lt_of_block hg⟩
theorem Own8.rise {w w' : World} {base g cap : Nat} {xs : List Int} (h : Own8 w base g cap xs) (hb : Below w.heap.size w w') : Own8 w' base g cap xs :=
  ⟨h.1, h.2.imp id fun ⟨g', c', cur, hv, hg, hc, r⟩ => ⟨g', c', cur, hv, hg, (hb.block g' (lt_of_block hc)).trans hc, r⟩⟩
end Go.Proofs.YthmpimjmajoimaaGreatDoor
namespace Go.Proofs.YthmpimjmajoimaaGreatDoor
open Go.RowKit

/-- The slice of A, vs.length, c reads as these cells, below block B. -/
def RdV (w : World) (B : Nat) (A : Option Addr) (vs : List Value) : Prop :=
  0 < vs.length → ∃ b o : Nat, A = some ⟨b, o, none⟩ ∧ b < B ∧ ∀ i (h : i < vs.length), w.cell? ⟨b, o + i, none⟩ = some vs[i]
theorem RdV.below {w w' : World} {B : Nat} {A : Option Addr} {vs : List Value} (h : RdV w B A vs) (hb : Below B w w') : RdV w' B A vs := by
  intro hn
  obtain ⟨b, o, hA, hlt, hc⟩ := h hn
  exact ⟨b, o, hA, hlt, fun i hi => (hb.cell (p := ⟨b, o + i, none⟩) hlt).trans (hc i hi)⟩
theorem RdV.mono {w : World} {B B' : Nat} {A : Option Addr} {vs : List Value} (h : RdV w B A vs) (hB : B ≤ B') : RdV w B' A vs := by
  intro hn
  obtain ⟨b, o, hA, hlt, hc⟩ := h hn
  exact ⟨b, o, hA, Nat.lt_of_lt_of_le hlt hB, hc⟩
theorem RdV.up {w u : World} {A : Option Addr} {vs : List Value} (h : RdV w w.heap.size A vs) (hb : Below w.heap.size w u) : RdV u u.heap.size A vs := (h.below hb).mono hb.size
theorem RdV.nil {w : World} {B : Nat} {A : Option Addr} : RdV w B A [] := fun h => by simp at h
theorem rd_up {w u : World} {A : Option Addr} {xs : List Int} (h : Rd w w.heap.size A xs) (hb : Below w.heap.size w u) : Rd u u.heap.size A xs := (h.below hb).mono hb.size
theorem RdV.rd {w : World} {B : Nat} {A : Option Addr} {xs : List Int} (h : RdV w B A (cellsOf8 xs)) : Rd w B A xs := by
  intro hn
  obtain ⟨b, o, hA, hlt, hc⟩ := h (by rw [cells8_len]; exact hn)
  exact ⟨b, o, hA, hlt, fun i hi => by rw [hc i (by rw [cells8_len]; exact hi)]; simp [cellsOf8]⟩
theorem Rd.rdV {w : World} {B : Nat} {A : Option Addr} {xs : List Int} (h : Rd w B A xs) : RdV w B A (cellsOf8 xs) := by
  intro hn
  rw [cells8_len] at hn
  obtain ⟨b, o, hA, hlt, hc⟩ := h hn
  exact ⟨b, o, hA, hlt, fun i hi => by rw [cells8_len] at hi; rw [hc i hi]; simp [cellsOf8]⟩

/-- The call's own row of cells vs of type T, in block g. -/
def OwnG (w : World) (base : Nat) (T : TypeId) (g cap : Nat) (vs : List Value) : Prop := w.ownsRow base T 1 (.slice (some ⟨g, 0, none⟩) vs.length cap) vs.length vs
theorem OwnG.mem {w : World} {base g cap : Nat} {T : TypeId} {vs : List Value} (h : OwnG w base T g cap vs) : base ≤ g ∧ g < w.heap.size := by
  rcases h.2 with ⟨h', _⟩ | ⟨_, _, _, h', hb, hg, _⟩
  · simp at h'
  · injection h' with h' _ _
    obtain h' := Option.some.inj h'
    injection h' with h'
    subst h'
    exact ⟨hb, lt_of_block hg⟩
theorem OwnG.cap {w : World} {base g cap : Nat} {T : TypeId} {vs : List Value} (h : OwnG w base T g cap vs) : vs.length ≤ cap := by
  rcases h.2 with ⟨h', _⟩ | ⟨_, _, _, h', _, _, hc, _⟩
  · simp at h'
  · injection h' with _ _ h'
    omega
theorem OwnG.cell {w : World} {base g cap : Nat} {T : TypeId} {vs : List Value} (h : OwnG w base T g cap vs) (k : Nat) (hk : k < vs.length) : w.cell? ⟨g, k, none⟩ = some vs[k] := by
  rw [World.ownsRow.cellAt h k (by omega)]
  simp [hk]
theorem OwnG.rdV {w : World} {base g cap : Nat} {T : TypeId} {vs : List Value} (h : OwnG w base T g cap vs) : RdV w w.heap.size (some ⟨g, 0, none⟩) vs := fun _ => ⟨g, 0, rfl, h.mem.2, fun i hi => by rw [Nat.zero_add]; exact h.cell i hi⟩
theorem OwnG.rise {w w' : World} {base g cap : Nat} {T : TypeId} {vs : List Value} (h : OwnG w base T g cap vs) (hb : Below w.heap.size w w') : OwnG w' base T g cap vs :=
  ⟨h.1, h.2.imp id fun ⟨g', c', cur, hv, hg, hc, r⟩ => ⟨g', c', cur, hv, hg, (hb.block g' (lt_of_block hc)).trans hc, r⟩⟩
theorem OwnG.kept {w w' : World} {base g cap : Nat} {T : TypeId} {vs : List Value} {row : Option Nat} (h : OwnG w base T g cap vs) (hg : w.grownBy w' row) (hne : some g ≠ row) : OwnG w' base T g cap vs := World.ownsRow.kept h hg (.inr hne)
theorem OwnG.le {w : World} {base base' g cap : Nat} {T : TypeId} {vs : List Value} (h : OwnG w base T g cap vs) (hb : base' ≤ base) : OwnG w base' T g cap vs :=
  ⟨h.1, h.2.imp id fun ⟨g', c', cur, hv, hg, r⟩ => ⟨g', c', cur, hv, Nat.le_trans hb hg, r⟩⟩
theorem OwnG.own8 {w : World} {base g cap : Nat} {xs : List Int} (h : OwnG w base 5 g cap (cellsOf8 xs)) : Own8 w base g cap xs := by
  have := h
  unfold OwnG at this
  rw [cells8_len] at this
  exact this
theorem Own8.ownG {w : World} {base g cap : Nat} {xs : List Int} (h : Own8 w base g cap xs) : OwnG w base 5 g cap (cellsOf8 xs) := by
  unfold OwnG
  rw [cells8_len]
  exact h
/-- A new block is a row of the call's own. -/
theorem OwnG.new (w : World) (base : Nat) (T : TypeId) (vs : List Value) (hb : base ≤ w.heap.size) (hm : vs.length ≤ 1000000) : OwnG (w.alloc (.cells vs.toArray T)) base T w.heap.size vs.length vs :=
  ⟨by simp, .inr ⟨w.heap.size, vs.length, vs.toArray, rfl, hb, heap_alloc_new w _, Nat.le_refl _, by unfold maxLen; omega, by simp, by rw [Nat.mul_one]; exact List.take_of_length_le (by simp)⟩⟩

/-- append onto a row of the call's own, something. -/
theorem appG (w : World) {ops : Array Oper} {rest : List Oper} {o : Oper} {a : Act} {Q : Exit → Act → World → Prop} (hgd : o.guard = none) (s x : Operand) (Ts T : TypeId) (z : Value) (nb : Nat) (ho : o.op = .call { callee := .builtin .append, args := #[s, x], argTypes := #[Ts, Ts] })
    (hu : Tryz.prog.underlying Ts = some (.slice T)) (hinfo : (Tryz.prog.info? T).map (fun i => (i.zero, i.size, i.bytes)) = some (some z, 1, nb)) (hzs : z.cells.size = 1) (hnb : nb ≤ 1000)
    (base g cap n m c : Nat) (ys xs : List Value) (ad : Addr) (hs : a.eval s = .slice (some ⟨g, 0, none⟩) n cap) (hown : OwnG w base T g cap ys) (hn : ys.length = n) (hx : a.eval x = .slice (some ad) m c) (hm : xs.length = m) (hr : ∀ j (h : j < xs.length), w.cell? (ad.add j) = some xs[j]) (h1 : ∀ u ∈ xs, u.oneCell' = true)
    (hlen : n + m ≤ 1000000) (hpos : 0 < m) (hbase : base ≤ w.heap.size)
    (h : ∀ g' cap' w', OwnG w' base T g' cap' (ys ++ xs) → w.grownBy w' (some g) → (g' = g ∨ g' = w.heap.size) → wpList Tryz.prog ops Q rest (a.put o.dst (.slice (some ⟨g', 0, none⟩) (n + m) cap')) w') : wpList Tryz.prog ops Q (o :: rest) a w := by
  obtain ⟨i0, hi, hz0, hz1, hz2⟩ := info_parts hinfo
  subst hn hm
  have hby : (ys.length + xs.length) * nb ≤ 140737488355328 := Nat.le_trans (Nat.mul_le_mul hlen hnb) (by decide)
  refine wpList_append_lies w hgd s x Ts ho base T i0 z 1 nb hu hi hz0 hz1 hz2 hzs (by decide) _ ys.length ys hs hown ad xs.length c xs hx (by simp) (fun j u hj => ?_) h1 hpos (by unfold maxLen; omega) hby hbase w.heap.size rfl ?_
  · obtain ⟨hjl, rfl⟩ := List.getElem?_eq_some_iff.1 hj
    exact hr j hjl
  · intro g' cap' w' h2 h3 h4 _
    refine h g' cap' w' ?_ h3 (h4.imp (fun e => ?_) id)
    · unfold OwnG
      rw [List.length_append]
      exact h2
    · exact (Option.some.inj e).symm

/-- Rows of bytes: cells that are slices, each of which reads as its bytes. -/
def RdR (w : World) (vs : List Value) (l : List (List Int)) : Prop :=
  vs.length = l.length ∧ ∀ i (h : i < vs.length) (h2 : i < l.length), ∃ A c, vs[i] = .slice A l[i].length c ∧ l[i].length ≤ c ∧ Rd w w.heap.size A l[i]
theorem RdR.up {w u : World} {vs : List Value} {l : List (List Int)} (h : RdR w vs l) (hb : Below w.heap.size w u) : RdR u vs l :=
  ⟨h.1, fun i h1 h2 => by obtain ⟨A, c, e, hc, hr⟩ := h.2 i h1 h2; exact ⟨A, c, e, hc, rd_up hr hb⟩⟩
theorem RdR.nil {w : World} : RdR w [] [] := ⟨rfl, fun i h => by simp at h⟩
end Go.Proofs.YthmpimjmajoimaaGreatDoor
