/-
  Blocks by their cells, rows of a call's own; numbers as bytes, laid one behind the other. For whatever program that has bytes.
-/
import Derived.Test.YtljpkngbhdplbaaDoorMemB
namespace Go.Proofs.YtljpkngbhdplbaaDoor
open Go.RowKit

/-- Block g is these cells. -/
def Blk (w : World) (g : Nat) (T : TypeId) (cs : List Value) : Prop := w.heap[g]? = some (.cells cs.toArray T (0, 0))
theorem Blk.cell {w : World} {g : Nat} {T : TypeId} {cs : List Value} (h : Blk w g T cs) (k : Nat) (hk : k < cs.length) : w.cell? ⟨g, k, none⟩ = some cs[k] := by
  rw [cell_of_row w g k cs.toArray T (0, 0) h]
  simp [hk]
theorem Blk.free {w : World} {g : Nat} {T : TypeId} {cs : List Value} (h : Blk w g T cs) (k : Nat) : w.frozen? ⟨g, k, none⟩ = false := frozen_of_row w g k cs.toArray T h
theorem Blk.put {w : World} {g : Nat} {T : TypeId} {cs : List Value} (h : Blk w g T cs) (k : Nat) (u : Value) : Blk (w.setCell ⟨g, k, none⟩ u) g T (cs.set k u) := by
  have := heap_setCell_same w g k cs.toArray T u h
  unfold Blk
  rw [this]
  simp
theorem Blk.up {w w' : World} {B g : Nat} {T : TypeId} {cs : List Value} (h : Blk w g T cs) (hb : Below B w w') (hg : g < B) : Blk w' g T cs := (hb.block g hg).trans h
theorem Blk.kept {w w' : World} {g : Nat} {T : TypeId} {cs : List Value} {row : Option Nat} (h : Blk w g T cs) (hg : w.grownBy w' row) (hne : some g ≠ row) : Blk w' g T cs := (hg.block g (lt_of_block h) hne).trans h
theorem grown_put {w w' : World} {g : Nat} (h : w.grownBy w' (some g)) (k : Nat) (u : Value) : w.grownBy (w'.setCell ⟨g, k, none⟩ u) (some g) :=
  ⟨h.os, h.tape, h.output, by simp [World.setCell]; exact h.size, fun j hj hne => (Below.heap_setCell _ _ _ _ (fun e => hne (by rw [e]))).trans (h.block j hj hne)⟩
theorem grown_drew {w w' : World} {row : Option Nat} (h : w.grownBy w' row) : w.grownBy w'.drew row := ⟨h.os, h.tape, h.output, h.size, h.block⟩
/-- Block g is these bytes. -/
def Blk8 (w : World) (g : Nat) (xs : List Int) : Prop := Blk w g 5 (cellsOf8 xs)
theorem Blk8.put {w : World} {g : Nat} {xs : List Int} (h : Blk8 w g xs) (k : Nat) (c : Int) : Blk8 (w.setCell ⟨g, k, none⟩ (.int .u8 c)) g (xs.set k c) := by
  have := Blk.put h k (.int .u8 c)
  unfold Blk8
  rw [show cellsOf8 (xs.set k c) = (cellsOf8 xs).set k (.int .u8 c) by simp [cellsOf8, List.map_set]]
  exact this
theorem Blk8.rd {w : World} {g : Nat} {xs : List Int} (h : Blk8 w g xs) (o : Nat) : Rd w w.heap.size (some ⟨g, o, none⟩) (xs.drop o) := by
  intro hn
  simp at hn
  refine ⟨g, o, rfl, lt_of_block h, fun i hi => ?_⟩
  simp at hi
  rw [Blk.cell h (o + i) (by simp [cellsOf8]; omega)]
  simp [cellsOf8]
theorem Blk8.own {w : World} {g base : Nat} {xs : List Int} (h : Blk8 w g xs) (hb : base ≤ g) (hm : xs.length ≤ 1000000) : Own8 w base g xs.length xs :=
  ⟨by simp [cellsOf8], .inr ⟨g, xs.length, (cellsOf8 xs).toArray, rfl, hb, h, Nat.le_refl _, by unfold maxLen; omega, by simp [cellsOf8], by rw [Nat.mul_one]; exact List.take_of_length_le (by simp [cellsOf8])⟩⟩

theorem Own8.kept {w w' : World} {base g cap : Nat} {xs : List Int} {row : Option Nat} (h : Own8 w base g cap xs) (hg : w.grownBy w' row) (hne : some g ≠ row) : Own8 w' base g cap xs := World.ownsRow.kept h hg (.inr hne)
theorem Own8.le {w : World} {base base' g cap : Nat} {xs : List Int} (h : Own8 w base g cap xs) (hb : base' ≤ base) : Own8 w base' g cap xs :=
  ⟨h.1, h.2.imp id fun ⟨g', c', cur, hv, hg, r⟩ => ⟨g', c', cur, hv, Nat.le_trans hb hg, r⟩⟩
/-- The bytes of numbers. -/
def flat (ns : List Int) : List Int := ns.flatMap four
theorem flat_len (ns : List Int) : (flat ns).length = 4 * ns.length := by
  induction ns with
  | nil => rfl
  | cons n ns ih =>
    have : flat (n :: ns) = four n ++ flat ns := rfl
    rw [this, List.length_append, ih, four_len, List.length_cons]
    omega
theorem flat_get (ns : List Int) (i : Nat) (hi : i < ns.length) : (flat ns)[4 * i]? = some (ns[i] % 256) ∧ (flat ns)[4 * i + 1]? = some (ns[i] / 256 % 256) ∧ (flat ns)[4 * i + 2]? = some (ns[i] / 65536 % 256) ∧ (flat ns)[4 * i + 3]? = some (ns[i] / 16777216 % 256) := by
  induction ns generalizing i with
  | nil => simp at hi
  | cons n ns ih =>
    have e : flat (n :: ns) = (n % 256) :: (n / 256 % 256) :: (n / 65536 % 256) :: (n / 16777216 % 256) :: flat ns := rfl
    cases i with
    | zero => simp [e]
    | succ i =>
      have := ih i (by simpa using hi)
      simp only [e, List.getElem_cons_succ]
      rw [show 4 * (i + 1) = 4 * i + 1 + 1 + 1 + 1 by omega]
      simpa [Nat.add_right_comm _ 1, Nat.add_assoc, List.getElem?_cons_succ] using this
theorem lay_step {xs fl : List Int} {o t : Nat} {v : Int} (hv : fl[t]? = some v) (h : o + fl.length ≤ xs.length) : (putB xs o (fl.take t)).set (o + t) v = putB xs o (fl.take (t + 1)) := by
  obtain ⟨ht, rfl⟩ := List.getElem?_eq_some_iff.1 hv
  have e : (fl.take t).length = t := by simp; omega
  have := putB_snoc (xs := xs) (ys := fl.take t) (o := o) fl[t] (by omega)
  rw [e] at this
  rw [this, List.take_succ_eq_append_getElem ht]


/-- append of bytes onto a row of the call's own: the lengths as numbers. -/
theorem app8 (w : World) {ops : Array Oper} {rest : List Oper} {o : Oper} {a : Act} {Q : Exit → Act → World → Prop} (hgd : o.guard = none) (s x : Operand) (ho : o.op = .call { callee := .builtin .append, args := #[s, x], argTypes := #[35, 35] })
    (base B g cap n m c : Nat) (ys xs : List Int) (A : Option Addr) (hs : a.eval s = .slice (some ⟨g, 0, none⟩) n cap) (hown : Own8 w base g cap ys) (hn : ys.length = n) (hx : a.eval x = .slice A m c) (hr : Rd w B A xs) (hm : xs.length = m) (hnil : A = none → c = 0)
    (hlen : n + m ≤ 1000000) (hpos : 0 < n + m) (hbase : base ≤ w.heap.size)
    (h : ∀ g' cap' w', Own8 w' base g' cap' (ys ++ xs) → w.grownBy w' (some g) → wpList Tryd.prog ops Q rest (a.put o.dst (.slice (some ⟨g', 0, none⟩) (n + m) cap')) w') : wpList Tryd.prog ops Q (o :: rest) a w := by
  subst hn hm
  refine append_rd w hgd s x ho base B _ ys hs hown A xs c hx hr hnil hlen hbase ?_
  intro v' w' zs hz hown' hg
  obtain rfl := hz.out
  obtain ⟨g', cap', rfl, ho'⟩ := Own8.of hown' (by simp; omega)
  have e : (ys ++ xs).length = ys.length + xs.length := List.length_append
  rw [e]
  exact h g' cap' w' ho' hg
theorem Own8.one (w : World) (base : Nat) (k : Int) (hb : base ≤ w.heap.size) : Own8 (w.alloc (.cells #[.int .u8 k] 5)) base w.heap.size 1 [k] :=
  Blk8.own (xs := [k]) (show Blk8 _ _ _ from heap_alloc_new w _) hb (by simp)
theorem Own8.none (w : World) (base : Nat) (hb : base ≤ w.heap.size) : Own8 (w.alloc (.cells #[] 5)) base w.heap.size 0 [] := own_empty w base hb
theorem Own8.up {w w' : World} {base g cap : Nat} {xs : List Int} (h : Own8 w base g cap xs) (hb : Below w.heap.size w w') (_hp : 0 < xs.length) : Own8 w' base g cap xs :=
  ⟨h.1, h.2.imp id fun ⟨g', c', cur, hv, hg, hc, r⟩ => ⟨g', c', cur, hv, hg, (hb.block g' (lt_of_block hc)).trans hc, r⟩⟩

theorem or_part {a x : Int} (k : Nat) (h0 : 0 ≤ a) (ha : a < 2 ^ k) (x0 : 0 ≤ x) (hx : x * 2 ^ k + a < 4294967296) : bits .or .u32 a (x * 2 ^ k) = a + x * 2 ^ k := by
  have hp : (0 : Int) < 2 ^ k := Int.pow_pos (by omega)
  have hm : 0 ≤ x * 2 ^ k := Int.mul_nonneg x0 (by omega)
  rw [u32_or a (x * 2 ^ k) h0 (by omega) hm (by omega)]
  have e1 : (x * 2 ^ k).toNat = 2 ^ k * x.toNat := by
    obtain ⟨y, rfl⟩ := Int.eq_ofNat_of_zero_le x0
    rw [show ((y : Int) * 2 ^ k) = ((y * 2 ^ k : Nat) : Int) by simp, Int.toNat_natCast, Int.toNat_natCast, Nat.mul_comm]
  have e2 : a.toNat < 2 ^ k := by
    have : ((2 ^ k : Nat) : Int) = (2 : Int) ^ k := by simp
    omega
  rw [e1, Nat.or_comm, ← Nat.two_pow_add_eq_or_of_lt e2, ← e1]
  omega

/-- The first j of a number's bytes. -/
def part (x0 x1 x2 x3 : Int) : Nat → Int
  | 0 => 0
  | 1 => x0
  | 2 => x0 + x1 * 256
  | 3 => x0 + x1 * 256 + x2 * 65536
  | _ => x0 + x1 * 256 + x2 * 65536 + x3 * 16777216

/-- The bytes at o of block b are those of the number n. -/
def Four (w : World) (b o : Nat) (n : Int) : Prop := ∃ x0 x1 x2 x3 : Int, n = back4 x0 x1 x2 x3 ∧ (0 ≤ x0 ∧ x0 ≤ 255) ∧ (0 ≤ x1 ∧ x1 ≤ 255) ∧ (0 ≤ x2 ∧ x2 ≤ 255) ∧ (0 ≤ x3 ∧ x3 ≤ 255) ∧
  w.cell? ⟨b, o, none⟩ = some (.int .u8 x0) ∧ w.cell? ⟨b, o + 1, none⟩ = some (.int .u8 x1) ∧ w.cell? ⟨b, o + 2, none⟩ = some (.int .u8 x2) ∧ w.cell? ⟨b, o + 3, none⟩ = some (.int .u8 x3)
theorem rd_four_at {w : World} {B b o : Nat} {ps : List Int} (k : Nat) (hr : Rd w B (some ⟨b, o, none⟩) ps) (hx : Byt ps) (hk : k + 4 ≤ ps.length) : Four w b (o + k) (bk ps k) := by
  obtain ⟨b', o', hA, _, hc⟩ := hr (by omega)
  injection hA with hA
  injection hA with e1 e2
  subst e1 e2
  have g : ∀ j (h : j < ps.length), ps.getD j 0 = ps[j] := fun j h => by simp [List.getD_eq_getElem?_getD, h]
  refine ⟨ps.getD k 0, ps.getD (k + 1) 0, ps.getD (k + 2) 0, ps.getD (k + 3) 0, rfl, ?_, ?_, ?_, ?_, ?_, ?_, ?_, ?_⟩
  · rw [g k (by omega)]; exact hx.get k (by omega)
  · rw [g (k + 1) (by omega)]; exact hx.get (k + 1) (by omega)
  · rw [g (k + 2) (by omega)]; exact hx.get (k + 2) (by omega)
  · rw [g (k + 3) (by omega)]; exact hx.get (k + 3) (by omega)
  · rw [g k (by omega)]; exact hc k (by omega)
  · rw [g (k + 1) (by omega), Nat.add_assoc]; exact hc (k + 1) (by omega)
  · rw [g (k + 2) (by omega), Nat.add_assoc]; exact hc (k + 2) (by omega)
  · rw [g (k + 3) (by omega), Nat.add_assoc]; exact hc (k + 3) (by omega)
theorem Own8.mem {w : World} {base g cap : Nat} {xs : List Int} (h : Own8 w base g cap xs) : base ≤ g ∧ g < w.heap.size := by
  rcases h.2 with ⟨h', _⟩ | ⟨_, _, _, h', hb, hg, _⟩
  · simp at h'
  · injection h' with h' _ _
    injection h' with h'
    injection h' with h'
    subst h'
    exact ⟨hb, lt_of_block hg⟩
theorem Own8.rise {w w' : World} {base g cap : Nat} {xs : List Int} (h : Own8 w base g cap xs) (hb : Below w.heap.size w w') : Own8 w' base g cap xs :=
  ⟨h.1, h.2.imp id fun ⟨g', c', cur, hv, hg, hc, r⟩ => ⟨g', c', cur, hv, hg, (hb.block g' (lt_of_block hc)).trans hc, r⟩⟩
end Go.Proofs.YtljpkngbhdplbaaDoor
