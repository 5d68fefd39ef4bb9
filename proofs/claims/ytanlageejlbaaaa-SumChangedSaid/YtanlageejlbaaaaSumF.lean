/-
  append of bytes that came in onto a row of the call's own; sums put together, by the rows that they are of.
-/
import Derived.Test.YtanlageejlbaaaaSumE
import Derived.Laws.AppendOwnNone
import Derived.OwnWalk
import Derived.Deep.AppendLies
namespace Go.Proofs.Ytanlageejlbaaaa
open Go.RowKit

theorem byteInfo : (Try.prog.info? 5).map (fun i => (i.zero, i.size, i.bytes)) = some (some (.int .u8 0), 1, 1) := by kernel_rfl
def cellsOf8 (xs : List Int) : List Value := xs.map (Value.int .u8)
theorem cells8_len (xs : List Int) : (cellsOf8 xs).length = xs.length := by simp [cellsOf8]

theorem Rd.of_own {w : World} {base : Nat} {v : Value} {xs : List Int} (h : w.ownsRow base 5 1 v xs.length (cellsOf8 xs)) : ∃ A c, v = .slice A xs.length c ∧ xs.length ≤ c ∧ Rd w w.heap.size A xs := by
  rcases h.2 with ⟨rfl, h0⟩ | ⟨g, cap, cur, rfl, hb, hg, hn, _, _, ht⟩
  · exact ⟨none, 0, by rw [h0], by omega, fun hn => by omega⟩
  · refine ⟨_, cap, rfl, hn, fun hp => ⟨g, 0, rfl, lt_of_block hg, fun i hi => ?_⟩⟩
    have := h.cells (g := g) rfl i (.int .u8 xs[i]) (by simp [cellsOf8, hi])
    rcases i with _ | i
    · simpa [Addr.add] using this
    · simpa [Addr.add, Nat.zero_add] using this

theorem append_rd (w : World) {ops : Array Oper} {rest : List Oper} {o : Oper} {a : Act} {Q : Exit → Act → World → Prop} (hgd : o.guard = none) (s x : Operand) (ho : o.op = .call { callee := .builtin .append, args := #[s, x], argTypes := #[22, 22] })
    (base B : Nat) (v : Value) (ys : List Int) (hs : a.eval s = v) (hown : w.ownsRow base 5 1 v ys.length (cellsOf8 ys)) (A : Option Addr) (xs : List Int) (c : Nat) (hx : a.eval x = .slice A xs.length c) (hr : Rd w B A xs) (hnil : A = none → c = 0)
    (hlen : ys.length + xs.length ≤ 1000000) (hbase : base ≤ w.heap.size)
    (h : ∀ v' w' zs, Hid (zs = ys ++ xs) → w'.ownsRow base 5 1 v' zs.length (cellsOf8 zs) → w.grownBy w' v.ownBlock → wpList Try.prog ops Q rest (a.put o.dst v') w') : wpList Try.prog ops Q (o :: rest) a w := by
  obtain ⟨i0, hi, hz0, hz1, hz2⟩ := info_parts byteInfo
  cases A with
  | none =>
    have h0 : xs = [] := by
      rcases Nat.eq_zero_or_pos xs.length with h0 | h0
      · exact List.eq_nil_of_length_eq_zero h0
      · obtain ⟨b, o', hA, _⟩ := hr h0
        cases hA
    subst h0
    obtain rfl := hnil rfl
    exact wpList_append_own_none hgd s x 22 ho base 5 i0 1 Try.underlying22 hi v ys.length (cellsOf8 ys) hs hown hx (h v w ys (Lib.hid (by simp)) hown (World.grownBy.refl w _))
  | some ad =>
    refine wpList_append_own w hgd s x 22 ho base 5 i0 (.int .u8 0) 1 1 Try.underlying22 hi hz0 hz1 hz2 rfl (by decide) v ys.length (cellsOf8 ys) hs hown ad xs.length c (cellsOf8 xs) hx (by simp [cellsOf8]) ?_ ?_ (by unfold maxLen; omega) (by omega) hbase ?_
    · intro j u hj
      simp only [cellsOf8, List.getElem?_map, Option.map_eq_some_iff] at hj
      obtain ⟨y, hy, rfl⟩ := hj
      obtain ⟨hjl, rfl⟩ := List.getElem?_eq_some_iff.1 hy
      obtain ⟨b, o', hA, _, hc⟩ := hr (by omega)
      injection hA with hA
      subst hA
      have := hc j hjl
      rcases j with _ | j
      · simpa [Addr.add] using this
      · simpa [Addr.add] using this
    · intro u hu
      simp only [cellsOf8, List.mem_map] at hu
      obtain ⟨y, _, rfl⟩ := hu
      rfl
    · intro v' w' h1 h2 _
      refine h v' w' (ys ++ xs) (Lib.hid rfl) ?_ h2
      simpa [cellsOf8] using h1

theorem add_sum (A : Option Addr) (xs ys zs : List Int) (c : Nat) (w : World) (hx : Byt ys) (hr : Rd w w.heap.size A ys) (hc : ys.length ≤ c) (hn : ys.length ≤ 1000000) (hz : zs = xs ++ ys) :
    Calls Try.prog 10 #[.int .u32 (sumN xs), .slice A ys.length c] w (NumB (sumN zs) w) := by
  obtain ⟨a1, a2⟩ := aL_bd 1 xs
  obtain ⟨a3, a4⟩ := aH_bd 1 0 xs
  have := add_is A ys c (aL 1 xs) (aH 1 0 xs) w hx hr hc hn a1 a2 a3 a4
  rw [sumN_add, ← hz] at this
  exact this
theorem add_none (xs : List Int) (w : World) : Calls Try.prog 10 #[.int .u32 (sumN xs), .slice none 0 0] w (NumB (sumN xs) w) := add_sum none xs [] xs 0 w Byt.nil Rd.nil (Nat.le_refl _) (by decide) (by simp)
theorem join_sum (xs ys zs : List Int) (w : World) (hn : ys.length ≤ 1000000) (hz : zs = xs ++ ys) : Calls Try.prog 11 #[.int .u32 (sumN xs), .int .u32 (sumN ys), .int .i64 (ys.length : Int)] w (NumIs (sumN zs) w) := by
  obtain ⟨a1, a2⟩ := aL_bd 1 xs
  obtain ⟨a3, a4⟩ := aH_bd 1 0 xs
  obtain ⟨b1, b2⟩ := aL_bd 1 ys
  obtain ⟨b3, b4⟩ := aH_bd 1 0 ys
  have := join_is (aL 1 xs) (aH 1 0 xs) (aL 1 ys) (aH 1 0 ys) (ys.length : Int) w a1 a2 a3 a4 b1 b2 b3 b4 (by omega) (by omega)
  rw [jN_is, ← hz] at this
  exact this
theorem join_none (xs : List Int) (w : World) : Calls Try.prog 11 #[.int .u32 (sumN xs), .int .u32 1, .int .i64 0] w (NumIs (sumN xs) w) := join_sum xs [] xs w (by decide) (by simp)
end Go.Proofs.Ytanlageejlbaaaa
