/-
  Rows of numbers of the kind int: append onto them. For whatever program.
-/
import Derived.Test.YtckkgjggoopjiaaCelB
namespace Go.Proofs.Ytckkgjggoopjiaa
open Go.RowKit

theorem intInfo : (Try.prog.info? 3).map (fun i => (i.zero, i.size, i.bytes)) = some (some (.int .i64 0), 1, 8) := by kernel_rfl
theorem append_zeroI (w : World) (ty : TypeId) (A A' : Option Addr) (s cap c' : Nat) (hs : s ≤ cap) : (Builtin.append_ #[26, 26] ty #[.slice A s cap, .slice A' 0 c']).run Try.prog w = .ok (.slice A s cap) w := by
  obtain ⟨i0, hi, hz0, hz1, hz2⟩ := info_parts intInfo
  refine run_append_nothing w 26 26 ty 3 i0 Try.underlying26 hi A s cap hs (.slice A' 0 c') ⟨.inl ⟨3, Try.underlying26⟩, fun w' => by simp [Builtin.lenOf], ?_, ?_, by simp, fun u hu => by cases hu⟩
  · cases A' <;> simp [Builtin.firstCells, loadCells, loadCellsFrom]
  · cases A' <;> simp [Builtin.firstCells, loadCells, loadCellsFrom]
/-- append of numbers that are read, onto a row of numbers of the call's own. -/
theorem appI (w : World) {ops : Array Oper} {rest : List Oper} {o : Oper} {a : Act} {Q : Exit → Act → World → Prop} (hgd : o.guard = none) (s x : Operand) (ho : o.op = .call { callee := .builtin .append, args := #[s, x], argTypes := #[26, 26] })
    (base B g cap n m c : Nat) (ys xs : List Int) (A : Option Addr) (hs : a.eval s = .slice (some ⟨g, 0, none⟩) n cap) (hown : OwnG w base 3 g cap (iCells ys)) (hn : ys.length = n) (hx : a.eval x = .slice A m c) (hr : RdV w B A (iCells xs)) (hm : xs.length = m)
    (hlen : n + m ≤ 1000000) (hbase : base ≤ w.heap.size)
    (h : ∀ g' cap' w', OwnG w' base 3 g' cap' (iCells (ys ++ xs)) → w.grownBy w' (some g) → (g' = g ∨ g' = w.heap.size) → wpList Try.prog ops Q rest (a.put o.dst (.slice (some ⟨g', 0, none⟩) (n + m) cap')) w') : wpList Try.prog ops Q (o :: rest) a w := by
  rcases Nat.eq_zero_or_pos m with h0 | hp
  · subst h0
    have h0 : xs = [] := List.eq_nil_of_length_eq_zero hm
    subst h0
    have hc := hown.cap
    rw [iCells_len, hn] at hc
    refine wpList_plain hgd fun K hK => ?_
    have hrun := append_zeroI w o.type (some ⟨g, 0, none⟩) A n cap c hc
    unfold Oper.wp
    simp [execOp, ho, resolve, invoke, builtin, hs, hx, hrun, Result.andThen]
    refine hK _ _ ?_
    have := h g cap w (by rw [List.append_nil]; exact hown) (World.grownBy.refl w _) (.inl rfl)
    rwa [Nat.add_zero] at this
  · have hrow : 0 < (iCells xs).length := by rw [iCells_len]; omega
    obtain ⟨b, o', rfl, _, hc⟩ := hr hrow
    refine appG w hgd s x 26 3 (.int .i64 0) 8 ho Try.underlying26 intInfo rfl (by decide) base g cap n m c (iCells ys) (iCells xs) ⟨b, o', none⟩ hs hown (by rw [iCells_len]; exact hn) hx (by rw [iCells_len]; exact hm) (fun j hj => by
      have := hc j hj
      rcases j with _ | j
      · simpa [Addr.add] using this
      · simpa [Addr.add] using this) iCells_one hlen hp hbase ?_
    intro g' cap' w' h1 h2 h3
    refine h g' cap' w' ?_ h2 h3
    simpa [iCells] using h1
def nats (l : List Nat) : List Int := l.map (fun (x : Nat) => (x : Int))
theorem nats_len (l : List Nat) : (nats l).length = l.length := by simp [nats]
theorem nats_snoc (l : List Nat) (x : Nat) : iCells (nats (l ++ [x])) = iCells (nats l) ++ [.int .i64 (x : Int)] := by simp [iCells, nats]
/-- A list of one's own. -/
def ListIs (l : List Nat) (w : World) (r : Ending) (w' : World) : Prop := ∃ A c, r = .returned (.slice A l.length c) ∧ RowF (fun k => w.heap.size ≤ k) w' (.slice A l.length c) (iCells (nats l)) ∧ Below w.heap.size w w'
theorem RowF.rdI {F : Nat → Prop} {w : World} {A : Option Addr} {n c : Nat} {xs : List Int} (h : RowF F w (.slice A n c) (iCells xs)) : RdV w w.heap.size A (iCells xs) ∧ xs.length = n ∧ n ≤ c := by
  obtain ⟨A', c', e, hc, hr, _⟩ := h
  injection e with e1 e2 e3
  subst e1 e2 e3
  exact ⟨hr, (iCells_len _).symm, hc⟩
theorem rdv_i {w : World} {B b o : Nat} {xs : List Int} (h : ∀ i (h : i < (iCells xs).length), w.cell? ⟨b, o + i, none⟩ = some (iCells xs)[i]) (k : Nat) (hk : k < xs.length) : w.cell? ⟨b, o + k, none⟩ = some (.int .i64 xs[k]) := by
  rw [h k (by rw [iCells_len]; exact hk)]
  simp [iCells]
theorem row_rd (w : World) (vs : List Value) : RdV (w.alloc (.cells vs.toArray 3)) (w.alloc (.cells vs.toArray 3)).heap.size (some ⟨w.heap.size, 0, none⟩) vs := fun _ =>
  ⟨w.heap.size, 0, rfl, by simp, fun i hi => by rw [Nat.zero_add]; exact Blk.cell (T := 3) (heap_alloc_new w _) i hi⟩
end Go.Proofs.Ytckkgjggoopjiaa
