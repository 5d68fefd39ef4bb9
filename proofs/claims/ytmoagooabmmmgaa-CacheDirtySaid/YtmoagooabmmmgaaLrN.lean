/-
  A ranking in memory: New.
-/
import Derived.Test.YtmoagooabmmmgaaLrB
import Derived.Laws.Tables
namespace Go.Proofs.Ytmoagooabmmmgaa
open Go.RowKit

/-- What New answers. -/
def NewIs (n : Int) (w : World) (r : Ending) (w' : World) : Prop :=
  Below w.heap.size w w' ∧ if 1 ≤ n ∧ n ≤ 64 then r = .returned (.tuple #[.pointer (some ⟨w.heap.size, 0, none⟩), .nilIface]) ∧ RkM w' w.heap.size ⟨[], [], n.toNat⟩ else r = .returned (.tuple #[.pointer none, .iface 78 (.int .i64 1)])
def linkZ : List Value := [.int .i64 0, .int .i64 0, .bool false]
def rowZ : List Value := (List.replicate 65 linkZ).flatten ++ [.int .i64 0]
/-- An empty ranking's cells. -/
def rankZ (n : Int) : List Value := .int .i64 n :: (rowZ ++ rowZ)
theorem rep_at (k : Nat) (hk : k < 3) : ∀ (m i : Nat), i < m → ((List.replicate m linkZ).flatten)[i * 3 + k]? = linkZ[k]?
  | 0, _, h => by omega
  | m + 1, 0, _ => by
    rw [List.replicate_succ, List.flatten_cons, List.getElem?_append_left (by simp [linkZ]; omega)]
    simp
  | m + 1, i + 1, h => by
    rw [List.replicate_succ, List.flatten_cons, List.getElem?_append_right (by simp [linkZ]; omega)]
    rw [show (i + 1) * 3 + k - linkZ.length = i * 3 + k by simp [linkZ]; omega]
    exact rep_at k hk m i (by omega)
theorem rep_len : ∀ m : Nat, ((List.replicate m linkZ).flatten).length = m * 3
  | 0 => rfl
  | m + 1 => by
    rw [List.replicate_succ, List.flatten_cons, List.length_append, rep_len m]
    simp [linkZ]
    omega
theorem rowZ_at (k : Nat) (hk : k < 3) (i : Nat) (hi : i ≤ 64) : rowZ[i * 3 + k]? = linkZ[k]? := by
  unfold rowZ
  rw [List.getElem?_append_left (by rw [rep_len]; omega)]
  exact rep_at k hk 65 i (by omega)
theorem rowZ_end : rowZ[195]? = some (.int .i64 0) := by
  unfold rowZ
  rw [List.getElem?_append_right (by rw [rep_len]; omega), rep_len]
  rfl
theorem rowZ_len : rowZ.length = 196 := by
  unfold rowZ
  rw [List.length_append, rep_len]
  rfl
theorem rowZ_c {cs : List Value} {o : Nat} (h : ∀ j, j < 196 → cs[o + j]? = rowZ[j]?) : RowC cs o emptyA 0 := by
  refine ⟨fun i hi => ⟨?_, ?_, ?_⟩, ?_⟩
  · rw [h _ (by omega)]
    exact rowZ_at 0 (by omega) i hi
  · rw [Nat.add_assoc, h _ (by omega)]
    exact rowZ_at 1 (by omega) i hi
  · rw [Nat.add_assoc, h _ (by omega)]
    exact rowZ_at 2 (by omega) i hi
  · rw [h _ (by omega)]
    exact rowZ_end
theorem rankZ_at (n : Int) : (rankZ n)[0]? = some (.int .i64 n) ∧ RowC (rankZ n) 1 emptyA 0 ∧ RowC (rankZ n) 197 emptyA 0 := by
  refine ⟨rfl, rowZ_c fun j hj => ?_, rowZ_c fun j hj => ?_⟩
  · unfold rankZ
    rw [Nat.add_comm 1 j, List.getElem?_cons_succ, List.getElem?_append_left (by rw [rowZ_len]; exact hj)]
  · unfold rankZ
    obtain ⟨k, hk⟩ : ∃ k, rowZ.length + j = k := ⟨_, rfl⟩
    have hk2 := hk
    rw [rowZ_len] at hk2
    rw [show 197 + j = k + 1 by omega, List.getElem?_cons_succ, ← hk, List.getElem?_append_right (by omega), Nat.add_sub_cancel_left]
theorem rank_new (n : Nat) (w : World) (h1 : 1 ≤ n) (h2 : n ≤ 64) : RkM (w.alloc (.cells (rankZ (n : Int)).toArray 85)) w.heap.size ⟨[], [], n⟩ := by
  obtain ⟨h3, h4, h5⟩ := rankZ_at (n : Int)
  exact ⟨⟨rankZ (n : Int), heap_alloc_new w _, h3, ⟨emptyA, h4, RW.empty⟩, ⟨emptyA, h5, RW.empty⟩⟩, ⟨List.nodup_nil, fun s hs => (by cases hs), h1, h2⟩⟩
theorem rank_build (n : Int) (w : World) : (Instr.build 85 #[(0, .int .i64 n)]).run Try.prog w = .ok (.agg (rankZ n).toArray) w := run_build w 85 _ (rankZ n).toArray (by kernel_rfl)
theorem at_build {ops : Array Oper} {Q : Exit → Act → World → Prop} {rest : List Oper} {a : Act} {w : World} {d : Option Tmp} {x : Operand} {ty : TypeId} {po : String} {af : Array Edge} (n : Int) (Z : Array Value) (hZ : (rankZ n).toArray = Z) (hx : a.eval x = .int .i64 n)
    (h : wpList Try.prog ops Q rest (a.put d (.agg Z)) w) : wpList Try.prog ops Q ({ dst := d, op := .build 85 #[(0, x)], type := ty, pos := po, after := af, guard := none } :: rest) a w := by
  subst hZ
  refine wpList_plain rfl fun K hK => ?_
  unfold Oper.wp
  simp [execOp, hx, rank_build, Result.andThen]
  exact hK _ _ h
theorem ret2 {a b a' b' : Value} (h1 : a = a') (h2 : b = b') : Ending.returned (.tuple #[a, b]) = .returned (.tuple #[a', b']) := by rw [h1, h2]
theorem lnew_at (n : Int) (w : World) : Calls Try.prog 21 #[.int .i64 n] w (NewIs n w) := by
  by_cases h0 : n < 1
  · have hd : decide (n < 1) = true := by simpa using h0
    have HE : Hid (NewIs n w (.returned (.tuple #[.pointer none, .iface 78 (.int .i64 1)])) w) := Lib.hid ⟨Below.refl _ _, by rw [if_neg (by omega)]⟩
    go_enter Try.func21, Try.ntmps21
    go_wp2_with fail
    go_ret2
    exact HE.out
  · have hd : decide (n < 1) = false := by simpa using h0
    by_cases h1 : 64 < n
    · have HE : Hid (NewIs n w (.returned (.tuple #[.pointer none, .iface 78 (.int .i64 1)])) w) := Lib.hid ⟨Below.refl _ _, by rw [if_neg (by omega)]⟩
      go_enter Try.func21, Try.ntmps21
      go_wp2_with fail
      go_ret2
      exact HE.out
    · obtain ⟨m, rfl⟩ := Int.eq_ofNat_of_zero_le (show 0 ≤ n by omega)
      obtain ⟨Z, hZ⟩ : ∃ Z, (rankZ (m : Int)).toArray = Z := ⟨_, rfl⟩
      have HZ := Lib.hid hZ
      have HE : Hid (NewIs (m : Int) w (.returned (.tuple #[.pointer (some ⟨w.heap.size, 0, none⟩), .nilIface])) (w.alloc (.cells Z 85))) := Lib.hid ⟨(Below.refl _ _).alloc (Nat.le_refl _) _, by
        rw [if_pos (by omega), ← hZ]
        exact ⟨rfl, by simpa using rank_new m w (by omega) (by omega)⟩⟩
      clear hZ
      go_enter Try.func21, Try.ntmps21
      go_wp2_with ((with_reducible refine at_build (m : Int) Z HZ.out ?_ ?_); (· rfl))
      go_ret2
      exact HE.out
end Go.Proofs.Ytmoagooabmmmgaa
