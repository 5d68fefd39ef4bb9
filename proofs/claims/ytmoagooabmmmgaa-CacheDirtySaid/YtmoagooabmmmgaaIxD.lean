/-
  An index in memory: New, Len, Get, Put, Drop.
-/
import Derived.Test.YtmoagooabmmmgaaIxB
import Derived.Laws.Tables
namespace Go.Proofs.Ytmoagooabmmmgaa
open Go.RowKit

/-- An index: pairs by rising keys; how many may be. -/
structure IxS where
  L : PL
  room : Nat
namespace IxS
structure WF (S : IxS) : Prop where
  asc : Asc S.L
  le : S.L.length ≤ S.room
  r1 : 1 ≤ S.room
  r64 : S.room ≤ 64
def has (S : IxS) (k : Nat) : Bool := (getL S.L k).isSome
def getN (S : IxS) (k : Nat) : Int := (getL S.L k).getD 0
def putB (S : IxS) (k : Nat) : Bool := S.has k || decide (S.L.length < S.room)
def putS (S : IxS) (k : Nat) (s : Int) : IxS := if S.putB k = true then { S with L := putL S.L k s } else S
def dropS (S : IxS) (k : Nat) : IxS := { S with L := dropL S.L k }
theorem has_mem {S : IxS} {k : Nat} (h : S.has k = true) : ∃ e ∈ S.L, e.1 = k := by
  unfold has at h
  obtain ⟨s, hs⟩ := Option.isSome_iff_exists.1 h
  exact ⟨_, getL_mem hs, rfl⟩
theorem has_no {S : IxS} {k : Nat} (h : S.has k = false) : ∀ e ∈ S.L, e.1 ≠ k := by
  unfold has at h
  exact getL_no (by simpa using h)
theorem putS_wf {S : IxS} (h : S.WF) (k : Nat) (s : Int) : (S.putS k s).WF := by
  unfold putS
  cases hb : S.putB k with
  | false => simpa using h
  | true =>
    rw [if_pos rfl]
    refine ⟨putL_asc h.asc k s, ?_, h.r1, h.r64⟩
    show (putL S.L k s).length ≤ S.room
    cases hh : S.has k with
    | true =>
      rw [putL_old h.asc (has_mem hh)]
      exact h.le
    | false =>
      rw [putL_new (has_no hh)]
      unfold putB at hb
      rw [hh] at hb
      have : S.L.length < S.room := by simpa using hb
      omega
theorem dropS_wf {S : IxS} (h : S.WF) (k : Nat) : (S.dropS k).WF := by
  refine ⟨dropL_asc h.asc k, ?_, h.r1, h.r64⟩
  have := h.le
  have h2 : (dropL S.L k).length ≤ S.L.length := List.length_filter_le _ _
  show (dropL S.L k).length ≤ S.room
  omega
end IxS

/-- Block kb is the index S. -/
def IxM (w : World) (kb : Nat) (S : IxS) : Prop := (∃ cs T, IxC w kb cs T S.L.length S.room ∧ TL T S.L) ∧ S.WF
theorem IxM.lt {w : World} {kb : Nat} {S : IxS} (h : IxM w kb S) : kb < w.heap.size := by
  obtain ⟨⟨cs, T, hC, _⟩, _⟩ := h
  exact lt_of_block hC.b
theorem IxM.keep {F : Nat → Prop} {w w' : World} {kb : Nat} {S : IxS} (h : IxM w kb S) (hk : Kept F w w') (hn : ¬ F kb) : IxM w' kb S := by
  obtain ⟨⟨cs, T, hC, hT⟩, h2⟩ := h
  exact ⟨⟨cs, T, hC.keep hk hn, hT⟩, h2⟩
theorem IxM.up {w w' : World} {kb : Nat} {S : IxS} (h : IxM w kb S) (hb : Below w.heap.size w w') : IxM w' kb S := h.keep (F := fun _ => False) (Kept.of_below hb) id
/-- What a call on an index does. -/
def IxTo (kb : Nat) (b : Bool) (S' : IxS) (w : World) (r : Ending) (w' : World) : Prop := r = .returned (.bool b) ∧ IxM w' kb S' ∧ Kept (fun k => k = kb) w w'

/-- An empty index's cells. -/
def placeZ : List Value := [.int .u32 0, .int .i64 0, .bool false]
def ixZ (n : Int) : List Value := .int .i64 n :: .int .i64 0 :: (List.replicate 128 placeZ).flatten
theorem pl_at (k : Nat) (hk : k < 3) : ∀ (m i : Nat), i < m → ((List.replicate m placeZ).flatten)[i * 3 + k]? = placeZ[k]?
  | 0, _, h => by omega
  | m + 1, 0, _ => by
    rw [List.replicate_succ, List.flatten_cons, List.getElem?_append_left (by simp [placeZ]; omega)]
    simp
  | m + 1, i + 1, h => by
    rw [List.replicate_succ, List.flatten_cons, List.getElem?_append_right (by simp [placeZ]; omega)]
    rw [show (i + 1) * 3 + k - placeZ.length = i * 3 + k by simp [placeZ]; omega]
    exact pl_at k hk m i (by omega)
theorem pl_len : ∀ m : Nat, ((List.replicate m placeZ).flatten).length = m * 3
  | 0 => rfl
  | m + 1 => by
    rw [List.replicate_succ, List.flatten_cons, List.length_append, pl_len m]
    simp [placeZ]
    omega
theorem ixZ_p (n : Int) : PlC (ixZ n) emptyT := by
  intro i hi
  have h (k : Nat) (hk : k < 3) : (ixZ n)[2 + i * 3 + k]? = placeZ[k]? := by
    unfold ixZ
    rw [show 2 + i * 3 + k = (i * 3 + k + 1) + 1 by omega, List.getElem?_cons_succ, List.getElem?_cons_succ]
    exact pl_at k hk 128 i hi
  exact ⟨h 0 (by omega), h 1 (by omega), h 2 (by omega)⟩
theorem ix_new (n : Nat) (w : World) (h1 : 1 ≤ n) (h2 : n ≤ 64) : IxM (w.alloc (.cells (ixZ (n : Int)).toArray 90)) w.heap.size ⟨[], n⟩ :=
  ⟨⟨ixZ (n : Int), emptyT, ⟨heap_alloc_new w _, by unfold ixZ; rw [List.length_cons, List.length_cons, pl_len], rfl, rfl, ixZ_p _⟩, TL.empty⟩, ⟨List.Pairwise.nil, by simp, h1, h2⟩⟩
theorem ix_build (n : Int) (w : World) : (Instr.build 90 #[(0, .int .i64 n)]).run Try.prog w = .ok (.agg (ixZ n).toArray) w := run_build w 90 _ (ixZ n).toArray (by kernel_rfl)
theorem at_build_ix {ops : Array Oper} {Q : Exit → Act → World → Prop} {rest : List Oper} {a : Act} {w : World} {d : Option Tmp} {x : Operand} {ty : TypeId} {po : String} {af : Array Edge} (n : Int) (Z : Array Value) (hZ : (ixZ n).toArray = Z) (hx : a.eval x = .int .i64 n)
    (h : wpList Try.prog ops Q rest (a.put d (.agg Z)) w) : wpList Try.prog ops Q ({ dst := d, op := .build 90 #[(0, x)], type := ty, pos := po, after := af, guard := none } :: rest) a w := by
  subst hZ
  refine wpList_plain rfl fun K hK => ?_
  unfold Oper.wp
  simp [execOp, hx, ix_build, Result.andThen]
  exact hK _ _ h
/-- What New answers. -/
def IxNew (n : Int) (w : World) (r : Ending) (w' : World) : Prop :=
  Below w.heap.size w w' ∧ if 1 ≤ n ∧ n ≤ 64 then r = .returned (.tuple #[.pointer (some ⟨w.heap.size, 0, none⟩), .nilIface]) ∧ IxM w' w.heap.size ⟨[], n.toNat⟩ else r = .returned (.tuple #[.pointer none, .iface 78 (.int .i64 1)])
theorem xnew_at (n : Int) (w : World) : Calls Try.prog 22 #[.int .i64 n] w (IxNew n w) := by
  by_cases h0 : n < 1
  · have hd : decide (n < 1) = true := by simpa using h0
    have HE : Hid (IxNew n w (.returned (.tuple #[.pointer none, .iface 78 (.int .i64 1)])) w) := Lib.hid ⟨Below.refl _ _, by rw [if_neg (by omega)]⟩
    go_enter Try.func22, Try.ntmps22
    go_wp2_with fail
    go_ret2
    exact HE.out
  · have hd : decide (n < 1) = false := by simpa using h0
    by_cases h1 : 64 < n
    · have HE : Hid (IxNew n w (.returned (.tuple #[.pointer none, .iface 78 (.int .i64 1)])) w) := Lib.hid ⟨Below.refl _ _, by rw [if_neg (by omega)]⟩
      go_enter Try.func22, Try.ntmps22
      go_wp2_with fail
      go_ret2
      exact HE.out
    · obtain ⟨m, rfl⟩ := Int.eq_ofNat_of_zero_le (show 0 ≤ n by omega)
      obtain ⟨Z, hZ⟩ : ∃ Z, (ixZ (m : Int)).toArray = Z := ⟨_, rfl⟩
      have HZ := Lib.hid hZ
      have HE : Hid (IxNew (m : Int) w (.returned (.tuple #[.pointer (some ⟨w.heap.size, 0, none⟩), .nilIface])) (w.alloc (.cells Z 90))) := Lib.hid ⟨(Below.refl _ _).alloc (Nat.le_refl _) _, by
        rw [if_pos (by omega), ← hZ]
        exact ⟨rfl, by simpa using ix_new m w (by omega) (by omega)⟩⟩
      clear hZ
      go_enter Try.func22, Try.ntmps22
      go_wp2_with ((with_reducible refine at_build_ix (m : Int) Z HZ.out ?_ ?_); (· rfl))
      go_ret2
      exact HE.out

section
variable {w : World} {kb : Nat} {S : IxS}
theorem xlen_at (h : IxM w kb S) : Calls Try.prog 33 #[.pointer (some ⟨kb, 0, none⟩)] w (IntIs (S.L.length : Int) w) := by
  obtain ⟨⟨cs, T, hC, _⟩, _⟩ := h
  have c := hC.b.at hC.m
  clear hC
  generalize S.L.length = n at *
  go_enter Try.func33, Try.ntmps33
  go_wp2_with fail
  go_ret
  exact ⟨rfl, rfl⟩
/-- What is found tells what is got. -/
theorem found_has {T : TabS} {k p : Nat} (hT : TL T S.L) (hp : p < 128) (h : T.t p = true) (hk : T.k p = k) (hw : S.WF) : S.has k = true ∧ S.getN k = T.s p := by
  have hm := hT.mem p hp h
  rw [hk] at hm
  have := getL_some hw.asc hm
  unfold IxS.has IxS.getN
  rw [this]
  exact ⟨rfl, rfl⟩
theorem found_not {T : TabS} {k j p : Nat} (hT : TL T S.L) (hj : j < 128) (hp : p = (k % 128 + j) % 128) (hw : Way T k j) (h : T.t p = false) : S.has k = false ∧ S.getN k = 0 ∧ T.s p = 0 := by
  subst hp
  have := getL_none (hw.none hT hj h)
  unfold IxS.has IxS.getN
  rw [this]
  exact ⟨rfl, rfl, hT.z _ (by omega) h⟩
def GetTo (S : IxS) (k : Nat) (w : World) (r : Ending) (w' : World) : Prop := r = .returned (.tuple #[.int .i64 (S.getN k), .bool (S.has k)]) ∧ Below w.heap.size w w'
theorem xget_at (k : Nat) (h : IxM w kb S) : Calls Try.prog 37 #[.pointer (some ⟨kb, 0, none⟩), .int .u32 (k : Int)] w (GetTo S k w) := by
  obtain ⟨⟨cs, T, hC, hT⟩, hw⟩ := h
  obtain ⟨f, hf, hff⟩ := hT.free (Nat.le_trans hw.le hw.r64)
  have HF := Lib.hid (xfind_at k f hC hf hff)
  have HT := Lib.hid hT
  have HW := Lib.hid hw
  have HC := Lib.hid hC
  clear hC hT hw hf hff
  go_enter Try.func37, Try.ntmps37
  go_wp2_with fail
  refine HF.out.mono ?_
  rintro r w1 ⟨j, p, hj, hp, hway, hpk, rfl, hb⟩
  have hpl : p < 128 := by omega
  obtain ⟨c0, c1, c2⟩ := (HC.out.up hb).at hpl
  have HE : Hid (∀ w', Below w1.heap.size w1 w' → GetTo S k w (.returned (.tuple #[.int .i64 (T.s p), .bool (T.t p)])) w') := Lib.hid (fun w' hb2 => by
    refine ⟨?_, below_all hb hb2⟩
    cases ht : T.t p with
    | true => rw [(found_has HT.out hpl ht (hpk ht) HW.out).1, (found_has HT.out hpl ht (hpk ht) HW.out).2]
    | false =>
      obtain ⟨a, b, c⟩ := found_not HT.out hj hp hway ht
      rw [a, b, c])
  clear hp hway hpk hb c0 c2
  generalize T.t p = tp at *
  generalize T.s p = sp at *
  go_wp2_with fail
  go_ret2
  exact HE.out _ (Below.refl _ _)
end
end Go.Proofs.Ytmoagooabmmmgaa
