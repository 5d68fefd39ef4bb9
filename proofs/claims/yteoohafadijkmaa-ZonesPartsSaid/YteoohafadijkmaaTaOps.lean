/-
  The landed table's calls as one bundle of contracts; a table of the call's own, that keeps off other rows; do.
-/
import Derived.Test.YteoohafadijkmaaTaMath
import Derived.Test.YteoohafadijkmaaRowK
import Derived.Test.YteoohafadijkmaaSameI
namespace Go.Proofs.Yteoohafadijkmaa
open Go.RowKit

/-- What the landed table's calls answer. -/
def TMade (E : Value → Prop) (D : (Nat → Prop) → World → Nat → TaS → Prop) (n : Int) (w : World) (r : Ending) (w' : World) : Prop :=
  Below w.heap.size w w' ∧ if 1 ≤ n ∧ n ≤ 24 then ∃ tb, r = .returned (.tuple #[.pointer (some ⟨tb, 0, none⟩), .nilIface]) ∧ D (fun k => w.heap.size ≤ k ∧ k < w'.heap.size) w' tb (TaS.new n.toNat) else ∃ ev, E ev ∧ r = .returned (.tuple #[.pointer none, ev])
def TDone (D : (Nat → Prop) → World → Nat → TaS → Prop) (F : Nat → Prop) (tb : Nat) (v : Value) (T' : TaS) (w : World) (r : Ending) (w' : World) : Prop := r = .returned v ∧ D (grow F w w') w' tb T' ∧ Kept F w w'
def NumsO (l : List Int) (w : World) (r : Ending) (w' : World) : Prop := ∃ v, r = .returned v ∧ OwnK w' w.heap.size 3 1 v l.length (iCells l) ∧ Below w.heap.size w w'
def ValB (v : Value) (w : World) (r : Ending) (w' : World) : Prop := r = .returned v ∧ Below w.heap.size w w'
/-- The landed table, whatever its memory looks like, and its calls' contracts. -/
structure TOps (E : Value → Prop) where
  D : (Nat → Prop) → World → Nat → TaS → Prop
  keep : ∀ {F G : Nat → Prop} {w w' : World} {tb : Nat} {T : TaS}, D F w tb T → Kept G w w' → (∀ k, F k → ¬ G k) → D F w' tb T
  lt : ∀ {F : Nat → Prop} {w : World} {tb : Nat} {T : TaS}, D F w tb T → ∀ k, F k → k < w.heap.size
  wf : ∀ {F : Nat → Prop} {w : World} {tb : Nat} {T : TaS}, D F w tb T → T.WF
  new : ∀ {w : World} (n : Int), Calls Try.prog 6 #[.int .i64 n] w (TMade E D n w)
  state : ∀ {F : Nat → Prop} {w : World} {tb : Nat} {T : TaS} (z : Int), D F w tb T → Calls Try.prog 12 #[.pointer (some ⟨tb, 0, none⟩), .int .i64 z] w (ValB (.tuple #[.int .i64 (T.stA z), .bool (T.inB z)]) w)
  take : ∀ {F : Nat → Prop} {w : World} {tb : Nat} {T : TaS}, D F w tb T → Calls Try.prog 13 #[.pointer (some ⟨tb, 0, none⟩)] w (TDone D F tb (.tuple #[.int .i64 T.takeN, .bool T.takeB]) T.takeS w)
  close : ∀ {F : Nat → Prop} {w : World} {tb : Nat} {T : TaS} (z : Int), D F w tb T → T.done.length ≤ 100000 → Calls Try.prog 14 #[.pointer (some ⟨tb, 0, none⟩), .int .i64 z] w (TDone D F tb (.bool (T.closeB z)) (T.closeS z) w)
  give : ∀ {F : Nat → Prop} {w : World} {tb : Nat} {T : TaS} (z : Int), D F w tb T → T.done.length ≤ 100000 → Calls Try.prog 15 #[.pointer (some ⟨tb, 0, none⟩), .int .i64 z] w (TDone D F tb (.bool (T.giveB z)) (T.giveS z) w)
  free : ∀ {F : Nat → Prop} {w : World} {tb : Nat} {T : TaS}, D F w tb T → Calls Try.prog 7 #[.pointer (some ⟨tb, 0, none⟩)] w (NumsO T.row w)
  closed : ∀ {F : Nat → Prop} {w : World} {tb : Nat} {T : TaS}, D F w tb T → T.done.length ≤ 100000 → Calls Try.prog 9 #[.pointer (some ⟨tb, 0, none⟩)] w (NumsO T.closedL w)
  age : ∀ {F : Nat → Prop} {w : World} {tb : Nat} {T : TaS} (z : Int), D F w tb T → T.done.length ≤ 100000 → Calls Try.prog 11 #[.pointer (some ⟨tb, 0, none⟩), .int .i64 z] w (ValB (.int .u32 (T.ageN z : Int)) w)
/-- The error ErrArg, as a bare code. -/
def ErrOne (v : Value) : Prop := v = .iface 43 (.int .i64 1)
/-- What an act tells and does. -/
def TaS.doN (T : TaS) (d : Int) : Int := if d = 0 then T.takeN else -1
def TaS.doB (T : TaS) (d z : Int) : Bool := if d = 0 then T.takeB else if d = 1 then T.closeB z else if d = 2 then T.giveB z else false
def TaS.doS (T : TaS) (d z : Int) : TaS := if d = 0 then T.takeS else if d = 1 then T.closeS z else if d = 2 then T.giveS z else T
theorem TaS.do_done (T : TaS) (d z : Int) : (T.doS d z).done.length ≤ T.done.length + 1 := by
  unfold TaS.doS TaS.takeS TaS.closeS TaS.giveS
  split
  · split <;> simp
  · split
    · split <;> simp
    · split
      · split <;> simp
      · simp
theorem TaS.WF.doS {T : TaS} (h : T.WF) (d z : Int) : (T.doS d z).WF := by
  unfold TaS.doS
  split
  · exact h.take
  · split
    · exact h.close z
    · split
      · exact h.give z
      · exact h
section
variable {E : Value → Prop} (O : TOps E)
theorem TOps.up {F : Nat → Prop} {w w' : World} {tb : Nat} {T : TaS} (h : O.D F w tb T) (hb : Below w.heap.size w w') : O.D F w' tb T := O.keep h (G := fun _ => False) (Kept.of_below hb) (fun _ _ => id)
/-- A table of the call's own, none of whose blocks is in A. -/
def TaX (w0 w : World) (tb : Nat) (T : TaS) (A : Nat → Prop) : Prop := ∃ F, O.D F w tb T ∧ (∀ k, F k → w0.heap.size ≤ k ∧ ¬ A k) ∧ (∀ k, A k → k < w.heap.size) ∧ Below w0.heap.size w0 w
/-- What it may write. -/
def offA (w0 : World) (A : Nat → Prop) : Nat → Prop := fun k => w0.heap.size ≤ k ∧ ¬ A k
def TaXTo (w0 : World) (tb : Nat) (A : Nat → Prop) (v : Value) (T' : TaS) (w : World) (r : Ending) (w' : World) : Prop := r = .returned v ∧ TaX O w0 w' tb T' A ∧ Kept (offA w0 A) w w'
variable {O} {w0 w w' : World} {tb : Nat} {T T' : TaS} {A : Nat → Prop}
theorem TaX.wf (h : TaX O w0 w tb T A) : T.WF := by
  obtain ⟨F, hd, _⟩ := h
  exact O.wf hd
theorem TaX.old (h : TaX O w0 w tb T A) : Below w0.heap.size w0 w := by
  obtain ⟨F, _, _, _, hb⟩ := h
  exact hb
theorem TaX.lt (h : TaX O w0 w tb T A) : ∀ k, A k → k < w.heap.size := by
  obtain ⟨F, _, _, ha, _⟩ := h
  exact ha
theorem TaX.up (h : TaX O w0 w tb T A) (hb : Below w.heap.size w w') : TaX O w0 w' tb T A := by
  obtain ⟨F, hd, hf, ha, ho⟩ := h
  exact ⟨F, O.up hd hb, hf, fun k hk => Nat.lt_of_lt_of_le (ha k hk) hb.size, below_all ho hb⟩
/-- All that is made meanwhile is kept off. -/
theorem TaX.fresh (h : TaX O w0 w tb T A) (hb : Below w.heap.size w w') : TaX O w0 w' tb T (fun k => A k ∨ (w.heap.size ≤ k ∧ k < w'.heap.size)) := by
  obtain ⟨F, hd, hf, ha, ho⟩ := h
  exact ⟨F, O.up hd hb, fun k hk => ⟨(hf k hk).1, fun hx => hx.elim (hf k hk).2 (fun h2 => by have := O.lt hd k hk; omega)⟩, fun k hk => hk.elim (fun h => Nat.lt_of_lt_of_le (ha k h) hb.size) (fun h => h.2), below_all ho hb⟩
/-- A row that it keeps off is written. -/
theorem TaX.put {G : Nat → Prop} (h : TaX O w0 w tb T A) (hk : Kept G w w') (hg : ∀ k, G k → A k ∧ w0.heap.size ≤ k) : TaX O w0 w' tb T A := by
  obtain ⟨F, hd, hf, ha, ho⟩ := h
  exact ⟨F, O.keep hd hk (fun k h1 h2 => (hf k h1).2 (hg k h2).1), hf, fun k h => Nat.lt_of_lt_of_le (ha k h) hk.size, ho.trans (hk.below ho.size (fun k h => (hg k h).2))⟩
theorem TaX.less {A' : Nat → Prop} (h : TaX O w0 w tb T A) (ha : ∀ k, A' k → A k) : TaX O w0 w tb T A' := by
  obtain ⟨F, hd, hf, hl, ho⟩ := h
  exact ⟨F, hd, fun k hk => ⟨(hf k hk).1, fun h => (hf k hk).2 (ha k h)⟩, fun k hk => hl k (ha k hk), ho⟩
theorem taX_done {F : Nat → Prop} {v : Value} {r : Ending} (hf : ∀ k, F k → w0.heap.size ≤ k ∧ ¬ A k) (ha : ∀ k, A k → k < w.heap.size) (ho : Below w0.heap.size w0 w) (h : TDone O.D F tb v T' w r w') : TaXTo O w0 tb A v T' w r w' := by
  obtain ⟨h1, h2, h3⟩ := h
  refine ⟨h1, ⟨grow F w w', h2, fun k hk => hk.elim (hf k) (fun h => ⟨Nat.le_trans ho.size h.1, fun h4 => by have := ha k h4; omega⟩), fun k hk => Nat.lt_of_lt_of_le (ha k hk) h3.size, ho.trans (h3.below ho.size (fun k hk => (hf k hk).1))⟩, h3.mono (fun k _ hk => hf k hk)⟩
theorem xtake (h : TaX O w0 w tb T A) : Calls Try.prog 13 #[.pointer (some ⟨tb, 0, none⟩)] w (TaXTo O w0 tb A (.tuple #[.int .i64 T.takeN, .bool T.takeB]) T.takeS w) := by
  obtain ⟨F, hd, hf, ha, ho⟩ := h
  exact (O.take hd).mono fun r w' ht => taX_done hf ha ho ht
theorem xclose (z : Int) (h : TaX O w0 w tb T A) (hn : T.done.length ≤ 100000) : Calls Try.prog 14 #[.pointer (some ⟨tb, 0, none⟩), .int .i64 z] w (TaXTo O w0 tb A (.bool (T.closeB z)) (T.closeS z) w) := by
  obtain ⟨F, hd, hf, ha, ho⟩ := h
  exact (O.close z hd hn).mono fun r w' ht => taX_done hf ha ho ht
theorem xgive (z : Int) (h : TaX O w0 w tb T A) (hn : T.done.length ≤ 100000) : Calls Try.prog 15 #[.pointer (some ⟨tb, 0, none⟩), .int .i64 z] w (TaXTo O w0 tb A (.bool (T.giveB z)) (T.giveS z) w) := by
  obtain ⟨F, hd, hf, ha, ho⟩ := h
  exact (O.give z hd hn).mono fun r w' ht => taX_done hf ha ho ht
theorem xstate (z : Int) (h : TaX O w0 w tb T A) : Calls Try.prog 12 #[.pointer (some ⟨tb, 0, none⟩), .int .i64 z] w (ValB (.tuple #[.int .i64 (T.stA z), .bool (T.inB z)]) w) := by
  obtain ⟨F, hd, _⟩ := h
  exact O.state z hd
theorem xage (z : Int) (h : TaX O w0 w tb T A) (hn : T.done.length ≤ 100000) : Calls Try.prog 11 #[.pointer (some ⟨tb, 0, none⟩), .int .i64 z] w (ValB (.int .u32 (T.ageN z : Int)) w) := by
  obtain ⟨F, hd, _⟩ := h
  exact O.age z hd hn
theorem xfree (h : TaX O w0 w tb T A) : Calls Try.prog 7 #[.pointer (some ⟨tb, 0, none⟩)] w (NumsO T.row w) := by
  obtain ⟨F, hd, _⟩ := h
  exact O.free hd
theorem xclosed (h : TaX O w0 w tb T A) (hn : T.done.length ≤ 100000) : Calls Try.prog 9 #[.pointer (some ⟨tb, 0, none⟩)] w (NumsO T.closedL w) := by
  obtain ⟨F, hd, _⟩ := h
  exact O.closed hd hn
set_option maxHeartbeats 1000000 in
theorem xdo (d z : Int) (h : TaX O w0 w tb T A) (hn : T.done.length ≤ 100000) : Calls Try.prog 8 #[.pointer (some ⟨tb, 0, none⟩), .agg #[.int .i64 d, .int .i64 z]] w (TaXTo O w0 tb A (.tuple #[.int .i64 (T.doN d), .bool (T.doB d z)]) (T.doS d z) w) := by
  have hb1 : Below w.heap.size w (w.alloc (.cells #[.int .i64 d, .int .i64 z] 32)) := (Below.refl _ _).alloc (Nat.le_refl _) _
  have HX := Lib.hid (h.up hb1)
  have HK : Hid (Kept (offA w0 A) w (w.alloc (.cells #[.int .i64 d, .int .i64 z] 32))) := Lib.hid (Kept.of_below hb1)
  have hbk : Blk (w.alloc (.cells #[.int .i64 d, .int .i64 z] 32)) w.heap.size 32 [.int .i64 d, .int .i64 z] := heap_alloc_new _ _
  have y0 := hbk.cell 0 (by simp)
  have y1 := hbk.cell 1 (by simp)
  simp only [List.getElem_cons_zero, List.getElem_cons_succ] at y0 y1
  obtain ⟨w1, hw1⟩ : ∃ u, w.alloc (.cells #[.int .i64 d, .int .i64 z] 32) = u := ⟨_, rfl⟩
  rw [hw1] at HX HK y0 y1
  clear h hb1 hbk
  by_cases h0 : d = 0
  · have HE : Hid (∀ r u, TaXTo O w0 tb A (.tuple #[.int .i64 T.takeN, .bool T.takeB]) T.takeS w1 r u → TaXTo O w0 tb A (.tuple #[.int .i64 (T.doN d), .bool (T.doB d z)]) (T.doS d z) w (.returned (.tuple #[.int .i64 T.takeN, .bool T.takeB])) u) := Lib.hid (fun r u ht => by
      unfold TaS.doN TaS.doB TaS.doS
      rw [if_pos h0, if_pos h0, if_pos h0]
      exact ⟨rfl, ht.2.1, HK.out.and ht.2.2⟩)
    have q0 : (d == 0) = true := by simpa using h0
    have HT := Lib.hid (xtake HX.out)
    clear h0
    go_enter Try.func8, Try.ntmps8
    go_wp2_with fail
    refine HT.out.mono ?_
    rintro r w2 h
    have HE2 := Lib.hid (HE.out _ _ h)
    obtain ⟨rfl, _, _⟩ := h
    clear HE
    obtain ⟨tn, htn⟩ : ∃ x, T.takeN = x := ⟨_, rfl⟩
    obtain ⟨tk, htk⟩ : ∃ x, T.takeB = x := ⟨_, rfl⟩
    rw [htn, htk] at HE2 ⊢
    clear htn htk
    go_wp2_with fail
    go_ret2
    exact HE2.out
  have q0 : (d == 0) = false := by simpa using h0
  by_cases h1 : d = 1
  · have HE : Hid (∀ r u, TaXTo O w0 tb A (.bool (T.closeB z)) (T.closeS z) w1 r u → TaXTo O w0 tb A (.tuple #[.int .i64 (T.doN d), .bool (T.doB d z)]) (T.doS d z) w (.returned (.tuple #[.int .i64 (-1), .bool (T.closeB z)])) u) := Lib.hid (fun r u ht => by
      unfold TaS.doN TaS.doB TaS.doS
      rw [if_neg h0, if_neg h0, if_neg h0, if_pos h1, if_pos h1]
      exact ⟨rfl, ht.2.1, HK.out.and ht.2.2⟩)
    have q1 : (d == 1) = true := by simpa using h1
    have HT := Lib.hid (xclose z HX.out hn)
    clear h0 h1
    go_enter Try.func8, Try.ntmps8
    go_wp2_with fail
    refine HT.out.mono ?_
    rintro r w2 h
    have HE2 := Lib.hid (HE.out _ _ h)
    obtain ⟨rfl, _, _⟩ := h
    clear HE
    obtain ⟨tk, htk⟩ : ∃ x, T.closeB z = x := ⟨_, rfl⟩
    rw [htk] at HE2 ⊢
    clear htk
    go_wp2_with fail
    go_ret2
    exact HE2.out
  have q1 : (d == 1) = false := by simpa using h1
  by_cases h2 : d = 2
  · have HE : Hid (∀ r u, TaXTo O w0 tb A (.bool (T.giveB z)) (T.giveS z) w1 r u → TaXTo O w0 tb A (.tuple #[.int .i64 (T.doN d), .bool (T.doB d z)]) (T.doS d z) w (.returned (.tuple #[.int .i64 (-1), .bool (T.giveB z)])) u) := Lib.hid (fun r u ht => by
      unfold TaS.doN TaS.doB TaS.doS
      rw [if_neg h0, if_neg h0, if_neg h0, if_neg h1, if_neg h1, if_pos h2, if_pos h2]
      exact ⟨rfl, ht.2.1, HK.out.and ht.2.2⟩)
    have q2 : (d == 2) = true := by simpa using h2
    have HT := Lib.hid (xgive z HX.out hn)
    clear h0 h1 h2
    go_enter Try.func8, Try.ntmps8
    go_wp2_with fail
    refine HT.out.mono ?_
    rintro r w2 h
    have HE2 := Lib.hid (HE.out _ _ h)
    obtain ⟨rfl, _, _⟩ := h
    clear HE
    obtain ⟨tk, htk⟩ : ∃ x, T.giveB z = x := ⟨_, rfl⟩
    rw [htk] at HE2 ⊢
    clear htk
    go_wp2_with fail
    go_ret2
    exact HE2.out
  have q2 : (d == 2) = false := by simpa using h2
  have HE : Hid (TaXTo O w0 tb A (.tuple #[.int .i64 (T.doN d), .bool (T.doB d z)]) (T.doS d z) w (.returned (.tuple #[.int .i64 (-1), .bool false])) w1) := Lib.hid (by
    unfold TaS.doN TaS.doB TaS.doS
    rw [if_neg h0, if_neg h0, if_neg h0, if_neg h1, if_neg h1, if_neg h2, if_neg h2]
    exact ⟨rfl, HX.out, HK.out⟩)
  clear h0 h1 h2
  go_enter Try.func8, Try.ntmps8
  go_wp2_with fail
  go_ret2
  exact HE.out
theorem tr_own {l : List Int} {w : World} {r : Ending} {w' : World} (h : NumsO l w r w') : ∃ A c, r = .returned (.slice A l.length c) ∧ RdV w' w'.heap.size A (iCells l) ∧ (A = none → c = 0) ∧ OwnK w' w.heap.size 3 1 (.slice A l.length c) l.length (iCells l) ∧ Below w.heap.size w w' := by
  obtain ⟨v, rfl, ho, hb⟩ := h
  obtain ⟨A, c, rfl, _, _, hz⟩ := ho.form
  exact ⟨A, c, rfl, ho.rd, hz, ho, hb⟩
end
end Go.Proofs.Yteoohafadijkmaa
