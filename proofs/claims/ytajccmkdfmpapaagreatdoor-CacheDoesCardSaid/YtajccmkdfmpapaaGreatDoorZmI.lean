/-
  A row of a ranking in memory: links in an array; has, last, lead, leave.
  A ranking in memory: Insert, Remove, demote, Touch, Victim.
  A ranking in memory: New.
-/
import Derived.Test.YtajccmkdfmpapaaGreatDoorZmC
import Derived.Test.YtajccmkdfmpapaaGreatDoorLruMath
import Derived.Laws.Tables
namespace Go.Proofs.YtajccmkdfmpapaaGreatDoor
open Go.RowKit

/-- The cells behind o are the links A, and how many stand. -/
def RowC (cs : List Value) (o : Nat) (A : RowS) (n : Nat) : Prop :=
  (∀ i, i ≤ 64 → cs[o + i * 3]? = some (.int .i64 (A.ah i : Int)) ∧ cs[o + i * 3 + 1]? = some (.int .i64 (A.be i : Int)) ∧ cs[o + i * 3 + 2]? = some (.bool (A.st i))) ∧ cs[o + 195]? = some (.int .i64 (n : Int))
theorem RowC.same {cs cs' : List Value} {o : Nat} {A : RowS} {n : Nat} (h : RowC cs o A n) (he : ∀ j, o ≤ j → j < o + 196 → cs'[j]? = cs[j]?) : RowC cs' o A n :=
  ⟨fun i hi => by
    obtain ⟨a, b, c⟩ := h.1 i hi
    exact ⟨(he _ (by omega) (by omega)).trans a, (he _ (by omega) (by omega)).trans b, (he _ (by omega) (by omega)).trans c⟩, (he _ (by omega) (by omega)).trans h.2⟩
section
variable {cs : List Value} {o n : Nat} {A : RowS}
theorem RowC.setAh (h : RowC cs o A n) (i : Nat) (hi : i ≤ 64) (x : Nat) : RowC (cs.set (o + i * 3) (.int .i64 (x : Int))) o { A with ah := upd A.ah i x } n := by
  refine ⟨fun j hj => ?_, by rw [set_off (by omega)]; exact h.2⟩
  obtain ⟨a, b, c⟩ := h.1 j hj
  rw [set_off (j := o + j * 3 + 1) (by omega), set_off (j := o + j * 3 + 2) (by omega)]
  refine ⟨?_, b, c⟩
  by_cases e : j = i
  · subst e
    rw [set_at a]
    simp [upd_same]
  · rw [set_off (by omega), a]
    simp [upd_ne e]
theorem RowC.setBe (h : RowC cs o A n) (i : Nat) (hi : i ≤ 64) (x : Nat) : RowC (cs.set (o + i * 3 + 1) (.int .i64 (x : Int))) o { A with be := upd A.be i x } n := by
  refine ⟨fun j hj => ?_, by rw [set_off (by omega)]; exact h.2⟩
  obtain ⟨a, b, c⟩ := h.1 j hj
  rw [set_off (j := o + j * 3) (by omega), set_off (j := o + j * 3 + 2) (by omega)]
  refine ⟨a, ?_, c⟩
  by_cases e : j = i
  · subst e
    rw [set_at b]
    simp [upd_same]
  · rw [set_off (by omega), b]
    simp [upd_ne e]
theorem RowC.setSt (h : RowC cs o A n) (i : Nat) (hi : i ≤ 64) (x : Bool) : RowC (cs.set (o + i * 3 + 2) (.bool x)) o { A with st := upd A.st i x } n := by
  refine ⟨fun j hj => ?_, by rw [set_off (by omega)]; exact h.2⟩
  obtain ⟨a, b, c⟩ := h.1 j hj
  rw [set_off (j := o + j * 3) (by omega), set_off (j := o + j * 3 + 1) (by omega)]
  refine ⟨a, b, ?_⟩
  by_cases e : j = i
  · subst e
    rw [set_at c]
    simp [upd_same]
  · rw [set_off (by omega), c]
    simp [upd_ne e]
theorem RowC.setN (h : RowC cs o A n) (x : Nat) : RowC (cs.set (o + 195) (.int .i64 (x : Int))) o A x := by
  refine ⟨fun j hj => ?_, set_at h.2⟩
  rw [set_off (j := o + j * 3) (by omega), set_off (j := o + j * 3 + 1) (by omega), set_off (j := o + j * 3 + 2) (by omega)]
  exact h.1 j hj
/-- What a row's call leaves alone. -/
def Out (o : Nat) (cs cs' : List Value) : Prop := ∀ j, j < o ∨ o + 196 ≤ j → cs'[j]? = cs[j]?
theorem Out.refl (o : Nat) (cs : List Value) : Out o cs cs := fun _ _ => rfl
theorem Out.set {cs' : List Value} (h : Out o cs cs') {k : Nat} (v : Value) (h1 : o ≤ k) (h2 : k < o + 196) : Out o cs (cs'.set k v) := fun j hj => by
  rw [set_off (by omega)]
  exact h j hj
theorem Out.trans {a b c : List Value} (h : Out o a b) (k : Out o b c) : Out o a c := fun j hj => (k j hj).trans (h j hj)
end
/-- The cells behind o are the row l. -/
def RowM (cs : List Value) (o : Nat) (l : List Nat) : Prop := ∃ A, RowC cs o A l.length ∧ RW A l
theorem RowM.same {cs cs' : List Value} {o : Nat} {l : List Nat} (h : RowM cs o l) (he : ∀ j, o ≤ j → j < o + 196 → cs'[j]? = cs[j]?) : RowM cs' o l := by
  obtain ⟨A, h1, h2⟩ := h
  exact ⟨A, h1.same he, h2⟩

section
variable {w : World} {kb o : Nat} {cs : List Value} {l : List Nat}
set_option maxHeartbeats 1000000 in
theorem lhas_at (x : Int) (hB : Blk w kb 100 cs) (hM : RowM cs o l) : Calls Tryz.prog 77 #[.pointer (some ⟨kb, o, none⟩), .int .i64 x] w (BoolIs (hasL l x) w) := by
  obtain ⟨A, hC, hW⟩ := hM
  by_cases h0 : 0 ≤ x
  · by_cases h1 : x < 64
    · obtain ⟨s, rfl⟩ := Int.eq_ofNat_of_zero_le h0
      have hst := hW.has h0 h1
      obtain ⟨t, ht⟩ : ∃ t, s + 1 = t := ⟨_, rfl⟩
      have e1 : (s : Int) + 1 = (t : Int) := by omega
      have hc := hB.at (hC.1 t (by omega)).2.2
      have e2 : A.st t = hasL l (s : Int) := by rw [← hst, ← ht]; simp
      rw [e2] at hc
      have HT := Lib.hid ht
      have htl : t < 65 := by omega
      clear hB hC hW hst e2 ht
      go_enter Tryz.func77, Tryz.ntmps77
      go_wp2_with fail
      go_ret
      exact ⟨rfl, rfl⟩
    · have hf := hW.has_far (x := x) (by omega)
      rw [hf]
      clear hB hC hW hf
      go_enter Tryz.func77, Tryz.ntmps77
      go_wp2_with fail
      go_ret
      exact ⟨rfl, rfl⟩
  · have hf := hW.has_far (x := x) (by omega)
    rw [hf]
    clear hB hC hW hf
    go_enter Tryz.func77, Tryz.ntmps77
    go_wp2_with fail
    go_ret
    exact ⟨rfl, rfl⟩
/-- The last slot of a row. -/
def LastIs (l : List Nat) (w : World) (r : Ending) (w' : World) : Prop := r = .returned (.tuple #[.int .i64 ((l.getLast?.getD 0 : Nat) : Int), .bool l.getLast?.isSome]) ∧ w = w'
theorem llast_at (hB : Blk w kb 100 cs) (hM : RowM cs o l) : Calls Tryz.prog 63 #[.pointer (some ⟨kb, o, none⟩)] w (LastIs l w) := by
  obtain ⟨A, hC, hW⟩ := hM
  cases e : l.getLast? with
  | none =>
    have h0 := hB.at hC.2
    rw [List.getLast?_eq_none_iff] at e
    subst e
    clear hB hC hW
    go_enter Tryz.func63, Tryz.ntmps63
    go_wp2_with fail
    go_ret2
    exact ⟨rfl, rfl⟩
  | some s =>
    have h0 := hB.at hC.2
    have h1 := hB.at (hC.1 0 (by omega)).1
    rw [hW.last e, Nat.zero_mul, Nat.add_zero] at h1
    have hp : 0 < l.length := List.length_pos_iff.2 (by rintro rfl; simp at e)
    generalize l.length = n at h0 hp
    have hne : ((n : Int) == 0) = false := by simp; omega
    have HE : Hid (LastIs l w (.returned (.tuple #[.int .i64 (s : Int), .bool true])) w) := Lib.hid ⟨by rw [e]; rfl, rfl⟩
    have hs : s < 64 := hW.lt s (List.mem_of_getLast? e)
    clear hB hC hW e
    go_enter Tryz.func63, Tryz.ntmps63
    go_wp2_with fail
    go_ret2
    exact HE.out
/-- A row's call: the row l' instead; all else of the block lies as it lay. -/
def RowTo (kb o : Nat) (cs : List Value) (l' : List Nat) (w w' : World) : Prop := ∃ cs', Blk w' kb 100 cs' ∧ RowM cs' o l' ∧ Out o cs cs' ∧ Kept (fun k => k = kb) w w'
set_option maxHeartbeats 1000000 in
theorem llead_at (s : Nat) (hB : Blk w kb 100 cs) (hM : RowM cs o l) (hs : s < 64) (hn : s ∉ l) : Calls Tryz.prog 66 #[.pointer (some ⟨kb, o, none⟩), .int .i64 (s : Int)] w (fun r w' => r = .returned (.tuple #[]) ∧ RowTo kb o cs (s :: l) w w') := by
  obtain ⟨A, hC, hW⟩ := hM
  have hW' := hW.lead s hs hn
  have hlen := hW'.len
  rw [List.length_cons] at hlen
  obtain ⟨n, hln⟩ : ∃ n, l.length = n := ⟨_, rfl⟩
  rw [hln] at hlen hC
  obtain ⟨t, ht⟩ : ∃ t, s + 1 = t := ⟨_, rfl⟩
  have e1 : (s : Int) + 1 = (t : Int) := by omega
  have hb : A.be 0 ≤ 64 := by rw [hW.be0.1]; exact nx_le hW.lt _
  obtain ⟨b, eb⟩ : ∃ b, A.be 0 = b := ⟨_, rfl⟩
  rw [eb] at hb
  have htl : t ≤ 64 := by omega
  have c0 := hB.at (hC.1 0 (by omega)).2.1
  rw [eb, Nat.zero_mul, Nat.add_zero] at c0
  -- the three cells of the slot's own link
  have B1 := ((hB.put (o + t * 3) (.int .i64 ((0 : Nat) : Int))).put (o + t * 3 + 1) (.int .i64 (b : Int))).put (o + t * 3 + 2) (.bool true)
  have C1 := ((hC.setAh t htl 0).setBe t htl b).setSt t htl true
  have O1 := (((Out.refl o cs).set (k := o + t * 3) (.int .i64 ((0 : Nat) : Int)) (by omega) (by omega)).set (k := o + t * 3 + 1) (.int .i64 (b : Int)) (by omega) (by omega)).set (k := o + t * 3 + 2) (.bool true) (by omega) (by omega)
  have K1 := (((Kept.refl (fun k => k = kb) w).put (.inl rfl) (o + t * 3) (.int .i64 ((0 : Nat) : Int))).put (.inl rfl) (o + t * 3 + 1) (.int .i64 (b : Int))).put (.inl rfl) (o + t * 3 + 2) (.bool true)
  have d0 := hB.at (hC.1 t htl).1
  have d1 := hB.at (hC.1 t htl).2.1
  have d2 := hB.at (hC.1 t htl).2.2
  have f0 := hB.free (o + t * 3)
  have f1 := hB.free (o + t * 3 + 1)
  have f2 := hB.free (o + t * 3 + 2)
  obtain ⟨w1, hw1⟩ : ∃ w1, ((w.setCell ⟨kb, o + t * 3, none⟩ (.int .i64 0)).setCell ⟨kb, o + t * 3 + 1, none⟩ (.int .i64 (b : Int))).setCell ⟨kb, o + t * 3 + 2, none⟩ (.bool true) = w1 := ⟨_, rfl⟩
  have hw1' : ((w.setCell ⟨kb, o + t * 3, none⟩ (.int .i64 ((0 : Nat) : Int))).setCell ⟨kb, o + t * 3 + 1, none⟩ (.int .i64 (b : Int))).setCell ⟨kb, o + t * 3 + 2, none⟩ (.bool true) = w1 := hw1
  rw [hw1'] at B1 K1
  clear hw1'
  have g0 := B1.at (C1.1 b hb).1
  have i0 := B1.free (o + b * 3)
  have B2 := B1.put (o + b * 3) (.int .i64 (t : Int))
  have C2 := C1.setAh b hb t
  have O2 := O1.set (k := o + b * 3) (.int .i64 (t : Int)) (by omega) (by omega)
  have K2 := K1.put (.inl rfl) (o + b * 3) (.int .i64 (t : Int))
  obtain ⟨w2, hw2⟩ : ∃ w2, w1.setCell ⟨kb, o + b * 3, none⟩ (.int .i64 (t : Int)) = w2 := ⟨_, rfl⟩
  rw [hw2] at B2 K2
  have g1 := B2.at (C2.1 0 (by omega)).2.1
  have i1 := B2.free (o + 1)
  have B3 := B2.put (o + 0 * 3 + 1) (.int .i64 (t : Int))
  have C3 := C2.setBe 0 (by omega) t
  have O3 := O2.set (k := o + 0 * 3 + 1) (.int .i64 (t : Int)) (by omega) (by omega)
  have K3 := K2.put (.inl rfl) (o + 0 * 3 + 1) (.int .i64 (t : Int))
  rw [Nat.zero_mul, Nat.add_zero] at B3 C3 O3 K3 g1
  obtain ⟨w3, hw3⟩ : ∃ w3, w2.setCell ⟨kb, o + 1, none⟩ (.int .i64 (t : Int)) = w3 := ⟨_, rfl⟩
  rw [hw3] at B3 K3
  have g2 := B3.at C3.2
  have i2 := B3.free (o + 195)
  have B4 := B3.put (o + 195) (.int .i64 (((n + 1 : Nat) : Int)))
  have C4 := C3.setN (n + 1)
  have O4 := O3.set (k := o + 195) (.int .i64 ((n + 1 : Nat) : Int)) (by omega) (by omega)
  have K4 := K3.put (.inl rfl) (o + 195) (.int .i64 ((n + 1 : Nat) : Int))
  obtain ⟨w4, hw4⟩ : ∃ w4, w3.setCell ⟨kb, o + 195, none⟩ (.int .i64 ((n : Int) + 1)) = w4 := ⟨_, rfl⟩
  have hw4' : w3.setCell ⟨kb, o + 195, none⟩ (.int .i64 ((n + 1 : Nat) : Int)) = w4 := by rw [← hw4]; rfl
  rw [hw4'] at B4 K4
  have HE : Hid (RowTo kb o cs (s :: l) w w4) := Lib.hid ⟨_, B4, ⟨leadS A s, by
    have e : leadS A s = { ah := upd (upd A.ah t 0) b t, be := upd (upd A.be t b) 0 t, st := upd A.st t true } := by
      unfold leadS
      rw [ht, eb]
    rw [e, List.length_cons, hln]
    exact C4, hW'⟩, O4, K4⟩
  have hn2 : n ≤ 63 := by omega
  have hb2 : b < 65 := by omega
  have ht2 : t < 65 := by omega
  clear hw4' B1 B2 B3 B4 C1 C2 C3 C4 O1 O2 O3 O4 K1 K2 K3 K4 hB hC hW hW' hln hlen eb ht hn
  generalize A.ah t = x0 at *
  generalize A.be t = x1 at *
  generalize A.st t = x2 at *
  go_enter Tryz.func66, Tryz.ntmps66
  go_wp2_with fail
  go_end0
  exact ⟨rfl, HE.out⟩
theorem RowTo.refl (hB : Blk w kb 100 cs) (hM : RowM cs o l) : RowTo kb o cs l w w := ⟨cs, hB, hM, Out.refl _ _, Kept.refl _ _⟩
set_option maxHeartbeats 2000000 in
theorem lleave_at (x : Int) (hB : Blk w kb 100 cs) (hM : RowM cs o l) : Calls Tryz.prog 70 #[.pointer (some ⟨kb, o, none⟩), .int .i64 x] w (fun r w' => r = .returned (.bool (hasL l x)) ∧ RowTo kb o cs (lvL l x) w w') := by
  cases hx : hasL l x with
  | false =>
    have HE : Hid (RowTo kb o cs (lvL l x) w w) := Lib.hid (by
      unfold lvL
      rw [if_neg (by rw [hx]; simp)]
      exact RowTo.refl hB hM)
    have HH := Lib.hid (lhas_at x hB hM)
    rw [hx] at HH
    clear hB hM hx
    go_enter Tryz.func70, Tryz.ntmps70
    go_wp2_with fail
    refine HH.out.mono ?_
    rintro r w' ⟨rfl, rfl⟩
    go_wp2_with fail
    go_ret
    exact ⟨rfl, HE.out⟩
  | true =>
    have HH := Lib.hid (lhas_at x hB hM)
    rw [hx] at HH
    obtain ⟨s, rfl, hs⟩ := hasL_some hx
    have elv : lvL l (s : Int) = butL l s := by
      unfold lvL
      rw [if_pos hx]
      simp
    rw [elv]
    obtain ⟨A, hC, hW⟩ := hM
    have hW' := hW.leave hs
    have hbl := but_len hW.nd hs
    have hlen := hW.len
    have hsl := hW.lt s hs
    obtain ⟨n, hln⟩ : ∃ n, (butL l s).length = n := ⟨_, rfl⟩
    rw [hln] at hbl
    rw [← hbl] at hC
    obtain ⟨t, ht⟩ : ∃ t, s + 1 = t := ⟨_, rfl⟩
    have e1 : (s : Int) + 1 = (t : Int) := by omega
    obtain ⟨ha, hb⟩ := hW.ah_le hs
    rw [ht] at ha hb
    obtain ⟨a, ea⟩ : ∃ a, A.ah t = a := ⟨_, rfl⟩
    obtain ⟨b, eb⟩ : ∃ b, A.be t = b := ⟨_, rfl⟩
    rw [ea] at ha
    rw [eb] at hb
    have htl : t ≤ 64 := by omega
    have d0 := hB.at (hC.1 t htl).1
    have d1 := hB.at (hC.1 t htl).2.1
    have d2 := hB.at (hC.1 t htl).2.2
    rw [ea] at d0
    rw [eb] at d1
    obtain ⟨v, ev⟩ : ∃ v, A.st t = v := ⟨_, rfl⟩
    rw [ev] at d2
    obtain ⟨lb, hlb⟩ : ∃ lb, w.heap.size = lb := ⟨_, rfl⟩
    have hkb : kb ≠ lb := by
      have := lt_of_block hB
      omega
    obtain ⟨wa, hwa⟩ : ∃ wa, w.alloc (.cells #[.int .i64 (a : Int), .int .i64 (b : Int), .bool v] 95) = wa := ⟨_, rfl⟩
    have BL : Blk wa lb 95 [.int .i64 (a : Int), .int .i64 (b : Int), .bool v] := by
      rw [← hwa, ← hlb]
      exact heap_alloc_new w _
    have BA : Blk wa kb 100 cs := by
      rw [← hwa]
      exact hB.up ((Below.refl w.heap.size w).alloc (Nat.le_refl _) _) (lt_of_block hB)
    have l0 := BL.cell 0 (by simp)
    have l1 := BL.cell 1 (by simp)
    have g0 := BA.at (hC.1 a ha).2.1
    have i0 := BA.free (o + a * 3 + 1)
    have KA : Kept (fun k => k = kb) w wa := by
      rw [← hwa]
      exact (Kept.refl _ w).alloc _
    -- the one ahead of it
    have B1 : Blk (wa.setCell ⟨kb, o + a * 3 + 1, none⟩ (.int .i64 (b : Int))).drew kb 100 _ := BA.put (o + a * 3 + 1) (.int .i64 (b : Int))
    have C1 := hC.setBe a ha b
    have O1 := (Out.refl o cs).set (k := o + a * 3 + 1) (.int .i64 (b : Int)) (by omega) (by omega)
    have K1 := (KA.put (.inl rfl) (o + a * 3 + 1) (.int .i64 (b : Int))).drew
    have L1 : Blk (wa.setCell ⟨kb, o + a * 3 + 1, none⟩ (.int .i64 (b : Int))).drew lb 95 _ := (kept_put wa kb (o + a * 3 + 1) (.int .i64 (b : Int))).blk BL (fun e => hkb e.symm)
    obtain ⟨w1, hw1⟩ : ∃ w1, (wa.setCell ⟨kb, o + a * 3 + 1, none⟩ (.int .i64 (b : Int))).drew = w1 := ⟨_, rfl⟩
    rw [hw1] at B1 K1 L1
    have l2 := L1.cell 0 (by simp)
    have l3 := L1.cell 1 (by simp)
    have g1 := B1.at (C1.1 b hb).1
    have i1 := B1.free (o + b * 3)
    -- the one behind it
    have B2 : Blk (w1.setCell ⟨kb, o + b * 3, none⟩ (.int .i64 (a : Int))).drew kb 100 _ := B1.put (o + b * 3) (.int .i64 (a : Int))
    have C2 := C1.setAh b hb a
    have O2 := O1.set (k := o + b * 3) (.int .i64 (a : Int)) (by omega) (by omega)
    have K2 := (K1.put (.inl rfl) (o + b * 3) (.int .i64 (a : Int))).drew
    obtain ⟨w2, hw2⟩ : ∃ w2, (w1.setCell ⟨kb, o + b * 3, none⟩ (.int .i64 (a : Int))).drew = w2 := ⟨_, rfl⟩
    rw [hw2] at B2 K2
    -- its own link
    have m0 := B2.at (C2.1 t htl).1
    have m1 := B2.at (C2.1 t htl).2.1
    have m2 := B2.at (C2.1 t htl).2.2
    have f0 := B2.free (o + t * 3)
    have f1 := B2.free (o + t * 3 + 1)
    have f2 := B2.free (o + t * 3 + 2)
    have B3 := ((B2.put (o + t * 3) (.int .i64 ((0 : Nat) : Int))).put (o + t * 3 + 1) (.int .i64 ((0 : Nat) : Int))).put (o + t * 3 + 2) (.bool false)
    have C3 := ((C2.setAh t htl 0).setBe t htl 0).setSt t htl false
    have O3 := ((O2.set (k := o + t * 3) (.int .i64 ((0 : Nat) : Int)) (by omega) (by omega)).set (k := o + t * 3 + 1) (.int .i64 ((0 : Nat) : Int)) (by omega) (by omega)).set (k := o + t * 3 + 2) (.bool false) (by omega) (by omega)
    have K3 := ((K2.put (.inl rfl) (o + t * 3) (.int .i64 ((0 : Nat) : Int))).put (.inl rfl) (o + t * 3 + 1) (.int .i64 ((0 : Nat) : Int))).put (.inl rfl) (o + t * 3 + 2) (.bool false)
    obtain ⟨w3, hw3⟩ : ∃ w3, ((w2.setCell ⟨kb, o + t * 3, none⟩ (.int .i64 0)).setCell ⟨kb, o + t * 3 + 1, none⟩ (.int .i64 0)).setCell ⟨kb, o + t * 3 + 2, none⟩ (.bool false) = w3 := ⟨_, rfl⟩
    have hw3' : ((w2.setCell ⟨kb, o + t * 3, none⟩ (.int .i64 ((0 : Nat) : Int))).setCell ⟨kb, o + t * 3 + 1, none⟩ (.int .i64 ((0 : Nat) : Int))).setCell ⟨kb, o + t * 3 + 2, none⟩ (.bool false) = w3 := hw3
    rw [hw3'] at B3 K3
    have g2 := B3.at C3.2
    have i2 := B3.free (o + 195)
    have B4 := B3.put (o + 195) (.int .i64 (n : Int))
    have C4 := C3.setN n
    have O4 := O3.set (k := o + 195) (.int .i64 (n : Int)) (by omega) (by omega)
    have K4 := K3.put (.inl rfl) (o + 195) (.int .i64 (n : Int))
    obtain ⟨w4, hw4⟩ : ∃ w4, w3.setCell ⟨kb, o + 195, none⟩ (.int .i64 (n : Int)) = w4 := ⟨_, rfl⟩
    rw [hw4] at B4 K4
    have HE : Hid (RowTo kb o cs (butL l s) w w4) := Lib.hid ⟨_, B4, ⟨leaveS A s, by
      have e : leaveS A s = { ah := upd (upd A.ah b a) t 0, be := upd (upd A.be a b) t 0, st := upd A.st t false } := by
        unfold leaveS
        rw [ht, ea, eb]
      rw [e, hln]
      exact C4, hW'⟩, O4, K4⟩
    have hn2 : n ≤ 63 := by omega
    have ha2 : a < 65 := by omega
    have hb2 : b < 65 := by omega
    have ht2 : t < 65 := by omega
    have e3 : (((n + 1 : Nat) : Int)) = (n : Int) + 1 := by omega
    have e2 : (n : Int) + 1 - 1 = (n : Int) := by omega
    rw [e3] at g2
    clear hw3' B1 B2 B3 B4 C1 C2 C3 C4 O1 O2 O3 O4 K1 K2 K3 K4 KA L1 BL BA hB hC hW hW' hln hlen hbl eb ea ev ht hs elv hx e3
    generalize upd A.be a b t = x1 at *
    generalize upd A.ah b a t = x0 at *
    generalize A.st t = x2 at *
    go_enter Tryz.func70, Tryz.ntmps70
    go_wp2_with fail
    refine HH.out.mono ?_
    rintro r w' ⟨rfl, rfl⟩
    go_wp2_with fail
    go_region
    go_wp2_with fail
    go_region
    go_wp2_with fail
    go_ret
    exact ⟨rfl, HE.out⟩
end
end Go.Proofs.YtajccmkdfmpapaaGreatDoor
namespace Go.Proofs.YtajccmkdfmpapaaGreatDoor
open Go.RowKit

/-- Block kb is the ranking S. -/
def RkC (w : World) (kb : Nat) (cs : List Value) (S : RkS) : Prop := Blk w kb 100 cs ∧ cs[0]? = some (.int .i64 (S.n : Int)) ∧ RowM cs 1 S.T ∧ RowM cs 197 S.K
def RkM (w : World) (kb : Nat) (S : RkS) : Prop := (∃ cs, RkC w kb cs S) ∧ S.WF
theorem RkM.lt {w : World} {kb : Nat} {S : RkS} (h : RkM w kb S) : kb < w.heap.size := by
  obtain ⟨⟨cs, hB, _⟩, _⟩ := h
  exact lt_of_block hB
theorem RkM.keep {F : Nat → Prop} {w w' : World} {kb : Nat} {S : RkS} (h : RkM w kb S) (hk : Kept F w w') (hn : ¬ F kb) : RkM w' kb S := by
  obtain ⟨⟨cs, hB, h1⟩, h2⟩ := h
  exact ⟨⟨cs, hk.blk hB hn, h1⟩, h2⟩
theorem RkM.up {w w' : World} {kb : Nat} {S : RkS} (h : RkM w kb S) (hb : Below w.heap.size w w') : RkM w' kb S := h.keep (F := fun _ => False) (Kept.of_below hb) id
/-- Behind a call on the ranking's row on trial, or kept. -/
theorem RkC.trial {w w' : World} {kb : Nat} {cs : List Value} {S : RkS} {l : List Nat} (h : RkC w kb cs S) (ht : RowTo kb 1 cs l w w') : ∃ cs', RkC w' kb cs' { S with T := l } := by
  obtain ⟨hB, h0, hT, hK⟩ := h
  obtain ⟨cs', hB', hM, hO, _⟩ := ht
  exact ⟨cs', hB', (hO 0 (.inl (by omega))).trans h0, hM, hK.same (fun j h1 _ => hO j (.inr (by omega)))⟩
theorem RkC.kept {w w' : World} {kb : Nat} {cs : List Value} {S : RkS} {l : List Nat} (h : RkC w kb cs S) (ht : RowTo kb 197 cs l w w') : ∃ cs', RkC w' kb cs' { S with K := l } := by
  obtain ⟨hB, h0, hT, hK⟩ := h
  obtain ⟨cs', hB', hM, hO, _⟩ := ht
  exact ⟨cs', hB', (hO 0 (.inl (by omega))).trans h0, hT.same (fun j _ h1 => hO j (.inl (by omega))), hM⟩
theorem RowTo.kept {kb o : Nat} {cs : List Value} {l : List Nat} {w w' : World} (h : RowTo kb o cs l w w') : Kept (fun k => k = kb) w w' := by
  obtain ⟨_, _, _, _, h⟩ := h
  exact h

/-- What a call on a ranking does. -/
def RkTo (kb : Nat) (b : Bool) (S' : RkS) (w : World) (r : Ending) (w' : World) : Prop := r = .returned (.bool b) ∧ RkM w' kb S' ∧ Kept (fun k => k = kb) w w'
section
variable {w : World} {kb : Nat} {S : RkS}
set_option maxHeartbeats 1000000 in
theorem lvictim_at (h : RkM w kb S) : Calls Tryz.prog 42 #[.pointer (some ⟨kb, 0, none⟩)] w (fun r w' => r = .returned (.tuple #[.int .i64 (S.vicN : Int), .bool S.vic.isSome]) ∧ w = w') := by
  obtain ⟨⟨cs, hB, h0, hT, hK⟩, hwf⟩ := h
  have HT := Lib.hid (llast_at hB hT)
  have HK := Lib.hid (llast_at hB hK)
  cases e : S.T.getLast? with
  | some s =>
    have HV : Hid (S.vicN = s ∧ S.vic.isSome = true) := Lib.hid (by
      have : S.vic = some s := by unfold RkS.vic; rw [e]; rfl
      unfold RkS.vicN
      rw [this]
      exact ⟨rfl, rfl⟩)
    unfold LastIs at HT
    rw [e] at HT
    rw [HV.out.1, HV.out.2]
    clear hB h0 hT hK hwf e HK HV
    go_enter Tryz.func42, Tryz.ntmps42
    go_wp2_with fail
    refine HT.out.mono ?_
    rintro r w' ⟨rfl, rfl⟩
    go_wp2_with fail
    go_ret2
    exact ⟨rfl, rfl⟩
  | none =>
    have HV : Hid (S.vicN = S.K.getLast?.getD 0 ∧ S.vic.isSome = S.K.getLast?.isSome) := Lib.hid (by
      have : S.vic = S.K.getLast? := by unfold RkS.vic; rw [e]; rfl
      unfold RkS.vicN
      rw [this]
      exact ⟨rfl, rfl⟩)
    unfold LastIs at HT HK
    rw [e] at HT
    rw [HV.out.1, HV.out.2]
    generalize S.K.getLast?.getD 0 = v at *
    generalize S.K.getLast?.isSome = y at *
    clear hB h0 hT hK hwf e HV
    go_enter Tryz.func42, Tryz.ntmps42
    go_wp2_with fail
    refine HT.out.mono ?_
    rintro r w' ⟨rfl, rfl⟩
    go_wp2_with fail
    refine HK.out.mono ?_
    rintro r w' ⟨rfl, rfl⟩
    go_wp2_with fail
    go_ret2
    exact ⟨rfl, rfl⟩
set_option maxHeartbeats 1000000 in
theorem linsert_at (x : Int) (h : RkM w kb S) : Calls Tryz.prog 64 #[.pointer (some ⟨kb, 0, none⟩), .int .i64 x] w (RkTo kb (S.insB x) (S.insS x) w) := by
  have HH := Lib.hid h
  obtain ⟨⟨cs, hB, h0, hT, hK⟩, hwf⟩ := h
  have c0 := hB.at h0
  have hn64 := hwf.n64
  have HT := Lib.hid (lhas_at x hB hT)
  have HK := Lib.hid (lhas_at x hB hK)
  obtain ⟨n, hn⟩ : ∃ n, S.n = n := ⟨_, rfl⟩
  rw [hn] at c0 hn64
  have no : S.insB x = false → RkTo kb (S.insB x) (S.insS x) w (.returned (.bool false)) w := fun e => by
    refine ⟨by rw [e], ?_, Kept.refl _ _⟩
    unfold RkS.insS
    rw [e]
    exact HH.out
  by_cases h1 : x < 0
  · have HE := Lib.hid (no (by
      unfold RkS.insB
      have : ¬ 0 ≤ x := by omega
      simp [this]))
    have hd : decide (x < 0) = true := by simpa using h1
    clear hB h0 hT hK hwf hn no c0
    go_enter Tryz.func64, Tryz.ntmps64
    go_wp2_with fail
    go_ret
    exact HE.out
  · have hd : decide (x < 0) = false := by simpa using h1
    by_cases h2 : (n : Int) ≤ x
    · have HE := Lib.hid (no (by
        unfold RkS.insB
        have : ¬ x < S.n := by omega
        simp [this]))
      clear hB h0 hT hK hwf hn no
      go_enter Tryz.func64, Tryz.ntmps64
      go_wp2_with fail
      go_ret
      exact HE.out
    · cases e1 : hasL S.T x with
      | true =>
        have HE := Lib.hid (no (by
          unfold RkS.insB RkS.has
          simp [e1]))
        rw [e1] at HT
        clear hB h0 hT hK hwf hn no e1 HK
        go_enter Tryz.func64, Tryz.ntmps64
        go_wp2_with fail
        refine HT.out.mono ?_
        rintro r w' ⟨rfl, rfl⟩
        go_wp2_with fail
        go_ret
        exact HE.out
      | false =>
        cases e2 : hasL S.K x with
        | true =>
          have HE := Lib.hid (no (by
            unfold RkS.insB RkS.has
            simp [e2]))
          rw [e1] at HT
          rw [e2] at HK
          clear hB h0 hT hK hwf hn no e1 e2
          go_enter Tryz.func64, Tryz.ntmps64
          go_wp2_with fail
          refine HT.out.mono ?_
          rintro r w' ⟨rfl, rfl⟩
          go_wp2_with fail
          refine HK.out.mono ?_
          rintro r w' ⟨rfl, rfl⟩
          go_wp2_with fail
          go_ret
          exact HE.out
        | false =>
          have hx0 : 0 ≤ x := by omega
          have hy : S.insB x = true := by
            unfold RkS.insB RkS.has
            have : x < S.n := by omega
            simp [e1, e2, hx0, this]
          have HY := Lib.hid hy
          have HW := Lib.hid (RkS.insS_wf hwf x)
          obtain ⟨s, rfl⟩ := Int.eq_ofNat_of_zero_le hx0
          have hsT : s ∉ S.T := by simpa [hasL_nat] using e1
          have HL := Lib.hid (llead_at s hB hT (by omega) hsT)
          have HE : Hid (∀ w', RowTo kb 1 cs (s :: S.T) w w' → RkTo kb (S.insB (s : Int)) (S.insS (s : Int)) w (.returned (.bool true)) w') := Lib.hid (fun w' ht => by
            refine ⟨by rw [hy], ⟨?_, HW.out⟩, ht.kept⟩
            obtain ⟨cs', hc⟩ := RkC.trial (S := S) ⟨hB, h0, hT, hK⟩ ht
            unfold RkS.insS
            rw [if_pos hy]
            exact ⟨cs', hc⟩)
          rw [e1] at HT
          rw [e2] at HK
          clear hB h0 hT hK hwf hn no e1 e2 hy hsT
          go_enter Tryz.func64, Tryz.ntmps64
          go_wp2_with fail
          refine HT.out.mono ?_
          rintro r w' ⟨rfl, rfl⟩
          go_wp2_with fail
          refine HK.out.mono ?_
          rintro r w' ⟨rfl, rfl⟩
          go_wp2_with fail
          refine HL.out.mono ?_
          rintro r w' ⟨rfl, ht⟩
          have HR := Lib.hid ht
          clear ht
          go_wp2_with fail
          go_ret
          exact HE.out _ HR.out
theorem RkS.wf_disj {S : RkS} (h : S.WF) {s : Nat} (hT : s ∈ S.T) : s ∉ S.K := fun hK => (List.nodup_append.1 h.nd).2.2 s hT s hK rfl
set_option maxHeartbeats 1000000 in
theorem lremove_at (x : Int) (h : RkM w kb S) : Calls Tryz.prog 49 #[.pointer (some ⟨kb, 0, none⟩), .int .i64 x] w (RkTo kb (S.has x) (S.remS x) w) := by
  obtain ⟨⟨cs, hB, h0, hT, hK⟩, hwf⟩ := h
  have HW := Lib.hid (RkS.remS_wf hwf x)
  have HC : Hid (RkC w kb cs S) := Lib.hid ⟨hB, h0, hT, hK⟩
  have HT := Lib.hid (lleave_at x hB hT)
  cases e1 : hasL S.T x with
  | true =>
    have HE : Hid (∀ w', RowTo kb 1 cs (lvL S.T x) w w' → RkTo kb (S.has x) (S.remS x) w (.returned (.bool true)) w') := Lib.hid (fun w' ht => by
      have hh : S.has x = true := by unfold RkS.has; rw [e1]; rfl
      obtain ⟨cs', hc⟩ := HC.out.trial ht
      refine ⟨by rw [hh], ⟨⟨cs', ?_⟩, HW.out⟩, ht.kept⟩
      unfold RkS.remS
      rw [if_pos hh]
      obtain ⟨s, rfl, hs⟩ := hasL_some e1
      unfold lvL at hc
      rw [if_pos e1] at hc
      rw [show butL S.K ((s : Int).toNat) = S.K from but_not (by simpa using RkS.wf_disj hwf hs)]
      exact hc)
    rw [e1] at HT
    clear hB h0 hT hK hwf e1
    go_enter Tryz.func49, Tryz.ntmps49
    go_wp2_with fail
    refine HT.out.mono ?_
    rintro r w' ⟨rfl, ht⟩
    have HR := Lib.hid ht
    clear ht
    go_wp2_with fail
    go_ret
    exact HE.out _ HR.out
  | false =>
    have hl1 : lvL S.T x = S.T := by unfold lvL; rw [if_neg (by rw [e1]; simp)]
    have HK : Hid (∀ w', RowTo kb 1 cs (lvL S.T x) w w' → ∃ cs', Calls Tryz.prog 70 #[.pointer (some ⟨kb, 197, none⟩), .int .i64 x] w' (fun r w'' => r = .returned (.bool (hasL S.K x)) ∧ RowTo kb 197 cs' (lvL S.K x) w' w'') ∧ RkC w' kb cs' S) := Lib.hid (fun w' ht => by
      obtain ⟨cs', hc⟩ := HC.out.trial ht
      rw [hl1] at hc
      exact ⟨cs', lleave_at x hc.1 hc.2.2.2, hc⟩)
    have HE : Hid (∀ w1 w2 cs', RowTo kb 1 cs (lvL S.T x) w w1 → RkC w1 kb cs' S → RowTo kb 197 cs' (lvL S.K x) w1 w2 → RkTo kb (S.has x) (S.remS x) w (.returned (.bool (hasL S.K x))) w2) := Lib.hid (fun w1 w2 cs' ht hc hk => by
      have hh : S.has x = hasL S.K x := by unfold RkS.has; rw [e1]; rfl
      obtain ⟨cs2, hc2⟩ := hc.kept hk
      refine ⟨by rw [hh], ⟨⟨cs2, ?_⟩, HW.out⟩, ht.kept.and hk.kept⟩
      unfold RkS.remS
      unfold lvL at hc2
      rw [hh]
      cases e2 : hasL S.K x with
      | true =>
        rw [if_pos rfl]
        rw [if_pos e2] at hc2
        obtain ⟨s, rfl, hs⟩ := hasL_some e2
        rw [show butL S.T ((s : Int).toNat) = S.T from but_not (by
          intro e
          exact RkS.wf_disj hwf (by simpa using e) hs)]
        exact hc2
      | false =>
        rw [if_neg (by simp)]
        rw [if_neg (by rw [e2]; simp)] at hc2
        exact hc2)
    rw [e1] at HT
    generalize hasL S.K x = y at *
    clear hB h0 hT hK hwf e1 hl1
    go_enter Tryz.func49, Tryz.ntmps49
    go_wp2_with fail
    refine HT.out.mono ?_
    rintro r w1 ⟨rfl, ht⟩
    have HR := Lib.hid ht
    obtain ⟨cs', hcall, hc⟩ := HK.out _ ht
    have HCA := Lib.hid hcall
    have HC1 := Lib.hid hc
    clear ht hcall hc
    go_wp2_with fail
    refine HCA.out.mono ?_
    rintro r w2 ⟨rfl, hk⟩
    have HR2 := Lib.hid hk
    clear hk
    go_wp2_with fail
    go_ret
    exact HE.out _ _ _ HR.out HC1.out HR2.out
theorem RkC.drewN {cs : List Value} (h : RkC w kb cs S) (n : Nat) : RkC (w.drewN n) kb cs S := h
theorem Kept.drewN {F : Nat → Prop} {a b : World} (h : Kept F a b) (n : Nat) : Kept F a (b.drewN n) := ⟨h.os, h.tape, h.output, h.size, h.block⟩
/-- The last kept one is the first one on trial. -/
def DemTo (kb : Nat) (S' : RkS) (w w' : World) : Prop := (∃ cs', RkC w' kb cs' S') ∧ Kept (fun k => k = kb) w w'
set_option maxHeartbeats 1000000 in
theorem ldemote_at {cs : List Value} {s : Nat} (hC : RkC w kb cs S) (hwf : S.WF) (hs : S.K.getLast? = some s) : Calls Tryz.prog 67 #[.pointer (some ⟨kb, 0, none⟩)] w (fun r w' => r = .returned (.tuple #[]) ∧ DemTo kb { S with T := s :: S.T, K := S.K.dropLast } w w') := by
  have hl := llast_at hC.1 hC.2.2.2
  unfold LastIs at hl
  rw [hs] at hl
  have HL := Lib.hid hl
  have hsK : s ∈ S.K := List.mem_of_getLast? hs
  have hsT : s ∉ S.T := fun e => RkS.wf_disj hwf e hsK
  have hs64 : s < 64 := by
    have := hwf.lt s (by simp [hsK])
    have := hwf.n64
    omega
  have hK : lvL S.K (s : Int) = S.K.dropLast := by
    unfold lvL
    rw [if_pos (by rw [hasL_nat]; simpa using hsK)]
    obtain ⟨ys, e⟩ := List.getLast?_eq_some_iff.1 hs
    have := RkS.K_nd hwf
    rw [e] at this ⊢
    rw [Int.toNat_natCast, but_mid this]
    simp
  have HV := Lib.hid (lleave_at (s : Int) hC.1 hC.2.2.2)
  have hhas : hasL S.K (s : Int) = true := by rw [hasL_nat]; simpa using hsK
  rw [hhas, hK] at HV
  have HN : Hid (∀ w', RowTo kb 197 cs S.K.dropLast w w' → ∃ cs', RkC w' kb cs' { S with K := S.K.dropLast } ∧ Calls Tryz.prog 66 #[.pointer (some ⟨kb, 1, none⟩), .int .i64 (s : Int)] w' (fun r w'' => r = .returned (.tuple #[]) ∧ RowTo kb 1 cs' (s :: S.T) w' w'')) := Lib.hid (fun w' hk => by
    obtain ⟨cs', hc⟩ := hC.kept hk
    exact ⟨cs', hc, llead_at s hc.1 hc.2.2.1 hs64 hsT⟩)
  clear hC hwf hs hl hsK hsT hs64 hK hhas
  go_enter Tryz.func67, Tryz.ntmps67
  go_wp2_with fail
  refine HL.out.mono ?_
  rintro r w' ⟨rfl, rfl⟩
  go_wp2_with fail
  refine HV.out.mono ?_
  rintro r w1 ⟨rfl, hk⟩
  have HR := Lib.hid hk
  obtain ⟨cs', hc, hcall⟩ := HN.out _ hk
  have HC1 := Lib.hid hc
  have HCA := Lib.hid hcall
  clear hk hc hcall
  go_wp2_with fail
  refine HCA.out.mono ?_
  rintro r w2 ⟨rfl, hk⟩
  have HR2 := Lib.hid hk
  clear hk
  go_wp2_with fail
  go_end0
  exact ⟨rfl, HC1.out.trial HR2.out, HR.out.kept.and HR2.out.kept⟩
set_option maxHeartbeats 2000000 in
theorem ltouch_at (x : Int) (h : RkM w kb S) : Calls Tryz.prog 47 #[.pointer (some ⟨kb, 0, none⟩), .int .i64 x] w (RkTo kb (S.has x) (S.touS x) w) := by
  have HR := Lib.hid (lremove_at x h)
  cases hx : S.has x with
  | false =>
    have HE : Hid (∀ w', RkTo kb (S.has x) (S.remS x) w (.returned (.bool false)) w' → RkTo kb false (S.touS x) w (.returned (.bool false)) w') := Lib.hid (fun w' ⟨_, b, c⟩ => by
      unfold RkS.remS at b
      unfold RkS.touS
      rw [hx] at b ⊢
      exact ⟨rfl, b, c⟩)
    rw [hx] at HR HE
    clear h hx
    go_enter Tryz.func47, Tryz.ntmps47
    go_wp2_with fail
    refine HR.out.mono ?_
    rintro r w' ⟨rfl, ht⟩
    have HT := Lib.hid ht
    clear ht
    go_wp2_with fail
    go_ret
    exact HE.out _ ⟨rfl, HT.out⟩
  | true =>
    obtain ⟨s, rfl, hs⟩ := RkS.has_some hx
    have hwf := h.2
    have hs64 : s < 64 := by
      have := hwf.lt s hs
      have := hwf.n64
      omega
    have hrem : S.remS (s : Int) = { S with T := butL S.T s, K := butL S.K s } := by
      unfold RkS.remS
      rw [if_pos hx]
      simp
    have htou : S.touS (s : Int) = RkS.demo { S with T := butL S.T s, K := s :: butL S.K s } := by
      unfold RkS.touS
      rw [if_pos hx]
      simp
    have hmid := RkS.touch_mid hwf hs
    rw [hx, hrem] at HR
    rw [htou]
    have HL : Hid (∀ w' (cs : List Value), RkC w' kb cs { S with T := butL S.T s, K := butL S.K s } → Calls Tryz.prog 66 #[.pointer (some ⟨kb, 197, none⟩), .int .i64 (s : Int)] w' (fun r w'' => r = .returned (.tuple #[]) ∧ RowTo kb 197 cs (s :: butL S.K s) w' w'')) := Lib.hid (fun w' cs hc => llead_at s hc.1 hc.2.2.2 hs64 (fun e => (mem_but.1 e).2 rfl))
    have hlen := RkS.len_le hmid
    have hn64 := hwf.n64
    have hn1 := hwf.n1
    obtain ⟨M, hM⟩ : ∃ M : RkS, { S with T := butL S.T s, K := s :: butL S.K s } = M := ⟨_, rfl⟩
    have eKn : M.K.length = (s :: butL S.K s).length ∧ M.n = S.n := by rw [← hM]; exact ⟨rfl, rfl⟩
    rw [hM]
    have HM : Hid (∀ w' (cs : List Value), RkC w' kb cs { S with T := butL S.T s, K := s :: butL S.K s } → RkC w' kb cs M) := Lib.hid (fun w' cs hc => by rw [← hM]; exact hc)
    have HW : Hid M.WF := Lib.hid (by rw [← hM]; exact hmid)
    have hlen2 : M.K.length ≤ 64 := by
      have := RkS.len_le HW.out
      omega
    obtain ⟨m, hm⟩ : ∃ m, M.K.length = m := ⟨_, rfl⟩
    obtain ⟨n, hn⟩ : ∃ n, M.n = n := ⟨_, rfl⟩
    have HMC : Hid (∀ w' (cs : List Value), RkC w' kb cs M → w'.cell? ⟨kb, 392, none⟩ = some (.int .i64 (m : Int)) ∧ w'.cell? ⟨kb, 0, none⟩ = some (.int .i64 (n : Int))) := Lib.hid (fun w' cs hc => by
      obtain ⟨A, hA, _⟩ := hc.2.2.2
      have h1 := hc.1.at hA.2
      have h2 := hc.1.at hc.2.1
      rw [hm] at h1
      rw [hn] at h2
      exact ⟨h1, h2⟩)
    have hnn : n ≤ 64 ∧ 1 ≤ n := by omega
    have hmm : m ≤ 64 := by omega
    by_cases hd : n / 2 < m
    · obtain ⟨z, hz⟩ : ∃ z, M.K.getLast? = some z := by
        cases e : M.K.getLast? with
        | some z => exact ⟨z, rfl⟩
        | none =>
          rw [List.getLast?_eq_none_iff] at e
          rw [e] at hm
          simp at hm
          omega
      have HD : Hid (∀ w' (cs : List Value), RkC w' kb cs M → Calls Tryz.prog 67 #[.pointer (some ⟨kb, 0, none⟩)] w' (fun r w'' => r = .returned (.tuple #[]) ∧ DemTo kb { M with T := z :: M.T, K := M.K.dropLast } w' w'')) := Lib.hid (fun w' cs hc => ldemote_at hc HW.out hz)
      have HE : Hid (∀ w', DemTo kb { M with T := z :: M.T, K := M.K.dropLast } w w' → RkTo kb true M.demo w (.returned (.bool true)) w') := Lib.hid (fun w' ⟨hc, hk⟩ => by
        refine ⟨rfl, ⟨?_, RkS.demo_wf HW.out⟩, hk⟩
        unfold RkS.demo
        rw [if_pos (by omega), hz]
        exact hc)
      have hdd : ((n : Int) / 2 < (m : Int)) := by omega
      clear hx hwf hs hrem htou hmid hlen hn64 hn1 hM eKn hlen2 hm hn h hz
      go_enter Tryz.func47, Tryz.ntmps47
      go_wp2_with fail
      refine HR.out.mono ?_
      rintro r w1 ⟨rfl, hm1, hk1⟩
      obtain ⟨⟨cs1, hc1⟩, _⟩ := hm1
      have HC1 := Lib.hid hc1
      have HK1 := Lib.hid hk1
      clear hc1 hk1
      go_wp2_with fail
      refine (HL.out _ _ HC1.out).mono ?_
      rintro r w2 ⟨rfl, ht⟩
      obtain ⟨cs2, hc2⟩ := HC1.out.kept ht
      have HC2 := Lib.hid (HM.out _ _ hc2)
      have HK2 := Lib.hid (HK1.out.and ht.kept)
      clear hc2 ht HC1 HK1
      obtain ⟨g1, g2⟩ := HMC.out _ _ HC2.out
      go_wp2_with fail
      go_quiet (fail)
      all_goals
        go_wp2_with fail
        refine (HD.out _ _ (HC2.out.drewN _)).mono ?_
        rintro r w3 ⟨rfl, hd3⟩
        have HD3 := Lib.hid hd3
        clear hd3
        go_wp2_with fail
        go_ret
        exact HE.out _ ⟨HD3.out.1, (HK2.out.drewN _).and HD3.out.2⟩
    · have HE : Hid (∀ w' (cs : List Value), RkC w' kb cs M → Kept (fun k => k = kb) w w' → RkTo kb true M.demo w (.returned (.bool true)) w') := Lib.hid (fun w' cs hc hk => by
        refine ⟨rfl, ⟨?_, RkS.demo_wf HW.out⟩, hk⟩
        unfold RkS.demo
        rw [if_neg (by omega)]
        exact ⟨cs, hc⟩)
      have hdd : ¬ ((n : Int) / 2 < (m : Int)) := by omega
      clear hx hwf hs hrem htou hmid hlen hn64 hn1 hM eKn hlen2 hm hn h
      go_enter Tryz.func47, Tryz.ntmps47
      go_wp2_with fail
      refine HR.out.mono ?_
      rintro r w1 ⟨rfl, hm1, hk1⟩
      obtain ⟨⟨cs1, hc1⟩, _⟩ := hm1
      have HC1 := Lib.hid hc1
      have HK1 := Lib.hid hk1
      clear hc1 hk1
      go_wp2_with fail
      refine (HL.out _ _ HC1.out).mono ?_
      rintro r w2 ⟨rfl, ht⟩
      obtain ⟨cs2, hc2⟩ := HC1.out.kept ht
      have HC2 := Lib.hid (HM.out _ _ hc2)
      have HK2 := Lib.hid (HK1.out.and ht.kept)
      clear hc2 ht HC1 HK1
      obtain ⟨g1, g2⟩ := HMC.out _ _ HC2.out
      go_wp2_with fail
      go_quiet (fail)
      all_goals
        go_wp2_with fail
        go_ret
        exact HE.out _ _ (HC2.out.drewN _) (HK2.out.drewN _)
end
end Go.Proofs.YtajccmkdfmpapaaGreatDoor
namespace Go.Proofs.YtajccmkdfmpapaaGreatDoor
open Go.RowKit

/-- What New answers. -/
def NewIs (n : Int) (w : World) (r : Ending) (w' : World) : Prop :=
  Below w.heap.size w w' ∧ if 1 ≤ n ∧ n ≤ 64 then r = .returned (.tuple #[.pointer (some ⟨w.heap.size, 0, none⟩), .nilIface]) ∧ RkM w' w.heap.size ⟨[], [], n.toNat⟩ else r = .returned (.tuple #[.pointer none, .iface 30 (.int .i64 1)])
def linkZ : List Value := [.int .i64 0, .int .i64 0, .bool false]
def rowZ : List Value := (List.replicate 65 linkZ).flatten ++ [.int .i64 0]
/-- An empty ranking's cells. -/
def rankZ (n : Int) : List Value := .int .i64 n :: (rowZ ++ rowZ)
theorem rep_at (k : Nat) (hk : k < 3) : ∀ (m i : Nat), i < m → ((List.replicate m linkZ).flatten)[i * 3 + k]? = linkZ[k]?
  | 0, _, h => by omega
  | m + 1, 0, _ => by
    rw [List.replicate_succ, List.flatten_cons, List.getElem?_append_left (by simp [linkZ]; omega)]
    simp
  | m + 1, i + 1, h => by
    rw [List.replicate_succ, List.flatten_cons, List.getElem?_append_right (by simp [linkZ]; omega)]
    rw [show (i + 1) * 3 + k - linkZ.length = i * 3 + k by simp [linkZ]; omega]
    exact rep_at k hk m i (by omega)
theorem rep_len : ∀ m : Nat, ((List.replicate m linkZ).flatten).length = m * 3
  | 0 => rfl
  | m + 1 => by
    rw [List.replicate_succ, List.flatten_cons, List.length_append, rep_len m]
    simp [linkZ]
    omega
theorem rowZ_at (k : Nat) (hk : k < 3) (i : Nat) (hi : i ≤ 64) : rowZ[i * 3 + k]? = linkZ[k]? := by
  unfold rowZ
  rw [List.getElem?_append_left (by rw [rep_len]; omega)]
  exact rep_at k hk 65 i (by omega)
theorem rowZ_end : rowZ[195]? = some (.int .i64 0) := by
  unfold rowZ
  rw [List.getElem?_append_right (by rw [rep_len]; omega), rep_len]
  rfl
theorem rowZ_len : rowZ.length = 196 := by
  unfold rowZ
  rw [List.length_append, rep_len]
  rfl
theorem rowZ_c {cs : List Value} {o : Nat} (h : ∀ j, j < 196 → cs[o + j]? = rowZ[j]?) : RowC cs o emptyA 0 := by
  refine ⟨fun i hi => ⟨?_, ?_, ?_⟩, ?_⟩
  · rw [h _ (by omega)]
    exact rowZ_at 0 (by omega) i hi
  · rw [Nat.add_assoc, h _ (by omega)]
    exact rowZ_at 1 (by omega) i hi
  · rw [Nat.add_assoc, h _ (by omega)]
    exact rowZ_at 2 (by omega) i hi
  · rw [h _ (by omega)]
    exact rowZ_end
theorem rankZ_at (n : Int) : (rankZ n)[0]? = some (.int .i64 n) ∧ RowC (rankZ n) 1 emptyA 0 ∧ RowC (rankZ n) 197 emptyA 0 := by
  refine ⟨rfl, rowZ_c fun j hj => ?_, rowZ_c fun j hj => ?_⟩
  · unfold rankZ
    rw [Nat.add_comm 1 j, List.getElem?_cons_succ, List.getElem?_append_left (by rw [rowZ_len]; exact hj)]
  · unfold rankZ
    obtain ⟨k, hk⟩ : ∃ k, rowZ.length + j = k := ⟨_, rfl⟩
    have hk2 := hk
    rw [rowZ_len] at hk2
    rw [show 197 + j = k + 1 by omega, List.getElem?_cons_succ, ← hk, List.getElem?_append_right (by omega), Nat.add_sub_cancel_left]
theorem rank_new (n : Nat) (w : World) (h1 : 1 ≤ n) (h2 : n ≤ 64) : RkM (w.alloc (.cells (rankZ (n : Int)).toArray 100)) w.heap.size ⟨[], [], n⟩ := by
  obtain ⟨h3, h4, h5⟩ := rankZ_at (n : Int)
  exact ⟨⟨rankZ (n : Int), heap_alloc_new w _, h3, ⟨emptyA, h4, RW.empty⟩, ⟨emptyA, h5, RW.empty⟩⟩, ⟨List.nodup_nil, fun s hs => (by cases hs), h1, h2⟩⟩
theorem rank_build (n : Int) (w : World) : (Instr.build 100 #[(0, .int .i64 n)]).run Tryz.prog w = .ok (.agg (rankZ n).toArray) w := run_build w 100 _ (rankZ n).toArray (by kernel_rfl)
theorem at_build {ops : Array Oper} {Q : Exit → Act → World → Prop} {rest : List Oper} {a : Act} {w : World} {d : Option Tmp} {x : Operand} {ty : TypeId} {po : String} {af : Array Edge} (n : Int) (Z : Array Value) (hZ : (rankZ n).toArray = Z) (hx : a.eval x = .int .i64 n)
    (h : wpList Tryz.prog ops Q rest (a.put d (.agg Z)) w) : wpList Tryz.prog ops Q ({ dst := d, op := .build 100 #[(0, x)], type := ty, pos := po, after := af, guard := none } :: rest) a w := by
  subst hZ
  refine wpList_plain rfl fun K hK => ?_
  unfold Oper.wp
  simp [execOp, hx, rank_build, Result.andThen]
  exact hK _ _ h
theorem ret2 {a b a' b' : Value} (h1 : a = a') (h2 : b = b') : Ending.returned (.tuple #[a, b]) = .returned (.tuple #[a', b']) := by rw [h1, h2]
theorem lnew_at (n : Int) (w : World) : Calls Tryz.prog 26 #[.int .i64 n] w (NewIs n w) := by
  by_cases h0 : n < 1
  · have hd : decide (n < 1) = true := by simpa using h0
    have HE : Hid (NewIs n w (.returned (.tuple #[.pointer none, .iface 30 (.int .i64 1)])) w) := Lib.hid ⟨Below.refl _ _, by rw [if_neg (by omega)]⟩
    go_enter Tryz.func26, Tryz.ntmps26
    go_wp2_with fail
    go_ret2
    exact HE.out
  · have hd : decide (n < 1) = false := by simpa using h0
    by_cases h1 : 64 < n
    · have HE : Hid (NewIs n w (.returned (.tuple #[.pointer none, .iface 30 (.int .i64 1)])) w) := Lib.hid ⟨Below.refl _ _, by rw [if_neg (by omega)]⟩
      go_enter Tryz.func26, Tryz.ntmps26
      go_wp2_with fail
      go_ret2
      exact HE.out
    · obtain ⟨m, rfl⟩ := Int.eq_ofNat_of_zero_le (show 0 ≤ n by omega)
      obtain ⟨Z, hZ⟩ : ∃ Z, (rankZ (m : Int)).toArray = Z := ⟨_, rfl⟩
      have HZ := Lib.hid hZ
      have HE : Hid (NewIs (m : Int) w (.returned (.tuple #[.pointer (some ⟨w.heap.size, 0, none⟩), .nilIface])) (w.alloc (.cells Z 100))) := Lib.hid ⟨(Below.refl _ _).alloc (Nat.le_refl _) _, by
        rw [if_pos (by omega), ← hZ]
        exact ⟨rfl, by simpa using rank_new m w (by omega) (by omega)⟩⟩
      clear hZ
      go_enter Tryz.func26, Tryz.ntmps26
      go_wp2_with ((with_reducible refine at_build (m : Int) Z HZ.out ?_ ?_); (· rfl))
      go_ret2
      exact HE.out
end Go.Proofs.YtajccmkdfmpapaaGreatDoor
