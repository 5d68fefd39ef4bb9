/-
  A row of a ranking in memory: links in an array; has, last, lead, leave.
-/
import Derived.Test.YtmoagooabmmmgaaCel
import Derived.Test.YtmoagooabmmmgaaLruMath
namespace Go.Proofs.Ytmoagooabmmmgaa
open Go.RowKit

/-- The cells behind o are the links A, and how many stand. -/
def RowC (cs : List Value) (o : Nat) (A : RowS) (n : Nat) : Prop :=
  (∀ i, i ≤ 64 → cs[o + i * 3]? = some (.int .i64 (A.ah i : Int)) ∧ cs[o + i * 3 + 1]? = some (.int .i64 (A.be i : Int)) ∧ cs[o + i * 3 + 2]? = some (.bool (A.st i))) ∧ cs[o + 195]? = some (.int .i64 (n : Int))
theorem RowC.same {cs cs' : List Value} {o : Nat} {A : RowS} {n : Nat} (h : RowC cs o A n) (he : ∀ j, o ≤ j → j < o + 196 → cs'[j]? = cs[j]?) : RowC cs' o A n :=
  ⟨fun i hi => by
    obtain ⟨a, b, c⟩ := h.1 i hi
    exact ⟨(he _ (by omega) (by omega)).trans a, (he _ (by omega) (by omega)).trans b, (he _ (by omega) (by omega)).trans c⟩, (he _ (by omega) (by omega)).trans h.2⟩
section
variable {cs : List Value} {o n : Nat} {A : RowS}
theorem RowC.setAh (h : RowC cs o A n) (i : Nat) (hi : i ≤ 64) (x : Nat) : RowC (cs.set (o + i * 3) (.int .i64 (x : Int))) o { A with ah := upd A.ah i x } n := by
  refine ⟨fun j hj => ?_, by rw [set_off (by omega)]; exact h.2⟩
  obtain ⟨a, b, c⟩ := h.1 j hj
  rw [set_off (j := o + j * 3 + 1) (by omega), set_off (j := o + j * 3 + 2) (by omega)]
  refine ⟨?_, b, c⟩
  by_cases e : j = i
  · subst e
    rw [set_at a]
    simp [upd_same]
  · rw [set_off (by omega), a]
    simp [upd_ne e]
theorem RowC.setBe (h : RowC cs o A n) (i : Nat) (hi : i ≤ 64) (x : Nat) : RowC (cs.set (o + i * 3 + 1) (.int .i64 (x : Int))) o { A with be := upd A.be i x } n := by
  refine ⟨fun j hj => ?_, by rw [set_off (by omega)]; exact h.2⟩
  obtain ⟨a, b, c⟩ := h.1 j hj
  rw [set_off (j := o + j * 3) (by omega), set_off (j := o + j * 3 + 2) (by omega)]
  refine ⟨a, ?_, c⟩
  by_cases e : j = i
  · subst e
    rw [set_at b]
    simp [upd_same]
  · rw [set_off (by omega), b]
    simp [upd_ne e]
theorem RowC.setSt (h : RowC cs o A n) (i : Nat) (hi : i ≤ 64) (x : Bool) : RowC (cs.set (o + i * 3 + 2) (.bool x)) o { A with st := upd A.st i x } n := by
  refine ⟨fun j hj => ?_, by rw [set_off (by omega)]; exact h.2⟩
  obtain ⟨a, b, c⟩ := h.1 j hj
  rw [set_off (j := o + j * 3) (by omega), set_off (j := o + j * 3 + 1) (by omega)]
  refine ⟨a, b, ?_⟩
  by_cases e : j = i
  · subst e
    rw [set_at c]
    simp [upd_same]
  · rw [set_off (by omega), c]
    simp [upd_ne e]
theorem RowC.setN (h : RowC cs o A n) (x : Nat) : RowC (cs.set (o + 195) (.int .i64 (x : Int))) o A x := by
  refine ⟨fun j hj => ?_, set_at h.2⟩
  rw [set_off (j := o + j * 3) (by omega), set_off (j := o + j * 3 + 1) (by omega), set_off (j := o + j * 3 + 2) (by omega)]
  exact h.1 j hj
/-- What a row's call leaves alone. -/
def Out (o : Nat) (cs cs' : List Value) : Prop := ∀ j, j < o ∨ o + 196 ≤ j → cs'[j]? = cs[j]?
theorem Out.refl (o : Nat) (cs : List Value) : Out o cs cs := fun _ _ => rfl
theorem Out.set {cs' : List Value} (h : Out o cs cs') {k : Nat} (v : Value) (h1 : o ≤ k) (h2 : k < o + 196) : Out o cs (cs'.set k v) := fun j hj => by
  rw [set_off (by omega)]
  exact h j hj
theorem Out.trans {a b c : List Value} (h : Out o a b) (k : Out o b c) : Out o a c := fun j hj => (k j hj).trans (h j hj)
end
/-- The cells behind o are the row l. -/
def RowM (cs : List Value) (o : Nat) (l : List Nat) : Prop := ∃ A, RowC cs o A l.length ∧ RW A l
theorem RowM.same {cs cs' : List Value} {o : Nat} {l : List Nat} (h : RowM cs o l) (he : ∀ j, o ≤ j → j < o + 196 → cs'[j]? = cs[j]?) : RowM cs' o l := by
  obtain ⟨A, h1, h2⟩ := h
  exact ⟨A, h1.same he, h2⟩

section
variable {w : World} {kb o : Nat} {cs : List Value} {l : List Nat}
set_option maxHeartbeats 1000000 in
theorem lhas_at (x : Int) (hB : Blk w kb 85 cs) (hM : RowM cs o l) : Calls Try.prog 49 #[.pointer (some ⟨kb, o, none⟩), .int .i64 x] w (BoolIs (hasL l x) w) := by
  obtain ⟨A, hC, hW⟩ := hM
  by_cases h0 : 0 ≤ x
  · by_cases h1 : x < 64
    · obtain ⟨s, rfl⟩ := Int.eq_ofNat_of_zero_le h0
      have hst := hW.has h0 h1
      obtain ⟨t, ht⟩ : ∃ t, s + 1 = t := ⟨_, rfl⟩
      have e1 : (s : Int) + 1 = (t : Int) := by omega
      have hc := hB.at (hC.1 t (by omega)).2.2
      have e2 : A.st t = hasL l (s : Int) := by rw [← hst, ← ht]; simp
      rw [e2] at hc
      have HT := Lib.hid ht
      have htl : t < 65 := by omega
      clear hB hC hW hst e2 ht
      go_enter Try.func49, Try.ntmps49
      go_wp2_with fail
      go_ret
      exact ⟨rfl, rfl⟩
    · have hf := hW.has_far (x := x) (by omega)
      rw [hf]
      clear hB hC hW hf
      go_enter Try.func49, Try.ntmps49
      go_wp2_with fail
      go_ret
      exact ⟨rfl, rfl⟩
  · have hf := hW.has_far (x := x) (by omega)
    rw [hf]
    clear hB hC hW hf
    go_enter Try.func49, Try.ntmps49
    go_wp2_with fail
    go_ret
    exact ⟨rfl, rfl⟩
/-- The last slot of a row. -/
def LastIs (l : List Nat) (w : World) (r : Ending) (w' : World) : Prop := r = .returned (.tuple #[.int .i64 ((l.getLast?.getD 0 : Nat) : Int), .bool l.getLast?.isSome]) ∧ w = w'
theorem llast_at (hB : Blk w kb 85 cs) (hM : RowM cs o l) : Calls Try.prog 36 #[.pointer (some ⟨kb, o, none⟩)] w (LastIs l w) := by
  obtain ⟨A, hC, hW⟩ := hM
  cases e : l.getLast? with
  | none =>
    have h0 := hB.at hC.2
    rw [List.getLast?_eq_none_iff] at e
    subst e
    clear hB hC hW
    go_enter Try.func36, Try.ntmps36
    go_wp2_with fail
    go_ret2
    exact ⟨rfl, rfl⟩
  | some s =>
    have h0 := hB.at hC.2
    have h1 := hB.at (hC.1 0 (by omega)).1
    rw [hW.last e, Nat.zero_mul, Nat.add_zero] at h1
    have hp : 0 < l.length := List.length_pos_iff.2 (by rintro rfl; simp at e)
    generalize l.length = n at h0 hp
    have hne : ((n : Int) == 0) = false := by simp; omega
    have HE : Hid (LastIs l w (.returned (.tuple #[.int .i64 (s : Int), .bool true])) w) := Lib.hid ⟨by rw [e]; rfl, rfl⟩
    have hs : s < 64 := hW.lt s (List.mem_of_getLast? e)
    clear hB hC hW e
    go_enter Try.func36, Try.ntmps36
    go_wp2_with fail
    go_ret2
    exact HE.out
/-- A row's call: the row l' instead; all else of the block lies as it lay. -/
def RowTo (kb o : Nat) (cs : List Value) (l' : List Nat) (w w' : World) : Prop := ∃ cs', Blk w' kb 85 cs' ∧ RowM cs' o l' ∧ Out o cs cs' ∧ Kept (fun k => k = kb) w w'
set_option maxHeartbeats 1000000 in
theorem llead_at (s : Nat) (hB : Blk w kb 85 cs) (hM : RowM cs o l) (hs : s < 64) (hn : s ∉ l) : Calls Try.prog 43 #[.pointer (some ⟨kb, o, none⟩), .int .i64 (s : Int)] w (fun r w' => r = .returned (.tuple #[]) ∧ RowTo kb o cs (s :: l) w w') := by
  obtain ⟨A, hC, hW⟩ := hM
  have hW' := hW.lead s hs hn
  have hlen := hW'.len
  rw [List.length_cons] at hlen
  obtain ⟨n, hln⟩ : ∃ n, l.length = n := ⟨_, rfl⟩
  rw [hln] at hlen hC
  obtain ⟨t, ht⟩ : ∃ t, s + 1 = t := ⟨_, rfl⟩
  have e1 : (s : Int) + 1 = (t : Int) := by omega
  have hb : A.be 0 ≤ 64 := by rw [hW.be0.1]; exact nx_le hW.lt _
  obtain ⟨b, eb⟩ : ∃ b, A.be 0 = b := ⟨_, rfl⟩
  rw [eb] at hb
  have htl : t ≤ 64 := by omega
  have c0 := hB.at (hC.1 0 (by omega)).2.1
  rw [eb, Nat.zero_mul, Nat.add_zero] at c0
  -- the three cells of the slot's own link
  have B1 := ((hB.put (o + t * 3) (.int .i64 ((0 : Nat) : Int))).put (o + t * 3 + 1) (.int .i64 (b : Int))).put (o + t * 3 + 2) (.bool true)
  have C1 := ((hC.setAh t htl 0).setBe t htl b).setSt t htl true
  have O1 := (((Out.refl o cs).set (k := o + t * 3) (.int .i64 ((0 : Nat) : Int)) (by omega) (by omega)).set (k := o + t * 3 + 1) (.int .i64 (b : Int)) (by omega) (by omega)).set (k := o + t * 3 + 2) (.bool true) (by omega) (by omega)
  have K1 := (((Kept.refl (fun k => k = kb) w).put (.inl rfl) (o + t * 3) (.int .i64 ((0 : Nat) : Int))).put (.inl rfl) (o + t * 3 + 1) (.int .i64 (b : Int))).put (.inl rfl) (o + t * 3 + 2) (.bool true)
  have d0 := hB.at (hC.1 t htl).1
  have d1 := hB.at (hC.1 t htl).2.1
  have d2 := hB.at (hC.1 t htl).2.2
  have f0 := hB.free (o + t * 3)
  have f1 := hB.free (o + t * 3 + 1)
  have f2 := hB.free (o + t * 3 + 2)
  obtain ⟨w1, hw1⟩ : ∃ w1, ((w.setCell ⟨kb, o + t * 3, none⟩ (.int .i64 0)).setCell ⟨kb, o + t * 3 + 1, none⟩ (.int .i64 (b : Int))).setCell ⟨kb, o + t * 3 + 2, none⟩ (.bool true) = w1 := ⟨_, rfl⟩
  have hw1' : ((w.setCell ⟨kb, o + t * 3, none⟩ (.int .i64 ((0 : Nat) : Int))).setCell ⟨kb, o + t * 3 + 1, none⟩ (.int .i64 (b : Int))).setCell ⟨kb, o + t * 3 + 2, none⟩ (.bool true) = w1 := hw1
  rw [hw1'] at B1 K1
  clear hw1'
  have g0 := B1.at (C1.1 b hb).1
  have i0 := B1.free (o + b * 3)
  have B2 := B1.put (o + b * 3) (.int .i64 (t : Int))
  have C2 := C1.setAh b hb t
  have O2 := O1.set (k := o + b * 3) (.int .i64 (t : Int)) (by omega) (by omega)
  have K2 := K1.put (.inl rfl) (o + b * 3) (.int .i64 (t : Int))
  obtain ⟨w2, hw2⟩ : ∃ w2, w1.setCell ⟨kb, o + b * 3, none⟩ (.int .i64 (t : Int)) = w2 := ⟨_, rfl⟩
  rw [hw2] at B2 K2
  have g1 := B2.at (C2.1 0 (by omega)).2.1
  have i1 := B2.free (o + 1)
  have B3 := B2.put (o + 0 * 3 + 1) (.int .i64 (t : Int))
  have C3 := C2.setBe 0 (by omega) t
  have O3 := O2.set (k := o + 0 * 3 + 1) (.int .i64 (t : Int)) (by omega) (by omega)
  have K3 := K2.put (.inl rfl) (o + 0 * 3 + 1) (.int .i64 (t : Int))
  rw [Nat.zero_mul, Nat.add_zero] at B3 C3 O3 K3 g1
  obtain ⟨w3, hw3⟩ : ∃ w3, w2.setCell ⟨kb, o + 1, none⟩ (.int .i64 (t : Int)) = w3 := ⟨_, rfl⟩
  rw [hw3] at B3 K3
  have g2 := B3.at C3.2
  have i2 := B3.free (o + 195)
  have B4 := B3.put (o + 195) (.int .i64 (((n + 1 : Nat) : Int)))
  have C4 := C3.setN (n + 1)
  have O4 := O3.set (k := o + 195) (.int .i64 ((n + 1 : Nat) : Int)) (by omega) (by omega)
  have K4 := K3.put (.inl rfl) (o + 195) (.int .i64 ((n + 1 : Nat) : Int))
  obtain ⟨w4, hw4⟩ : ∃ w4, w3.setCell ⟨kb, o + 195, none⟩ (.int .i64 ((n : Int) + 1)) = w4 := ⟨_, rfl⟩
  have hw4' : w3.setCell ⟨kb, o + 195, none⟩ (.int .i64 ((n + 1 : Nat) : Int)) = w4 := by rw [← hw4]; rfl
  rw [hw4'] at B4 K4
  have HE : Hid (RowTo kb o cs (s :: l) w w4) := Lib.hid ⟨_, B4, ⟨leadS A s, by
    have e : leadS A s = { ah := upd (upd A.ah t 0) b t, be := upd (upd A.be t b) 0 t, st := upd A.st t true } := by
      unfold leadS
      rw [ht, eb]
    rw [e, List.length_cons, hln]
    exact C4, hW'⟩, O4, K4⟩
  have hn2 : n ≤ 63 := by omega
  have hb2 : b < 65 := by omega
  have ht2 : t < 65 := by omega
  clear hw4' B1 B2 B3 B4 C1 C2 C3 C4 O1 O2 O3 O4 K1 K2 K3 K4 hB hC hW hW' hln hlen eb ht hn
  generalize A.ah t = x0 at *
  generalize A.be t = x1 at *
  generalize A.st t = x2 at *
  go_enter Try.func43, Try.ntmps43
  go_wp2_with fail
  go_end0
  exact ⟨rfl, HE.out⟩
theorem RowTo.refl (hB : Blk w kb 85 cs) (hM : RowM cs o l) : RowTo kb o cs l w w := ⟨cs, hB, hM, Out.refl _ _, Kept.refl _ _⟩
set_option maxHeartbeats 2000000 in
theorem lleave_at (x : Int) (hB : Blk w kb 85 cs) (hM : RowM cs o l) : Calls Try.prog 47 #[.pointer (some ⟨kb, o, none⟩), .int .i64 x] w (fun r w' => r = .returned (.bool (hasL l x)) ∧ RowTo kb o cs (lvL l x) w w') := by
  cases hx : hasL l x with
  | false =>
    have HE : Hid (RowTo kb o cs (lvL l x) w w) := Lib.hid (by
      unfold lvL
      rw [if_neg (by rw [hx]; simp)]
      exact RowTo.refl hB hM)
    have HH := Lib.hid (lhas_at x hB hM)
    rw [hx] at HH
    clear hB hM hx
    go_enter Try.func47, Try.ntmps47
    go_wp2_with fail
    refine HH.out.mono ?_
    rintro r w' ⟨rfl, rfl⟩
    go_wp2_with fail
    go_ret
    exact ⟨rfl, HE.out⟩
  | true =>
    have HH := Lib.hid (lhas_at x hB hM)
    rw [hx] at HH
    obtain ⟨s, rfl, hs⟩ := hasL_some hx
    have elv : lvL l (s : Int) = butL l s := by
      unfold lvL
      rw [if_pos hx]
      simp
    rw [elv]
    obtain ⟨A, hC, hW⟩ := hM
    have hW' := hW.leave hs
    have hbl := but_len hW.nd hs
    have hlen := hW.len
    have hsl := hW.lt s hs
    obtain ⟨n, hln⟩ : ∃ n, (butL l s).length = n := ⟨_, rfl⟩
    rw [hln] at hbl
    rw [← hbl] at hC
    obtain ⟨t, ht⟩ : ∃ t, s + 1 = t := ⟨_, rfl⟩
    have e1 : (s : Int) + 1 = (t : Int) := by omega
    obtain ⟨ha, hb⟩ := hW.ah_le hs
    rw [ht] at ha hb
    obtain ⟨a, ea⟩ : ∃ a, A.ah t = a := ⟨_, rfl⟩
    obtain ⟨b, eb⟩ : ∃ b, A.be t = b := ⟨_, rfl⟩
    rw [ea] at ha
    rw [eb] at hb
    have htl : t ≤ 64 := by omega
    have d0 := hB.at (hC.1 t htl).1
    have d1 := hB.at (hC.1 t htl).2.1
    have d2 := hB.at (hC.1 t htl).2.2
    rw [ea] at d0
    rw [eb] at d1
    obtain ⟨v, ev⟩ : ∃ v, A.st t = v := ⟨_, rfl⟩
    rw [ev] at d2
    obtain ⟨lb, hlb⟩ : ∃ lb, w.heap.size = lb := ⟨_, rfl⟩
    have hkb : kb ≠ lb := by
      have := lt_of_block hB
      omega
    obtain ⟨wa, hwa⟩ : ∃ wa, w.alloc (.cells #[.int .i64 (a : Int), .int .i64 (b : Int), .bool v] 80) = wa := ⟨_, rfl⟩
    have BL : Blk wa lb 80 [.int .i64 (a : Int), .int .i64 (b : Int), .bool v] := by
      rw [← hwa, ← hlb]
      exact heap_alloc_new w _
    have BA : Blk wa kb 85 cs := by
      rw [← hwa]
      exact hB.up ((Below.refl w.heap.size w).alloc (Nat.le_refl _) _) (lt_of_block hB)
    have l0 := BL.cell 0 (by simp)
    have l1 := BL.cell 1 (by simp)
    have g0 := BA.at (hC.1 a ha).2.1
    have i0 := BA.free (o + a * 3 + 1)
    have KA : Kept (fun k => k = kb) w wa := by
      rw [← hwa]
      exact (Kept.refl _ w).alloc _
    -- the one ahead of it
    have B1 : Blk (wa.setCell ⟨kb, o + a * 3 + 1, none⟩ (.int .i64 (b : Int))).drew kb 85 _ := BA.put (o + a * 3 + 1) (.int .i64 (b : Int))
    have C1 := hC.setBe a ha b
    have O1 := (Out.refl o cs).set (k := o + a * 3 + 1) (.int .i64 (b : Int)) (by omega) (by omega)
    have K1 := (KA.put (.inl rfl) (o + a * 3 + 1) (.int .i64 (b : Int))).drew
    have L1 : Blk (wa.setCell ⟨kb, o + a * 3 + 1, none⟩ (.int .i64 (b : Int))).drew lb 80 _ := (kept_put wa kb (o + a * 3 + 1) (.int .i64 (b : Int))).blk BL (fun e => hkb e.symm)
    obtain ⟨w1, hw1⟩ : ∃ w1, (wa.setCell ⟨kb, o + a * 3 + 1, none⟩ (.int .i64 (b : Int))).drew = w1 := ⟨_, rfl⟩
    rw [hw1] at B1 K1 L1
    have l2 := L1.cell 0 (by simp)
    have l3 := L1.cell 1 (by simp)
    have g1 := B1.at (C1.1 b hb).1
    have i1 := B1.free (o + b * 3)
    -- the one behind it
    have B2 : Blk (w1.setCell ⟨kb, o + b * 3, none⟩ (.int .i64 (a : Int))).drew kb 85 _ := B1.put (o + b * 3) (.int .i64 (a : Int))
    have C2 := C1.setAh b hb a
    have O2 := O1.set (k := o + b * 3) (.int .i64 (a : Int)) (by omega) (by omega)
    have K2 := (K1.put (.inl rfl) (o + b * 3) (.int .i64 (a : Int))).drew
    obtain ⟨w2, hw2⟩ : ∃ w2, (w1.setCell ⟨kb, o + b * 3, none⟩ (.int .i64 (a : Int))).drew = w2 := ⟨_, rfl⟩
    rw [hw2] at B2 K2
    -- its own link
    have m0 := B2.at (C2.1 t htl).1
    have m1 := B2.at (C2.1 t htl).2.1
    have m2 := B2.at (C2.1 t htl).2.2
    have f0 := B2.free (o + t * 3)
    have f1 := B2.free (o + t * 3 + 1)
    have f2 := B2.free (o + t * 3 + 2)
    have B3 := ((B2.put (o + t * 3) (.int .i64 ((0 : Nat) : Int))).put (o + t * 3 + 1) (.int .i64 ((0 : Nat) : Int))).put (o + t * 3 + 2) (.bool false)
    have C3 := ((C2.setAh t htl 0).setBe t htl 0).setSt t htl false
    have O3 := ((O2.set (k := o + t * 3) (.int .i64 ((0 : Nat) : Int)) (by omega) (by omega)).set (k := o + t * 3 + 1) (.int .i64 ((0 : Nat) : Int)) (by omega) (by omega)).set (k := o + t * 3 + 2) (.bool false) (by omega) (by omega)
    have K3 := ((K2.put (.inl rfl) (o + t * 3) (.int .i64 ((0 : Nat) : Int))).put (.inl rfl) (o + t * 3 + 1) (.int .i64 ((0 : Nat) : Int))).put (.inl rfl) (o + t * 3 + 2) (.bool false)
    obtain ⟨w3, hw3⟩ : ∃ w3, ((w2.setCell ⟨kb, o + t * 3, none⟩ (.int .i64 0)).setCell ⟨kb, o + t * 3 + 1, none⟩ (.int .i64 0)).setCell ⟨kb, o + t * 3 + 2, none⟩ (.bool false) = w3 := ⟨_, rfl⟩
    have hw3' : ((w2.setCell ⟨kb, o + t * 3, none⟩ (.int .i64 ((0 : Nat) : Int))).setCell ⟨kb, o + t * 3 + 1, none⟩ (.int .i64 ((0 : Nat) : Int))).setCell ⟨kb, o + t * 3 + 2, none⟩ (.bool false) = w3 := hw3
    rw [hw3'] at B3 K3
    have g2 := B3.at C3.2
    have i2 := B3.free (o + 195)
    have B4 := B3.put (o + 195) (.int .i64 (n : Int))
    have C4 := C3.setN n
    have O4 := O3.set (k := o + 195) (.int .i64 (n : Int)) (by omega) (by omega)
    have K4 := K3.put (.inl rfl) (o + 195) (.int .i64 (n : Int))
    obtain ⟨w4, hw4⟩ : ∃ w4, w3.setCell ⟨kb, o + 195, none⟩ (.int .i64 (n : Int)) = w4 := ⟨_, rfl⟩
    rw [hw4] at B4 K4
    have HE : Hid (RowTo kb o cs (butL l s) w w4) := Lib.hid ⟨_, B4, ⟨leaveS A s, by
      have e : leaveS A s = { ah := upd (upd A.ah b a) t 0, be := upd (upd A.be a b) t 0, st := upd A.st t false } := by
        unfold leaveS
        rw [ht, ea, eb]
      rw [e, hln]
      exact C4, hW'⟩, O4, K4⟩
    have hn2 : n ≤ 63 := by omega
    have ha2 : a < 65 := by omega
    have hb2 : b < 65 := by omega
    have ht2 : t < 65 := by omega
    have e3 : (((n + 1 : Nat) : Int)) = (n : Int) + 1 := by omega
    have e2 : (n : Int) + 1 - 1 = (n : Int) := by omega
    rw [e3] at g2
    clear hw3' B1 B2 B3 B4 C1 C2 C3 C4 O1 O2 O3 O4 K1 K2 K3 K4 KA L1 BL BA hB hC hW hW' hln hlen hbl eb ea ev ht hs elv hx e3
    generalize upd A.be a b t = x1 at *
    generalize upd A.ah b a t = x0 at *
    generalize A.st t = x2 at *
    go_enter Try.func47, Try.ntmps47
    go_wp2_with fail
    refine HH.out.mono ?_
    rintro r w' ⟨rfl, rfl⟩
    go_wp2_with fail
    go_region
    go_wp2_with fail
    go_region
    go_wp2_with fail
    go_ret
    exact ⟨rfl, HE.out⟩
end
end Go.Proofs.Ytmoagooabmmmgaa
