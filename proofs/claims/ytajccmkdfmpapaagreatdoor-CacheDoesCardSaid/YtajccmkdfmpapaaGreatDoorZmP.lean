/-
  Rows of numbers compared.
  The law's own: awake.
-/
import Derived.Test.YtajccmkdfmpapaaGreatDoorZmC
import Derived.Test.YtajccmkdfmpapaaGreatDoorLcO
import Derived.Test.YtajccmkdfmpapaaGreatDoorLcK
namespace Go.Proofs.YtajccmkdfmpapaaGreatDoor
open Go.RowKit

/-- Are numbers the same? -/
theorem rsame_len {A A2 : Option Addr} {n m c c2 : Nat} {w : World} (h : n ≠ m) : Calls Tryz.prog 16 #[.slice A n c, .slice A2 m c2] w (BoolB false w) := by
  have q : ((n : Int) == (m : Int)) = false := by simp; omega
  go_enter Tryz.func16, Tryz.ntmps16
  go_wp2_with fail
  go_ret
  exact ⟨rfl, Below.refl _ _⟩
theorem same_step {xs ys : List Int} {k : Nat} (h1 : k < xs.length) (h2 : k < ys.length) (h : xs.take k = ys.take k) (he : xs[k] = ys[k]) : xs.take (k + 1) = ys.take (k + 1) := by
  rw [List.take_succ_eq_append_getElem h1, List.take_succ_eq_append_getElem h2, h, he]
theorem same_no {xs ys : List Int} {k : Nat} (h1 : k < xs.length) (h2 : k < ys.length) (he : xs[k] ≠ ys[k]) : decide (xs = ys) = false := by
  simp only [decide_eq_false_iff_not]
  rintro rfl
  exact he rfl
set_option maxHeartbeats 1000000 in
theorem rsame_eq {A A2 : Option Addr} {xs ys : List Int} {c c2 : Nat} {w : World} (hr : RdV w w.heap.size A (iCells xs)) (hr2 : RdV w w.heap.size A2 (iCells ys)) (hl : ys.length = xs.length) (hn : xs.length ≤ 20000) : Calls Tryz.prog 16 #[.slice A xs.length c, .slice A2 xs.length c2] w (BoolB (decide (xs = ys)) w) := by
  have HR := Lib.hid hr
  have HR2 := Lib.hid hr2
  have HL := Lib.hid hl
  clear hr hr2 hl
  go_enter Tryz.func16, Tryz.ntmps16
  go_wp2_with fail
  go_loopg [5] xs.length (fun n i wr => ∃ k : Nat, k ≤ xs.length ∧ n = xs.length - k ∧ i = .int .i64 k ∧ xs.take k = ys.take k ∧ Below w.heap.size w wr)
  case atStart => exact ⟨0, by omega, by omega, rfl, rfl, Below.refl _ _⟩
  case round =>
    obtain ⟨k, hk, hm, rfl, ht, hb⟩ := hrel
    have HB := Lib.hid hb
    have HM := Lib.hid hm
    have HT := Lib.hid ht
    clear hb hm ht
    by_cases hlt : k < xs.length
    · have hlt2 : k < ys.length := by rw [HL.out]; exact hlt
      obtain ⟨b, o, rfl, hbl, hcell⟩ := (HR.out.below HB.out) (by rw [iCells_len]; omega)
      obtain ⟨b2, o2, rfl, hbl2, hcell2⟩ := (HR2.out.below HB.out) (by rw [iCells_len]; omega)
      have c0 := rdv_i (B := 0) hcell k hlt
      have c1 := rdv_i (B := 0) hcell2 k hlt2
      clear hcell hcell2
      by_cases he : xs[k] = ys[k]
      · have HS := Lib.hid (same_step hlt hlt2 HT.out he)
        rw [← he] at c1
        have q : (xs[k] == xs[k]) = true := by simp
        go_wp2_with fail
        go_region
        go_wp2_with fail
        go_roundg (xs.length - (k + 1))
        case rel => exact ⟨k + 1, by omega, rfl, by go_num, HS.out, HB.out.drew⟩
        case measure => have := HM.out; omega
      · have HS := Lib.hid (same_no hlt hlt2 he)
        have q : (xs[k] == ys[k]) = false := by simp [he]
        go_wp2_with fail
        go_region
        go_wp2_with fail
        go_ret
        exact ⟨by rw [HS.out]; rfl, HB.out.drew⟩
    · obtain rfl : k = xs.length := by omega
      have HS : Hid (decide (xs = ys) = true) := Lib.hid (by
        have := HT.out
        rw [List.take_length, ← HL.out, List.take_length] at this
        simpa using this)
      go_wp2_with fail
      go_ret
      exact ⟨by rw [HS.out]; rfl, HB.out⟩
theorem rsame_is {A A2 : Option Addr} {xs ys : List Int} {n m c c2 : Nat} {w : World} (hr : RdV w w.heap.size A (iCells xs)) (hr2 : RdV w w.heap.size A2 (iCells ys)) (hl : xs.length = n) (hl2 : ys.length = m) (hn : n ≤ 20000) : Calls Tryz.prog 16 #[.slice A n c, .slice A2 m c2] w (BoolB (decide (xs = ys)) w) := by
  subst hl hl2
  by_cases h : xs.length = ys.length
  · have := rsame_eq (c := c) (c2 := c2) hr hr2 h.symm hn
    rwa [h] at this ⊢
  · have e : decide (xs = ys) = false := by
      simp only [decide_eq_false_iff_not]
      rintro rfl
      exact h rfl
    rw [e]
    exact rsame_len h
end Go.Proofs.YtajccmkdfmpapaaGreatDoor
namespace Go.Proofs.YtajccmkdfmpapaaGreatDoor
open Go.RowKit

/-- A cache of the call's own. -/
structure LcW (w0 w : World) (cb kb ib eb : Nat) (S : CaS) : Prop where
  m : ∃ σ, LcC w cb kb ib eb σ S
  ge : w0.heap.size ≤ kb
  old : Below w0.heap.size w0 w
theorem LcW.up {w0 w w' : World} {cb kb ib eb : Nat} {S : CaS} (h : LcW w0 w cb kb ib eb S) (hb : Below w.heap.size w w') : LcW w0 w' cb kb ib eb S := by
  obtain ⟨⟨σ, hm⟩, h2, h3⟩ := h
  exact ⟨⟨σ, hm.up hb⟩, h2, below_all h3 hb⟩
theorem LcW.to {w0 w w' : World} {cb kb ib eb : Nat} {S S' : CaS} {v : Value} {r : Ending} (h : LcW w0 w cb kb ib eb S) (ht : LcTo cb kb ib eb v S' w r w') : LcW w0 w' cb kb ib eb S' := by
  obtain ⟨⟨σ, hm⟩, h2, h3⟩ := h
  have hne := hm.ne
  obtain ⟨_, hm', hk⟩ := ht
  exact ⟨hm', h2, h3.trans (hk.below h3.size (fun k e => by unfold lcF at e; omega))⟩
theorem LcW.lt {w0 w : World} {cb kb ib eb : Nat} {S : CaS} (h : LcW w0 w cb kb ib eb S) : w0.heap.size ≤ kb ∧ kb < ib ∧ ib < eb ∧ eb < cb ∧ cb < w.heap.size := by
  obtain ⟨⟨σ, hm⟩, h2, h3⟩ := h
  exact ⟨h2, hm.ne.1, hm.ne.2.1, hm.ne.2.2, hm.lt⟩
theorem LcW.wf {w0 w : World} {cb kb ib eb : Nat} {S : CaS} (h : LcW w0 w cb kb ib eb S) : S.WF := by
  obtain ⟨⟨σ, hm⟩, h2, h3⟩ := h
  exact hm.wf
section
variable {w0 w : World} {cb kb ib eb : Nat} {S : CaS}
def LcWTo (w0 : World) (cb kb ib eb : Nat) (v : Value) (S' : CaS) (w : World) (r : Ending) (w' : World) : Prop := r = .returned v ∧ LcW w0 w' cb kb ib eb S' ∧ Kept (lcF kb ib eb) w w'
theorem wput (x : Int) (a : Nat) (d : Bool) (h : LcW w0 w cb kb ib eb S) : Calls Tryz.prog 21 #[.pointer (some ⟨cb, 0, none⟩), .int .i64 x, .int .u32 (a : Int), .bool d] w (LcWTo w0 cb kb ib eb (.bool (S.putB x)) (S.putS x a d) w) := by
  obtain ⟨σ, hm⟩ := h.m
  exact (lcput_at x a d hm).mono fun r w' ht => ⟨ht.1, h.to ht, ht.2.2⟩
theorem wmove (x : Int) (a : Nat) (h : LcW w0 w cb kb ib eb S) : Calls Tryz.prog 24 #[.pointer (some ⟨cb, 0, none⟩), .int .i64 x, .int .u32 (a : Int)] w (LcWTo w0 cb kb ib eb (.bool (S.has x)) (S.moveS x a) w) := by
  obtain ⟨σ, hm⟩ := h.m
  exact (lcmove_at x a hm).mono fun r w' ht => ⟨ht.1, h.to ht, ht.2.2⟩
theorem wdrop (x : Int) (h : LcW w0 w cb kb ib eb S) : Calls Tryz.prog 25 #[.pointer (some ⟨cb, 0, none⟩), .int .i64 x] w (LcWTo w0 cb kb ib eb (.bool (S.has x)) (S.dropS x) w) := by
  obtain ⟨σ, hm⟩ := h.m
  exact (lcdrop_at x hm).mono fun r w' ht => ⟨ht.1, h.to ht, ht.2.2⟩
theorem wclean (t : Int) (h : LcW w0 w cb kb ib eb S) : Calls Tryz.prog 23 #[.pointer (some ⟨cb, 0, none⟩), .int .i64 t] w (LcWTo w0 cb kb ib eb (.int .i64 ((S.dirtyL t).length : Int)) (S.cleanS t) w) := by
  obtain ⟨σ, hm⟩ := h.m
  exact (lcclean_at t hm).mono fun r w' ht => ⟨ht.1, h.to ht, ht.2.2⟩
theorem wdo (d b : Int) (a : Nat) (y : Bool) (h : LcW w0 w cb kb ib eb S) : Calls Tryz.prog 8 #[.pointer (some ⟨cb, 0, none⟩), actC d b a y] w (LcWTo w0 cb kb ib eb (toldV (S.toldN d b) (S.toldB d b) (S.toldM d b)) (S.doS d b a y) w) := by
  obtain ⟨σ, hm⟩ := h.m
  exact (lcdo_at d b a y hm).mono fun r w' ht => ⟨ht.1, h.to ht, ht.2.2⟩
theorem wpeek (x : Int) (h : LcW w0 w cb kb ib eb S) : Calls Tryz.prog 22 #[.pointer (some ⟨cb, 0, none⟩), .int .i64 x] w (LcWTo w0 cb kb ib eb (LPeekV S x) S w) := by
  obtain ⟨σ, hm⟩ := h.m
  exact (lcpeek_at x hm).mono fun r w' ht => ⟨ht.1, h.up ht.2, Kept.of_below ht.2⟩
theorem wlen (h : LcW w0 w cb kb ib eb S) : Calls Tryz.prog 10 #[.pointer (some ⟨cb, 0, none⟩)] w (LcWTo w0 cb kb ib eb (.int .i64 (S.E.length : Int)) S w) := by
  obtain ⟨σ, hm⟩ := h.m
  exact (lclen_at hm).mono fun r w' ⟨h1, h2⟩ => ⟨h1, by subst h2; exact h, by subst h2; exact Kept.refl _ _⟩
theorem wvic (h : LcW w0 w cb kb ib eb S) : Calls Tryz.prog 19 #[.pointer (some ⟨cb, 0, none⟩)] w (LcWTo w0 cb kb ib eb (.tuple #[ceV (vicF S), .bool S.vicE.isSome]) S w) := by
  obtain ⟨σ, hm⟩ := h.m
  exact (lcvictim_at hm).mono fun r w' ht => ⟨ht.1, h.up ht.2, Kept.of_below ht.2⟩
/-- A row of entries, and the cache. -/
def LcWEnts (w0 : World) (cb kb ib eb : Nat) (S : CaS) (w : World) (l : List CE) (r : Ending) (w' : World) : Prop := ∃ A c, r = .returned (.slice A l.length c) ∧ RdV w' w'.heap.size A (cesC l) ∧ (A = none → c = 0) ∧ Below w.heap.size w w' ∧ LcW w0 w' cb kb ib eb S ∧ ∀ b o x, A = some ⟨b, o, x⟩ → w.heap.size ≤ b
theorem entsW {l : List CE} {r : Ending} {w' : World} (h : LcW w0 w cb kb ib eb S) (he : EntsIs l w r w') : LcWEnts w0 cb kb ib eb S w l r w' := by
  obtain ⟨v, rfl, ho, hb⟩ := he
  obtain ⟨A, c, rfl, _, _, hz⟩ := ho.form
  exact ⟨A, c, rfl, ho.rd, hz, hb, h.up hb, fun b o x e => ho.own b (by subst e; rfl)⟩
theorem wall (h : LcW w0 w cb kb ib eb S) : Calls Tryz.prog 13 #[.pointer (some ⟨cb, 0, none⟩)] w (LcWEnts w0 cb kb ib eb S w S.E) := by
  obtain ⟨σ, hm⟩ := h.m
  exact (lcall_at hm).mono fun r w' ht => entsW h ht
theorem wdirty (t : Int) (h : LcW w0 w cb kb ib eb S) : Calls Tryz.prog 14 #[.pointer (some ⟨cb, 0, none⟩), .int .i64 t] w (LcWEnts w0 cb kb ib eb S w (S.dirtyL t)) := by
  obtain ⟨σ, hm⟩ := h.m
  exact (lcdirty_at t hm).mono fun r w' ht => entsW h ht
def LcWTabs (w0 : World) (cb kb ib eb : Nat) (S : CaS) (w : World) (r : Ending) (w' : World) : Prop := ∃ A c, r = .returned (.slice A S.tabL.length c) ∧ RdV w' w'.heap.size A (iCells (nats S.tabL)) ∧ Below w.heap.size w w' ∧ LcW w0 w' cb kb ib eb S ∧ (0 < S.tabL.length → ∀ b o x, A = some ⟨b, o, x⟩ → w.heap.size ≤ b)
theorem wtables (h : LcW w0 w cb kb ib eb S) : Calls Tryz.prog 17 #[.pointer (some ⟨cb, 0, none⟩)] w (LcWTabs w0 cb kb ib eb S w) := by
  obtain ⟨σ, hm⟩ := h.m
  exact (lctables_at hm).mono fun r w' ⟨A, c, h1, h2, h3⟩ => ⟨A, c, h1, h2.rdI.1, h3, h.up h3, fun hp b o x e => by
    obtain ⟨A', c', e2, _, _, hin, _⟩ := h2
    injection e2 with e3
    subst e3
    exact hin (by rw [iCells_len, nats_len]; exact hp) b o x e⟩
end
def ca0 : CaS := ⟨[], [], [], 2⟩
def ca1 : CaS := ⟨[⟨5, 9, true⟩], [5], [], 2⟩
def ca2 : CaS := ⟨[⟨0, 7, false⟩, ⟨5, 9, true⟩], [0, 5], [], 2⟩
def ca3 : CaS := ⟨[⟨0, 7, false⟩, ⟨5, 9, false⟩], [0, 5], [], 2⟩
def ca4 : CaS := ⟨[⟨0, 3, false⟩, ⟨5, 9, false⟩], [0, 5], [], 2⟩
def ca5 : CaS := ⟨[⟨0, 3, false⟩], [0], [], 2⟩
set_option maxHeartbeats 4000000 in
set_option maxRecDepth 100000 in
theorem caawake_true (w : World) : Calls Tryz.prog 4 #[] w (BoolB true w) := by
  go_enter Tryz.func4, Tryz.ntmps4
  go_wp2_with fail
  refine (lcnew_at 2 w).mono ?_
  rintro r w1 ⟨hb, h⟩
  rw [if_pos (by omega)] at h
  obtain ⟨cb, kb, ib, eb, hge, rfl, hm⟩ := h
  have HW : Hid (LcW w w1 cb kb ib eb ca0) := Lib.hid ⟨⟨id, hm⟩, hge, hb⟩
  clear hb hge hm
  go_wp2_with fail
  refine (wput 5 9 true HW.out).mono ?_
  rintro r w2 ⟨rfl, h, _⟩
  rw [show ca0.putB 5 = true by decide]
  have HW2 : Hid (LcW w w2 cb kb ib eb ca1) := Lib.hid h
  clear h HW
  go_wp2_with fail
  refine (wput 0 7 false HW2.out).mono ?_
  rintro r w3 ⟨rfl, h, _⟩
  rw [show ca1.putB 0 = true by decide]
  have HW3 : Hid (LcW w w3 cb kb ib eb ca2) := Lib.hid h
  clear h HW2
  go_wp2_with fail
  refine (wput 1 1 false HW3.out).mono ?_
  rintro r w4 ⟨rfl, h, _⟩
  rw [show ca2.putB 1 = false by decide]
  have HW4 : Hid (LcW w w4 cb kb ib eb ca2) := Lib.hid h
  clear h HW3
  go_wp2_with fail
  refine (wvic HW4.out).mono ?_
  rintro r w5 ⟨rfl, h, _⟩
  rw [show ca2.vicE.isSome = true by decide, show ceV (vicF ca2) = .agg #[.int .i64 5, .int .u32 9, .bool true] by rfl]
  obtain ⟨w5b, hw5b⟩ : ∃ u, w5.alloc (.cells #[.int .i64 5, .int .u32 9, .bool true] 56) = u := ⟨_, rfl⟩
  obtain ⟨vb, hvb⟩ : ∃ b, w5.heap.size = b := ⟨_, rfl⟩
  have hb5 : Below w5.heap.size w5 w5b := by rw [← hw5b]; exact (Below.refl _ _).alloc (Nat.le_refl _) _
  have HV5 : Hid (Blk w5b vb 56 [.int .i64 5, .int .u32 9, .bool true]) := Lib.hid (by rw [← hw5b, ← hvb]; exact heap_alloc_new w5 _)
  have HVL : Hid (cb < vb) := Lib.hid (by rw [← hvb]; exact h.lt.2.2.2.2)
  have HW5 := Lib.hid (h.up hb5)
  clear h HW4 hb5
  go_wp2_with fail
  refine (wpeek 5 HW5.out).mono ?_
  rintro r w6 ⟨rfl, h, hk⟩
  rw [show LPeekV ca2 5 = .tuple #[.int .u32 9, .bool true] by rfl]
  have HW6 := Lib.hid h
  have HV6 := Lib.hid (hk.blk HV5.out (by have := HW5.out.lt; have := HVL.out; unfold lcF; omega))
  clear h hk HW5 HV5 hvb hw5b
  go_wp2_with fail
  refine (wtables HW6.out).mono ?_
  rintro r w7 ⟨A7, c7, rfl, hr, hb, h, _⟩
  have HW7 := Lib.hid h
  have HV7 := Lib.hid (HV6.out.up hb (lt_of_block HV6.out))
  have HT7 : Hid (RdV w7 w7.heap.size A7 (iCells [1])) := Lib.hid hr
  rw [show ca2.tabL.length = 1 by decide]
  clear h hb hr HW6 HV6
  go_wp2_with fail
  refine (wdirty 1 HW7.out).mono ?_
  rintro r w8 ⟨A8, c8, rfl, _, _, hb, h, _⟩
  have HW8 := Lib.hid h
  have hv8 := HV7.out.up hb (lt_of_block HV7.out)
  have HT8 : Hid (RdV w8 w8.heap.size A7 (iCells [1])) := Lib.hid (HT7.out.up hb)
  rw [show (ca2.dirtyL 1).length = 1 by decide]
  have v0 := hv8.cell 0 (by simp)
  have v1 := hv8.cell 1 (by simp)
  have v2 := hv8.cell 2 (by simp)
  simp only [List.getElem_cons_zero, List.getElem_cons_succ] at v0 v1 v2
  have hX9 : RdV (w8.alloc (.cells #[.int .i64 1] 3)) (w8.alloc (.cells #[.int .i64 1] 3)).heap.size (some ⟨w8.heap.size, 0, none⟩) (iCells [1]) := row_rd w8 [.int .i64 1]
  have hb9 : Below w8.heap.size w8 (w8.alloc (.cells #[.int .i64 1] 3)) := (Below.refl _ _).alloc (Nat.le_refl _) _
  have HSM := Lib.hid (rsame_is (c := c7) (c2 := 1) (HT8.out.up hb9) hX9 rfl rfl (by decide))
  have HW9 := Lib.hid (HW8.out.up hb9)
  clear h hb hv8 HW7 HV7 HT7 HT8 hX9 hb9 HW8
  go_wp2_with fail
  refine HSM.out.mono ?_
  rintro r w10 ⟨rfl, hb⟩
  simp only [decide_true]
  have HW10 := Lib.hid (HW9.out.up hb)
  clear hb HSM HW9
  go_wp2_with fail
  refine (wclean 1 HW10.out).mono ?_
  rintro r w11 ⟨rfl, h, _⟩
  rw [show (ca2.dirtyL 1).length = 1 by decide]
  have HW11 : Hid (LcW w w11 cb kb ib eb ca3) := Lib.hid h
  clear h HW10
  go_wp2_with fail
  refine (wlen HW11.out).mono ?_
  rintro r w12 ⟨rfl, h, _⟩
  rw [show ca3.E.length = 2 by decide]
  have HW12 := Lib.hid h
  clear h HW11
  go_wp2_with fail
  refine (wall HW12.out).mono ?_
  rintro r w13 ⟨A13, c13, rfl, _, _, hb, h, _⟩
  rw [show ca3.E.length = 2 by decide]
  have HW13 := Lib.hid h
  clear h hb HW12
  go_wp2_with fail
  refine (wmove 0 3 HW13.out).mono ?_
  rintro r w14 ⟨rfl, h, _⟩
  rw [show ca3.has 0 = true by decide]
  have HW14 : Hid (LcW w w14 cb kb ib eb ca4) := Lib.hid h
  clear h HW13
  go_wp2_with fail
  refine (wdrop 5 HW14.out).mono ?_
  rintro r w15 ⟨rfl, h, _⟩
  rw [show ca4.has 5 = true by decide]
  have HW15 : Hid (LcW w w15 cb kb ib eb ca5) := Lib.hid h
  clear h HW14
  go_wp2_with fail
  refine (wdrop 5 HW15.out).mono ?_
  rintro r w16 ⟨rfl, h, _⟩
  rw [show ca5.has 5 = false by decide]
  have HB := Lib.hid h.old
  clear h HW15
  go_wp2_with fail
  go_ret
  exact ⟨rfl, HB.out⟩
end Go.Proofs.YtajccmkdfmpapaaGreatDoor
