/-
  The map of first places, the closure that seeks in it, what is a link, and the heads from the last one on.
-/
import Derived.Test.YtckkgjggoopjiaaChB
import Derived.Test.YtckkgjggoopjiaaRngM
import Derived.Deep.Cut
import Derived.OwnWalkIn
import Derived.TacticsInMore
import Derived.RangeFuncBox
import Derived.Shelf.Abstract
import Derived.Maps.OwnIn
namespace Go.Proofs.Ytckkgjggoopjiaa
open Go.RowKit Go.Maps
attribute [local go_sem] Oper.semAt_some

theorem cnKey : Keyed Try.prog 22 := int_keyed Try.underlying22
theorem cnZero (w : World) : (zeroValue 3).run Try.prog w = .ok (.int .i64 0) w := by kernel_rfl
theorem u32wf {q : Int} (h0 : 0 ≤ q) (h1 : q < 4294967296) : (Lit.int .u32 q).wf = true := by
  simp only [Lit.wf, Bool.and_eq_true, decide_eq_true_eq]
  refine ⟨h0, ?_⟩
  show q ≤ 4294967295
  omega
/-- The map in block B tells what M tells. -/
def MapIs (w : World) (B n : Nat) (M : Int → Option Nat) : Prop := ∃ D : DataW Unit, w.ownsMap Try.prog 22 (plainElem Try.prog 3) B n D ∧ ∀ q : Int, 0 ≤ q → q < 4294967296 → Maps.has D (.int .u32 q) = (M q).isSome ∧ D.atKey (.int .u32 q) (.lit (.int .i64 0)) = .lit (.int .i64 (((M q).getD 0 : Nat) : Int))
theorem MapIs.lt {w : World} {B n : Nat} {M : Int → Option Nat} (h : MapIs w B n M) : B < w.heap.size := by
  obtain ⟨D, h, _⟩ := h
  exact h.lt
theorem MapIs.kept {w w' : World} {B n : Nat} {M : Int → Option Nat} {row : Option Nat} (h : MapIs w B n M) (hg : w.grownBy w' row) (hne : some B ≠ row) : MapIs w' B n M := by
  obtain ⟨D, h, hq⟩ := h
  exact ⟨D, h.kept hg hne, hq⟩
theorem MapIs.up {w w' : World} {B n : Nat} {M : Int → Option Nat} (h : MapIs w B n M) (hb : Below w.heap.size w w') : MapIs w' B n M :=
  h.kept (row := none) ⟨hb.os, hb.tape, hb.output, hb.size, fun k hk _ => hb.block k hk⟩ (by simp)
theorem MapIs.made (w : World) : MapIs (w.alloc (.map #[] 0)) w.heap.size 0 (fun _ => none) :=
  ⟨_, World.ownsMap_made w _ _ _, fun q _ _ => ⟨rfl, rfl⟩⟩
theorem MapIs.mono {w : World} {B n n' : Nat} {M : Int → Option Nat} (h : MapIs w B n M) (hn : n ≤ n') : MapIs w B n' M := by
  obtain ⟨D, h, hq⟩ := h
  exact ⟨D, h.mono hn, hq⟩
theorem MapIs.same {w : World} {B n : Nat} {M M' : Int → Option Nat} (h : MapIs w B n M) (e : ∀ q, M q = M' q) : MapIs w B n M' := by
  obtain rfl : M = M' := funext e
  exact h
/-- A key is laid. -/
theorem put_is {D : DataW Unit} {M M' : Int → Option Nat} (hD : IsMap D) {k : Int} {x : Nat} (h : ∀ q : Int, 0 ≤ q → q < 4294967296 → Maps.has D (.int .u32 q) = (M q).isSome ∧ D.atKey (.int .u32 q) (.lit (.int .i64 0)) = .lit (.int .i64 (((M q).getD 0 : Nat) : Int))) (e : ∀ q, M' q = if q = k then some x else M q) :
    ∀ q : Int, 0 ≤ q → q < 4294967296 → Maps.has (D.put (.int .u32 k) (.lit (.int .i64 (x : Int)))) (.int .u32 q) = (M' q).isSome ∧ (D.put (.int .u32 k) (.lit (.int .i64 (x : Int)))).atKey (.int .u32 q) (.lit (.int .i64 0)) = .lit (.int .i64 (((M' q).getD 0 : Nat) : Int)) := by
  intro q h0 h1
  rw [e q]
  by_cases hq : q = k
  · subst hq
    rw [has_put_same hD (by exact trivial), atKey_put_same hD (by exact trivial)]
    simp
  · have hne : Lit.int .u32 q ≠ Lit.int .u32 k := fun e => by
      injection e with _ e
      exact hq e
    rw [has_put_other hne, atKey_put_other hne, if_neg hq]
    exact h q h0 h1
/-- The first place from j on of a link that has a Seq. -/
def frM (s : Int) (l : List HdS) (j : Nat) (q : Int) : Option Nat := (HdS.findL s q (l.drop j)).map (· + j)
theorem fr_end (s : Int) (l : List HdS) (q : Int) : frM s l l.length q = none := by simp [frM, HdS.findL]
theorem fr_zero (s : Int) (l : List HdS) (q : Int) : frM s l 0 q = HdS.findL s q l := by simp [frM]
theorem fr_step {s : Int} {l : List HdS} {j : Nat} (hj : j < l.length) (q : Int) : frM s l j q = if HdS.hit s q l[j] = true then some j else frM s l (j + 1) q := by
  unfold frM HdS.findL
  rw [List.drop_eq_getElem_cons hj, List.findIdx?_cons]
  split
  · simp
  · rw [Option.map_map]
    congr 1
    funext x
    simp
    omega
theorem fr_link {s : Int} {l : List HdS} {j : Nat} (hj : j < l.length) {q0 : Int} (hq : l[j].q = q0) (h : HdS.isL s l[j] = true) (q : Int) : frM s l j q = if q = q0 then some j else frM s l (j + 1) q := by
  rw [fr_step hj]
  by_cases e : q = q0
  · rw [if_pos e, if_pos]
    unfold HdS.hit
    rw [h, hq, e]
    simp
  · rw [if_neg e, if_neg]
    unfold HdS.hit
    rw [h, hq]
    simp
    exact fun h => e h.symm
theorem fr_none {s : Int} {l : List HdS} {j : Nat} (hj : j < l.length) (h : HdS.isL s l[j] = false) (q : Int) : frM s l j q = frM s l (j + 1) q := by
  rw [fr_step hj, if_neg]
  unfold HdS.hit
  rw [h]
  simp
set_option maxHeartbeats 1000000 in
theorem cnislink_at {w : World} (s k t i q : Int) : Calls Try.prog 15 #[.int .u32 s, .agg #[.int .u8 k, .int .u32 t, .int .u32 i, .int .u32 q]] w (BoolB (HdS.isL s ⟨k, t, i, q⟩) w) := by
  have hb1 : Below w.heap.size w (w.alloc (.cells #[.int .u8 k, .int .u32 t, .int .u32 i, .int .u32 q] 34)) := (Below.refl _ _).alloc (Nat.le_refl _) _
  have HB := Lib.hid hb1
  have hx : Blk (w.alloc (.cells #[.int .u8 k, .int .u32 t, .int .u32 i, .int .u32 q] 34)) w.heap.size 34 [.int .u8 k, .int .u32 t, .int .u32 i, .int .u32 q] := heap_alloc_new w _
  have z0 := hx.cell 0 (by simp)
  have z1 := hx.cell 1 (by simp)
  simp only [List.getElem_cons_zero, List.getElem_cons_succ] at z0 z1
  obtain ⟨w1, hw1⟩ : ∃ w1, w.alloc (.cells #[.int .u8 k, .int .u32 t, .int .u32 i, .int .u32 q] 34) = w1 := ⟨_, rfl⟩
  rw [hw1] at z0 z1 HB
  clear hb1 hx
  have HL : Hid (HdS.isL s ⟨k, t, i, q⟩ = decide (t = s ∧ (k = 1 ∨ k = 2))) := Lib.hid rfl
  by_cases h1 : k = 1
  · have q1 : (k == 1) = true := by simpa using h1
    have HE : Hid (HdS.isL s ⟨k, t, i, q⟩ = (t == s)) := Lib.hid (by
      rw [HL.out]
      by_cases e : t = s <;> simp [h1, e])
    clear h1 HL
    go_enter Try.func15, Try.ntmps15
    go_wp2_with fail
    go_ret
    exact ⟨ret_bool HE.out.symm, HB.out⟩
  · have q1 : (k == 1) = false := by simpa using h1
    by_cases h2 : k = 2
    · have q2 : (k == 2) = true := by simpa using h2
      have HE : Hid (HdS.isL s ⟨k, t, i, q⟩ = (t == s)) := Lib.hid (by
        rw [HL.out]
        by_cases e : t = s <;> simp [h2, e])
      clear h1 h2 HL
      go_enter Try.func15, Try.ntmps15
      go_wp2_with fail
      go_ret
      exact ⟨ret_bool HE.out.symm, HB.out⟩
    · have q2 : (k == 2) = false := by simpa using h2
      have HE : Hid (HdS.isL s ⟨k, t, i, q⟩ = false) := Lib.hid (by
        rw [HL.out]
        simp [h1, h2])
      clear h1 h2 HL
      go_enter Try.func15, Try.ntmps15
      go_wp2_with fail
      go_ret
      exact ⟨ret_bool HE.out.symm, HB.out⟩
/-- A place, and whether there is one. -/
def SeekIs (o : Option Nat) (w : World) (r : Ending) (w' : World) : Prop := r = .returned (.tuple #[.int .i64 ((o.getD 0 : Nat) : Int), .bool o.isSome]) ∧ Below w.heap.size w w'
set_option maxHeartbeats 1000000 in
theorem cnseek_at {w : World} {XB MB n : Nat} {M : Int → Option Nat} (q : Int) (h0 : 0 ≤ q) (h1 : q < 4294967296) (hx : Boxed w XB 43 (.map (some MB))) (hm : MapIs w MB n M) : Calls Try.prog 16 #[.int .u32 q, .pointer (some ⟨XB, 0, none⟩)] w (SeekIs (M q) w) := by
  obtain ⟨D, hown, hq⟩ := hm
  obtain ⟨ha, hb⟩ := hq q h0 h1
  have hx0 := hx.cell
  have HO := Lib.hid hown
  have HA := Lib.hid ha
  have HB := Lib.hid hb
  have HW := Lib.hid (u32wf h0 h1)
  clear hown hq ha hb hx h0 h1
  go_enter Try.func16, Try.ntmps16
  go_wp2_with (first
    | (at_lookup; refine wpList_lookup_own_ok_int _ rfl _ _ 43 rfl 22 3 .i64 cnKey Try.underlying43 Try.underlying3 (cnZero _) MB n D rfl HO.out _ _ rfl (keyOf_int_mk Try.underlying22 HW.out) ?_; intro c hat hwc; have HC := Lib.hid (hat.symm.trans HB.out); clear hat hwc)
    | fail)
  go_ret2
  have e := HC.out
  injection e with e
  injection e with _ e
  refine ⟨?_, Below.refl _ _⟩
  rw [e, HA.out]
  rfl
theorem cnback_at (A : Option Addr) (n c : Nat) (w : World) : Calls Try.prog 14 #[.slice A n c] w fun r w' => r = .returned (.func (.func 17) #[] #[.pointer (some ⟨w.heap.size, 0, none⟩)]) ∧ w' = w.alloc (.cells #[.slice A n c] 23) := by
  go_enter Try.func14, Try.ntmps14
  go_wp2_with fail
  go_ret
  exact ⟨rfl, rfl⟩
/-- What lay ahead of block NB lies as it lay, but block L. -/
structure KeepM (NB L : Nat) (A B : World) : Prop where
  size : A.heap.size ≤ B.heap.size
  block : ∀ k, k < NB → k ≠ L → B.heap[k]? = A.heap[k]?
theorem KeepM.refl {NB L : Nat} (A : World) : KeepM NB L A A := ⟨Nat.le_refl _, fun _ _ _ => rfl⟩
theorem KeepM.trans {NB L : Nat} {A B C : World} (h : KeepM NB L A B) (k : KeepM NB L B C) : KeepM NB L A C := ⟨Nat.le_trans h.size k.size, fun i hi hn => (k.block i hi hn).trans (h.block i hi hn)⟩
theorem KeepM.putObj {NB L : Nat} {W : World} {l : Nat} (o' : Obj) (hl : NB ≤ l) : KeepM NB L W (W.putObj l o') :=
  ⟨by simp, fun _ hk _ => World.putObj_heap_other (by omega)⟩
theorem KeepM.of_below {NB L : Nat} {A B : World} (hN : NB ≤ A.heap.size) (h : Below A.heap.size A B) : KeepM NB L A B := ⟨h.size, fun k hk _ => h.block k (by omega)⟩
theorem KeepM.grown {NB L : Nat} {A B : World} (hN : NB ≤ A.heap.size) (h : A.grownBy B (some L)) : KeepM NB L A B := ⟨h.size, fun k hk hn => h.block k (by omega) (fun e => hn (Option.some.inj e))⟩
theorem KeepM.rd {NB L B0 : Nat} {A B : World} {a : Option Addr} {vs : List Value} (h : KeepM NB L A B) (hr : RdV A B0 a vs) (h1 : B0 ≤ NB) (h2 : B0 ≤ L) : RdV B B0 a vs := by
  intro hp
  obtain ⟨b, o, e, hb, hc⟩ := hr hp
  exact ⟨b, o, e, hb, fun i hi => by rw [World.cell?_of_block (w := A) (h.block b (by omega) (by omega))]; exact hc i hi⟩
def encH (l : List HdS) (x : Nat) : Array Value := #[.int .i64 (x : Int), .agg #[.int .u8 (l.getD x ⟨0, 0, 0, 0⟩).k, .int .u32 (l.getD x ⟨0, 0, 0, 0⟩).s, .int .u32 (l.getD x ⟨0, 0, 0, 0⟩).i, .int .u32 (l.getD x ⟨0, 0, 0, 0⟩).q]]
set_option maxHeartbeats 2000000 in
set_option maxRecDepth 100000 in
theorem cnbackA_in {l : List HdS} {A : Option Addr} {n c B0 PB NB MB : Nat} (hl : l.length = n) (hn : n ≤ 400) (h0N : B0 ≤ NB) (h0M : B0 ≤ MB) (hp1 : PB < NB) (hp2 : PB ≠ MB) (ly : Nat) (J : List Nat → World → Prop) (W : World) (hr : RdV W B0 A (hsC l))
    (hY : ∀ pre x W1, J pre W1 → pre.length + x + 1 = n → YieldAt Fence.wide 1 Try.prog ly (encH l x) W1 fun e W' => e = .returned (.bool true) ∧ J (pre ++ [x]) W' ∧ KeepM NB MB W1 W')
    (h0 : J [] W) (hbox : Boxed W PB 23 (.slice A n c)) :
    Calls Try.prog 17 #[.func (.yield ly) #[] #[], .pointer (some ⟨PB, 0, none⟩)] W fun e W' => (∃ v, e = .returned v) ∧ ∃ xs : List Nat, xs.length = n ∧ J xs W' := by
  have HY := Lib.hid hY
  have H0 := Lib.hid h0
  have HBX := Lib.hid hbox
  have HR := Lib.hid hr
  have HN := Lib.hid hl
  have HK := Lib.hid (And.intro h0N (And.intro h0M (And.intro hp1 hp2)))
  have cb := hbox.cell
  have hwr : IntKind.i64.wrap ((n : Int) - 1) = (n : Int) - 1 := IntWalk.i64_in _ (by omega)
  clear hY h0 hbox hr hl h0N h0M hp1 hp2
  go_enter Try.func17, Try.ntmps17
  go_wp2_with fail
  go_loopg [3] n (fun g x wr => ∃ (m : Nat) (pre : List Nat), m ≤ n ∧ g = m ∧ pre.length + m = n ∧ x = .int .i64 ((m : Int) - 1) ∧ J pre wr ∧ KeepM NB MB W wr)
  case atStart => exact ⟨n, [], Nat.le_refl _, rfl, by simp, by go_num, H0.out, KeepM.refl _⟩
  case round =>
    clear H0 cb hwr
    obtain ⟨m, pre, hm, hg, hpl, rfl, hj, hk⟩ := hrel
    have HG := Lib.hid hg
    have HPL := Lib.hid hpl
    have HJ := Lib.hid hj
    have HKR := Lib.hid hk
    clear hg hpl hj hk
    cases m with
    | zero =>
      have HE : Hid (∃ xs : List Nat, xs.length = n ∧ J xs wr) := Lib.hid ⟨pre, HPL.out, HJ.out⟩
      clear HJ HKR HPL
      go_wp2_with fail
      go_end0
      exact ⟨⟨_, rfl⟩, HE.out⟩
    | succ m =>
      have hx : (((m + 1 : Nat) : Int) - 1) = (m : Int) := by omega
      rw [hx]
      have hml : m < l.length := by rw [HN.out]; omega
      obtain ⟨b, o, rfl, _, hcell⟩ := (HKR.out.rd HR.out HK.out.1 HK.out.2.1) (by rw [hsC_len, HN.out]; omega)
      obtain ⟨c0, c1, c2, c3⟩ := h_cells hcell m hml
      have cb : wr.cell? ⟨PB, 0, none⟩ = some (.slice (some ⟨b, o, none⟩) n c) := by
        have : Boxed wr PB 23 (.slice (some ⟨b, o, none⟩) n c) := (HKR.out.block PB HK.out.2.2.1 HK.out.2.2.2).trans HBX.out
        exact this.cell
      have HYY := Lib.hid (HY.out pre m wr HJ.out (by have := HPL.out; omega))
      have hgd : l.getD m ⟨0, 0, 0, 0⟩ = l[m] := by simp [List.getD_eq_getElem?_getD, hml]
      unfold encH at HYY
      rw [hgd] at HYY
      obtain ⟨e, he⟩ : ∃ e, l[m] = e := ⟨_, rfl⟩
      rw [he] at c0 c1 c2 c3 HYY
      obtain ⟨k0, hk0⟩ : ∃ x, e.k = x := ⟨_, rfl⟩
      obtain ⟨s0, hs0⟩ : ∃ x, e.s = x := ⟨_, rfl⟩
      obtain ⟨i0, hi0⟩ : ∃ x, e.i = x := ⟨_, rfl⟩
      obtain ⟨q0, hq0⟩ : ∃ x, e.q = x := ⟨_, rfl⟩
      rw [hk0, hs0, hi0, hq0] at HYY
      rw [hk0] at c0
      rw [hs0] at c1
      rw [hi0] at c2
      rw [hq0] at c3
      have hnm : m < n := by omega
      clear hx hcell hgd he hk0 hs0 hi0 hq0 hml
      go_upto_region 3 with fail
      obtain ⟨fn, tmps, assign, body, hy, hRR⟩ := HYY.out
      have HRI := Lib.hid hRR
      clear hRR
      refine (wpIn_wide (n := 2)).1 ?_
      gi_wp2
      refine HRI.out.mono ?_
      rintro e' w4 ⟨rfl, hj4, hk4⟩
      have HJ4 := Lib.hid hj4
      have HK4 := Lib.hid (HKR.out.trans hk4)
      have hwm : IntKind.i64.wrap ((m : Int) - 1) = (m : Int) - 1 := IntWalk.i64_in _ (by omega)
      clear hj4 hk4 HRI hy HYY HJ HKR c0 c1 c2 c3 cb
      gi_wp2
      go_wp2_with fail
      go_roundg m
      case rel => exact ⟨m, pre ++ [m], by omega, rfl, by have := HPL.out; simp; omega, by go_num, HJ4.out, HK4.out⟩
      case measure => have := HG.out; omega
end Go.Proofs.Ytckkgjggoopjiaa
