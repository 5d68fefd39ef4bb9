/-
  The cache in memory: its entries one behind the other (a range over a function): known.
-/
import Derived.Test.YtmoagooabmmmgaaLcG
import Derived.Test.YtmoagooabmmmgaaIxK
import Derived.Test.YtmoagooabmmmgaaRngG
import Derived.Deep.Cut
import Derived.TacticsInMore
import Derived.RangeFuncBox
import Derived.Shelf.Abstract
import Derived.Maps.AppendAt
namespace Go.Proofs.Ytmoagooabmmmgaa
open Go.RowKit
attribute [local go_sem] Oper.semAt_some

/-- Types of blocks that no body of a loop over entries writes to. -/
def KTy (T : TypeId) : Prop := T = 29 ∨ T = 24 ∨ T = 92
/-- What lay ahead of block NB lies as it lay, but X; and so do all blocks of those types. -/
structure KeepT (NB : Nat) (X : Nat → Prop) (A B : World) : Prop where
  size : A.heap.size ≤ B.heap.size
  block : ∀ k, k < NB → ¬ X k → B.heap[k]? = A.heap[k]?
  ty : ∀ k T cs, KTy T → Blk A k T cs → Blk B k T cs
section
variable {NB : Nat} {X : Nat → Prop} {A B C : World}
theorem KeepT.refl (A : World) : KeepT NB X A A := ⟨Nat.le_refl _, fun _ _ _ => rfl, fun _ _ _ _ h => h⟩
theorem KeepT.trans (h : KeepT NB X A B) (k : KeepT NB X B C) : KeepT NB X A C := ⟨Nat.le_trans h.size k.size, fun i hi hn => (k.block i hi hn).trans (h.block i hi hn), fun i T cs ht hb => k.ty i T cs ht (h.ty i T cs ht hb)⟩
theorem KeepT.putObj {l : Nat} {o : Obj} (o' : Obj) (hl : NB ≤ l) (h : A.heap[l]? = some o) (ho : o.isCells = false) : KeepT NB X A (A.putObj l o') :=
  ⟨by simp, fun k hk _ => World.putObj_heap_other (by omega), fun k T cs _ hb => by
    have : k ≠ l := fun e => by
      subst e
      unfold Blk at hb
      rw [hb] at h
      rw [← Option.some.inj h] at ho
      simp [Obj.isCells] at ho
    exact (World.putObj_heap_other this).trans hb⟩
theorem KeepT.of_below (hN : NB ≤ A.heap.size) (h : Below A.heap.size A B) : KeepT NB X A B := ⟨h.size, fun k hk _ => h.block k (by omega), fun k T cs _ hb => hb.up h (lt_of_block hb)⟩
theorem KeepT.grown {row : Option Nat} (hN : NB ≤ A.heap.size) (h : A.grownBy B row) (hr : ∀ g, row = some g → (X g ∨ NB ≤ g) ∧ ∃ T cs, Blk A g T cs ∧ ¬ KTy T) : KeepT NB X A B :=
  ⟨h.size, fun k hk hn => h.block k (by omega) (fun e => by
    rcases (hr k e.symm).1 with h1 | h1
    · exact hn h1
    · omega), fun k T cs ht hb => by
    refine (h.block k (lt_of_block hb) (fun e => ?_)).trans hb
    obtain ⟨_, T2, cs2, hb2, hn⟩ := hr k e.symm
    unfold Blk at hb hb2
    rw [hb] at hb2
    have := Option.some.inj hb2
    injection this with _ e2
    subst e2
    exact hn ht⟩
theorem KeepT.blk {k : Nat} {T : TypeId} {cs : List Value} (h : KeepT NB X A B) (hb : Blk A k T cs) (h1 : k < NB) (h2 : ¬ X k) : Blk B k T cs := (h.block k h1 h2).trans hb
theorem KeepT.cell {k : Nat} {T : TypeId} {cs : List Value} {i : Nat} (h : KeepT NB X A B) (ht : KTy T) (hb : Blk A k T cs) : B.cell? ⟨k, i, none⟩ = A.cell? ⟨k, i, none⟩ := by
  have h2 := h.ty k T cs ht hb
  rw [cell_of_row _ k i cs.toArray T (0, 0) h2, cell_of_row _ k i cs.toArray T (0, 0) hb]
theorem KeepT.ix {ib : Nat} {I : IxS} (h : KeepT NB X A B) (hi : IxM A ib I) (h1 : ib < NB) (h2 : ¬ X ib) : IxM B ib I := by
  obtain ⟨⟨cs, T, hC, hT⟩, hw⟩ := hi
  exact ⟨⟨cs, T, ⟨h.blk hC.b h1 h2, hC.len, hC.r, hC.m, hC.p⟩, hT⟩, hw⟩
end
/-- What known leans on. -/
structure KnSt (u : World) (cb kb ib eb PB : Nat) (σ : Nat → Nat) (S : CaS) : Prop where
  b : Blk u cb 64 [.pointer (some ⟨kb, 0, none⟩), .pointer (some ⟨ib, 0, none⟩), .slice (some ⟨eb, 0, none⟩) S.n S.n]
  x : IxM u ib (ixs σ S)
  p : Blk u PB 24 [.pointer (some ⟨cb, 0, none⟩)]
theorem KnSt.keep {NB : Nat} {X : Nat → Prop} {A B : World} {cb kb ib eb PB : Nat} {σ : Nat → Nat} {S : CaS} (h : KnSt A cb kb ib eb PB σ S) (hk : KeepT NB X A B) (h1 : cb < NB) (h2 : ¬ X cb) (h3 : ib < NB) (h4 : ¬ X ib) : KnSt B cb kb ib eb PB σ S :=
  ⟨hk.blk h.b h1 h2, hk.ix h.x h3 h4, hk.ty _ _ _ (.inr (.inl rfl)) h.p⟩
theorem KnSt.up {A B : World} {cb kb ib eb PB : Nat} {σ : Nat → Nat} {S : CaS} (h : KnSt A cb kb ib eb PB σ S) (hb : Below A.heap.size A B) : KnSt B cb kb ib eb PB σ S := ⟨h.b.up hb (lt_of_block h.b), h.x.up hb, h.p.up hb (lt_of_block h.p)⟩
def encP (σ : Nat → Nat) (eb : Nat) (e : CE) : Array Value := #[.pointer (some ⟨eb, σ e.b * 3, none⟩)]
/-- x comes behind pre in L. -/
def Nxt (L : List CE) (pre : List CE) (x : CE) : Prop := ∃ post, pre ++ x :: post = L
theorem keys_prsE (σ : Nat → Nat) (L : List CE) : keysL (prsE σ L) = L.map CE.b := by
  unfold keysL prsE
  rw [List.map_map]
  rfl
set_option maxHeartbeats 2000000 in
set_option maxRecDepth 100000 in
theorem lknownA_in {cb kb ib eb PB NB : Nat} {X : Nat → Prop} {σ : Nat → Nat} {S : CaS} (hsl : ∀ e ∈ S.E, σ e.b < S.n) (hwf : S.WF) (h1 : cb < NB) (h2 : ¬ X cb) (h3 : ib < NB) (h4 : ¬ X ib) (ly : Nat) (J : List CE → World → Prop) (W : World) (hN : NB ≤ W.heap.size) (hJ : OwnFrom W.heap.size J)
    (hY : ∀ pre x W1, J pre W1 → Nxt S.E pre x → YieldAt Fence.wide 1 Try.prog ly (encP σ eb x) W1 fun e W' => e = .returned (.bool true) ∧ J (pre ++ [x]) W' ∧ KeepT NB X W1 W' ∧ KeepsOthers W1 W')
    (h0 : J [] W) (hst : KnSt W cb kb ib eb PB σ S) :
    Calls Try.prog 39 #[.func (.yield ly) #[] #[], .pointer (some ⟨PB, 0, none⟩)] W fun e W' => (∃ v, e = .returned v) ∧ ∃ xs, xs = S.E ∧ J xs W' := by
  have HY := Lib.hid hY
  have HJ := Lib.hid hJ
  have HK := Lib.hid (And.intro h1 (And.intro h2 (And.intro h3 h4)))
  have HX := Lib.hid (xkeysT_at hst.x)
  have HSL := Lib.hid hsl
  have HST := Lib.hid hst
  have HN := Lib.hid hN
  have H0 := Lib.hid h0
  have hn64 := hwf.n64
  have hle := hwf.le
  have HWF := Lib.hid hwf
  have pb := hst.p.cell 0 (by simp)
  have cb1 := hst.b.cell 1 (by simp)
  simp only [List.getElem_cons_zero, List.getElem_cons_succ] at pb cb1
  obtain ⟨n, hn⟩ : ∃ n, S.E.length = n := ⟨_, rfl⟩
  have hkl : (keysL (ixs σ S).L).length = n := by rw [← hn]; simp [keysL, ixs, prsE]
  have HKL := Lib.hid hkl
  have HLN := Lib.hid hn
  have HKE : Hid (keysL (ixs σ S).L = S.E.map CE.b) := Lib.hid (keys_prsE σ S.E)
  obtain ⟨R, hR⟩ : ∃ R, S.n = R := ⟨_, rfl⟩
  have HR := Lib.hid hR
  rw [hn, hR] at hle
  rw [hR] at hn64
  clear hY hJ h1 h2 h3 h4 hst hsl hwf hN h0 hn hkl hR
  go_enter Try.func39, Try.ntmps39
  go_wp2_with fail
  refine HX.out.mono ?_
  rintro r w1 ⟨A, c, rfl, hF, hb, hty⟩
  rw [HKL.out] at hF ⊢
  rw [HKE.out] at hF
  have HB1 := Lib.hid hb
  have HF := Lib.hid hF
  have HTY := Lib.hid hty
  have HJ1 := Lib.hid (OwnFrom.step HJ.out H0.out hb)
  have hsz1 := hb.size
  have HN1 : Hid (NB ≤ w1.heap.size) := Lib.hid (by have := HN.out; omega)
  have HS1 := Lib.hid (HST.out.up hb)
  have HRD : Hid (RdV w1 w1.heap.size A (uC (S.E.map CE.b))) := Lib.hid (by
    obtain ⟨A', c', e, _, hr, _⟩ := hF
    injection e with e1
    subst e1
    exact hr)
  clear hF hb hty HX H0 pb cb1
  go_wp2_with fail
  go_loopg [13] n (fun q x wr => ∃ j : Nat, j ≤ n ∧ q = n - j ∧ x = .int .i64 (j : Int) ∧ J (S.E.take j) wr ∧ KeepT NB X w1 wr)
  case atStart => exact ⟨0, by omega, rfl, rfl, HJ1.out, KeepT.refl _⟩
  case round =>
    clear HJ1
    obtain ⟨j, hj, hq, rfl, hjp, hkr⟩ := hrel
    have HQ := Lib.hid hq
    have HJP := Lib.hid hjp
    have HKR := Lib.hid hkr
    clear hq hjp hkr
    by_cases hlt : j < n
    · have hll : j < S.E.length := by rw [HLN.out]; exact hlt
      obtain ⟨b, o, hA, hbl, hcell⟩ := HRD.out (by rw [uC_len, List.length_map, HLN.out]; omega)
      subst hA
      obtain ⟨e, he⟩ : ∃ e, S.E[j] = e := ⟨_, rfl⟩
      have HM : Hid (e ∈ S.E) := Lib.hid (by rw [← he]; exact List.getElem_mem hll)
      have HTK : Hid (S.E.take (j + 1) = S.E.take j ++ [e]) := Lib.hid (by rw [List.take_succ_eq_append_getElem hll, he])
      have HNX : Hid (Nxt S.E (S.E.take j) e) := Lib.hid ⟨S.E.drop (j + 1), by rw [← he, List.getElem_cons_drop, List.take_append_drop]⟩
      have kc : wr.cell? ⟨b, o + j, none⟩ = some (.int .u32 (e.b : Int)) := by
        obtain ⟨cs, hB⟩ := HTY.out b o none rfl
        rw [HKR.out.cell (.inl rfl) hB, hcell j (by rw [uC_len, List.length_map]; exact hll)]
        simp [uC, he]
      have HSR := Lib.hid (HS1.out.keep HKR.out HK.out.1 HK.out.2.1 HK.out.2.2.1 HK.out.2.2.2)
      have pb := HSR.out.p.cell 0 (by simp)
      have cb1 := HSR.out.b.cell 1 (by simp)
      simp only [List.getElem_cons_zero, List.getElem_cons_succ] at pb cb1
      have HG := Lib.hid (xget_at e.b HSR.out.x)
      have hsn : σ e.b < R := by have := HSL.out e HM.out; rw [HR.out] at this; exact this
      have hhas : S.has (e.b : Int) = true := CaS.mem_has HM.out rfl
      have HGV : Hid ((ixs σ S).getN e.b = (σ e.b : Int) ∧ (ixs σ S).has e.b = true) := Lib.hid ⟨by rw [ixs_get, slotOf_yes (e := e) hhas (by simp)], by rw [ixs_has, hhas]⟩
      have HYY := Lib.hid (fun w' hj => HY.out (S.E.take j) e w' hj HNX.out)
      unfold encP at HYY
      obtain ⟨s, hs⟩ : ∃ s, σ e.b = s := ⟨_, rfl⟩
      rw [hs] at hsn HGV HYY
      obtain ⟨k, hk⟩ : ∃ k, e.b = k := ⟨_, rfl⟩
      rw [hk] at kc HG HGV
      clear hcell he hs hk hhas HNX
      go_wp2_with fail
      refine HG.out.mono ?_
      rintro r w4 ⟨rfl, hb⟩
      rw [HGV.out.1, HGV.out.2]
      have HK4 : Hid (KeepT NB X w1 w4) := Lib.hid (HKR.out.trans (KeepT.of_below (by have := HKR.out.size; have := HN1.out; omega) hb))
      have HJ4 := Lib.hid (OwnFrom.step HJ.out HJP.out hb)
      have HS4 := Lib.hid (HSR.out.up hb)
      have pb4 := HS4.out.p.cell 0 (by simp)
      have cb4 := HS4.out.b.cell 2 (by simp)
      rw [HR.out] at cb4
      simp only [List.getElem_cons_zero, List.getElem_cons_succ] at pb4 cb4
      clear hb HG HKR HSR HJP pb cb1 kc
      go_upto_region 4 with fail
      obtain ⟨fn, tmps, assign, body, hy, hRI⟩ := HYY.out w4 HJ4.out
      have HRI := Lib.hid hRI
      clear hRI
      refine (wpIn_wide (n := 2)).1 ?_
      gi_wp2
      refine HRI.out.mono ?_
      rintro e' w5 ⟨rfl, hj5, hk5, hko5⟩
      have HJ5 : Hid (J (S.E.take (j + 1)) w5) := Lib.hid (by rw [HTK.out]; exact hj5)
      have HK5 := Lib.hid (HK4.out.trans hk5)
      clear hj5 hk5 hko5 HRI hy HYY HJ4 HS4 pb4 cb4 HK4
      gi_wp2
      go_wp2_with fail
      go_roundg (n - (j + 1))
      case rel => exact ⟨j + 1, by omega, rfl, by go_num, HJ5.out, HK5.out⟩
      case measure => have := HQ.out; omega
    · obtain rfl : j = n := by omega
      have HE : Hid (J S.E wr) := Lib.hid (by
        have := HJP.out
        rwa [← HLN.out, List.take_length] at this)
      clear HJP HKR
      go_wp2_with fail
      go_end0
      exact ⟨⟨_, rfl⟩, S.E, rfl, HE.out⟩
end Go.Proofs.Ytmoagooabmmmgaa
