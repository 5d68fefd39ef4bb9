/-
  The seeker: the list is gone through once, from its end, and each link laid in the map.
-/
import Derived.Test.YtckkgjggoopjiaaCnA
namespace Go.Proofs.Ytckkgjggoopjiaa
open Go.RowKit Go.Maps
attribute [local go_sem] Oper.semAt_some

/-- The closure that seeks, its map told. -/
def SkIs (n : Nat) (M : Int → Option Nat) (w : World) (r : Ending) (w' : World) : Prop := (∃ XB MB, r = .returned (.func (.func 16) #[] #[.pointer (some ⟨XB, 0, none⟩)]) ∧ Boxed w' XB 43 (.map (some MB)) ∧ MapIs w' MB n M) ∧ Below w.heap.size w w'
/-- What is known in a round. -/
def RdM (s : Int) (l : List HdS) (n SB XB MB : Nat) (w : World) (ys : List Nat) (W : World) : Prop :=
  Boxed W SB 22 (.int .u32 s) ∧ Boxed W XB 43 (.map (some MB)) ∧ (ys.length ≤ n ∧ MapIs W MB ys.length (frM s l (n - ys.length))) ∧ Below w.heap.size w W
theorem rdm_own {s : Int} {l : List HdS} {n SB XB MB B : Nat} {w : World} (h1 : SB < B) (h2 : XB < B) (h3 : MB < B) (h4 : w.heap.size ≤ B) : OwnFrom B (RdM s l n SB XB MB w) := by
  rintro ys W W' row ⟨a, b, ⟨c0, c⟩, d⟩ hg hr
  have hne : ∀ k, k < B → some k ≠ row := fun k hk e => by
    have := (hr k e.symm).1
    omega
  exact ⟨a.kept hg (hne _ h1), b.kept hg (hne _ h2), ⟨c0, c.kept hg (hne _ h3)⟩, d.grown hg (by have := d.size; omega) (fun j e => by have := (hr j e).1; omega)⟩
theorem rdm_lay {s : Int} {l : List HdS} {n SB XB MB : Nat} {w W W' : World} {ys : List Nat} {x : Nat} {D : DataW Unit} {q0 : Int}
    (h1 : Boxed W SB 22 (.int .u32 s)) (h2 : Boxed W XB 43 (.map (some MB))) (h3 : Below w.heap.size w W) (hs : SB ≠ MB) (hx : XB ≠ MB) (hM : w.heap.size ≤ MB)
    (hown : W'.ownsMap Try.prog 22 (plainElem Try.prog 3) MB (ys.length + 1) (D.put (.int .u32 q0) (.lit (.int .i64 (x : Int))))) (hg : W.grownBy W' (some MB))
    (hD : IsMap D) (hq : ∀ q : Int, 0 ≤ q → q < 4294967296 → Maps.has D (.int .u32 q) = (frM s l (n - ys.length) q).isSome ∧ D.atKey (.int .u32 q) (.lit (.int .i64 0)) = .lit (.int .i64 (((frM s l (n - ys.length) q).getD 0 : Nat) : Int)))
    (hxn : ys.length + x + 1 = n) (hxl : x < l.length) (hlq : l[x].q = q0) (hlk : HdS.isL s l[x] = true) : RdM s l n SB XB MB w (ys ++ [x]) W' := by
  have e1 : n - (ys ++ [x]).length = x := by simp; omega
  have e2 : n - ys.length = x + 1 := by omega
  refine ⟨h1.kept hg (by simp [hs]), h2.kept hg (by simp [hx]), ⟨by simp; omega, ?_⟩, h3.grown hg (by have := h3.size; omega) (fun j e => by have := Option.some.inj e; omega)⟩
  rw [e1, List.length_append, List.length_singleton]
  rw [e2] at hq
  exact ⟨_, hown, put_is hD hq (fr_link hxl hlq hlk)⟩
theorem rdm_skip {s : Int} {l : List HdS} {n SB XB MB : Nat} {w W : World} {ys : List Nat} {x : Nat} (h : RdM s l n SB XB MB w ys W) (hxn : ys.length + x + 1 = n) (hxl : x < l.length) (hlk : HdS.isL s l[x] = false) : RdM s l n SB XB MB w (ys ++ [x]) W := by
  obtain ⟨a, b, ⟨_, c⟩, d⟩ := h
  have e1 : n - (ys ++ [x]).length = x := by simp; omega
  have e2 : n - ys.length = x + 1 := by omega
  rw [e2] at c
  refine ⟨a, b, ⟨by simp; omega, ?_⟩, d⟩
  rw [e1]
  exact (c.mono (by simp)).same (fun q => (fr_none hxl hlk q).symm)
theorem rdm_up {s : Int} {l : List HdS} {n SB XB MB : Nat} {w W W' : World} {ys : List Nat} (h : RdM s l n SB XB MB w ys W) (hb : Below W.heap.size W W') (hw : w.heap.size ≤ W.heap.size) : RdM s l n SB XB MB w ys W' := by
  obtain ⟨a, b, ⟨c0, c⟩, d⟩ := h
  have hg : W.grownBy W' none := ⟨hb.os, hb.tape, hb.output, hb.size, fun k hk _ => hb.block k hk⟩
  exact ⟨a.kept hg (by simp), b.kept hg (by simp), ⟨c0, c.up hb⟩, d.trans (hb.mono hw)⟩
set_option maxHeartbeats 4000000 in
set_option maxRecDepth 100000 in
theorem cnseeker_at {w : World} {A : Option Addr} {n c : Nat} (s : Int) (l : List HdS) (hl : l.length = n) (hr : RdV w w.heap.size A (hsC l)) (hn : n ≤ 400) (hb : SeqOk l) : Calls Try.prog 12 #[.int .u32 s, .slice A n c] w (SkIs n (fun q => HdS.findL s q l) w) := by
  have HR := Lib.hid hr
  have HN := Lib.hid hl
  have HSO := Lib.hid hb
  clear hr hl hb
  refine (callsIn_wide (n := 6)).1 ?_
  refine callsIn_of_wp_marks Try.func12 rfl trivial ?_ rfl
  simp only [Try.ntmps12, List.size_toArray, List.length_cons, List.length_nil, Nat.reduceAdd, Nat.reduceSub, Array.replicate_succ, Array.replicate_zero, List.push_toArray, List.append_toArray, List.nil_append, List.cons_append]
  refine wpIn_wide.2 ?_
  have hmm := @run_makeMap Try.prog
  go_wp2_with (first
    | (go_at_call 14; refine (cnback_at A n c _).mono ?_; rintro r w11 ⟨rfl, rfl⟩)
    | fail)
  obtain ⟨L, hL⟩ : ∃ L, w.heap.size = L := ⟨_, rfl⟩
  obtain ⟨W0, hW0⟩ : ∃ W0 : World, W0 = (((w.alloc (.cells #[.int .u32 s] 22)).alloc (.map #[] 0)).alloc (.cells #[.map (some (w.heap.size + 1))] 43)).alloc (.cells #[.slice A n c] 23) := ⟨_, rfl⟩
  have hs0 : W0.heap.size = L + 4 := by rw [hW0]; simp [hL]
  have HS0 := Lib.hid hs0
  have HSB : Hid (Boxed W0 L 22 (.int .u32 s)) := Lib.hid (by
    rw [hW0, ← hL]
    exact (((Boxed.new w 22 (.int .u32 s)).alloc _).alloc _).alloc _)
  have HMB : Hid (MapIs W0 (L + 1) 0 (fun _ => none)) := Lib.hid (by
    have h1 := MapIs.made (w.alloc (.cells #[.int .u32 s] 22))
    rw [World.size_alloc, hL] at h1
    rw [hW0]
    exact (h1.kept (World.grownBy_alloc _ _ none) (by simp)).kept (World.grownBy_alloc _ _ none) (by simp))
  have HXB : Hid (Boxed W0 (L + 2) 43 (.map (some (L + 1)))) := Lib.hid (by
    have := Boxed.new ((w.alloc (.cells #[.int .u32 s] 22)).alloc (.map #[] 0)) 43 (.map (some (w.heap.size + 1)))
    rw [World.size_alloc, World.size_alloc, hL] at this
    rw [hW0, hL]
    exact this.alloc _)
  have HPB : Hid (Boxed W0 (L + 3) 23 (.slice A n c)) := Lib.hid (by
    have := Boxed.new (((w.alloc (.cells #[.int .u32 s] 22)).alloc (.map #[] 0)).alloc (.cells #[.map (some (w.heap.size + 1))] 43)) 23 (.slice A n c)
    rw [World.size_alloc, World.size_alloc, World.size_alloc, hL] at this
    rw [hW0, hL]
    exact this)
  have HBW0 : Hid (Below w.heap.size w W0) := Lib.hid (by
    rw [hW0]
    exact ((((Below.refl w.heap.size w).alloc (Nat.le_refl _) _).alloc (by rw [World.size_alloc]; omega) _).alloc (by rw [World.size_alloc, World.size_alloc]; omega) _).alloc (by rw [World.size_alloc, World.size_alloc, World.size_alloc]; omega) _)
  have HLN := Lib.hid hL
  rw [← hW0, hL]
  clear hW0 hmm
  refine (wpIn_wide (n := 3)).1 ?_
  refine range_seenM (α := Nat) (gf := 17) (lb := #[.pointer (some ⟨L + 3, 0, none⟩)]) rfl (by omega) rfl trivial (enters_of Try.func17 (by kernel_rfl) rfl) (encs := encH l) (Kp := KeepM (L + 4) (L + 1)) (G := fun pre x => pre.length + x + 1 = n) (S := fun ys => ys.length = n) ?seq (fun h k => h.trans k)
    (fun W q o o' hq _ _ => KeepM.putObj o' (by omega)) (fun X Y hX hb => KeepM.of_below (by omega) hb) (fun _ => rfl)
    (RdM s l n L (L + 2) (L + 1) w) (rdm_own (by omega) (by omega) (by omega) (by omega)) ⟨HSB.out, HXB.out, ⟨by simp, HMB.out.same (fun q => by
      have e : n - ([] : List Nat).length = l.length := by rw [HN.out]; simp
      rw [e, fr_end])⟩, HBW0.out⟩
    (fun x a1 W => ∃ b, a1 = { tmps := #[.int .u32 s, .slice A n c, .pointer (some ⟨L, 0, none⟩), undef, .nilFunc, .pointer (some ⟨L + 2, 0, none⟩), .int .i64 (x : Int), .pointer (some ⟨b, 0, none⟩), .map (some (L + 1)), .slice A n c, .func (Fn.func 17) #[] #[.pointer (some ⟨L + 3, 0, none⟩)], .int .i64 (x : Int), .agg #[.int .u8 (l.getD x ⟨0, 0, 0, 0⟩).k, .int .u32 (l.getD x ⟨0, 0, 0, 0⟩).s, .int .u32 (l.getD x ⟨0, 0, 0, 0⟩).i, .int .u32 (l.getD x ⟨0, 0, 0, 0⟩).q], undef, undef, undef, undef, undef, undef, undef, undef], defers := [] } ∧ Blk W b 34 [.int .u8 (l.getD x ⟨0, 0, 0, 0⟩).k, .int .u32 (l.getD x ⟨0, 0, 0, 0⟩).s, .int .u32 (l.getD x ⟨0, 0, 0, 0⟩).i, .int .u32 (l.getD x ⟨0, 0, 0, 0⟩).q])
    ?pa ?assign ?body ?done
  case seq =>
    intro ly J W hbW hJ hY h0
    refine callsIn_wide.2 ?_
    exact cnbackA_in (B0 := L) (NB := L + 4) (MB := L + 1) HN.out hn (by omega) (by omega) (by omega) (by omega) ly J W (by rw [← HLN.out]; exact ((HR.out.below HBW0.out).below (hbW.mono (by rw [HS0.out, HLN.out]; omega)))) hY h0 ((hbW.block (L + 3) (by rw [HS0.out]; omega)).trans HPB.out)
  case pa =>
    rintro x a1 _ W W' row ⟨b, rfl, hb⟩ hg hr
    exact ⟨b, rfl, hb.kept hg (fun e => by
      obtain ⟨_, o, ho, hc⟩ := hr b e.symm
      unfold Blk at hb
      rw [hb] at ho
      rw [← Option.some.inj ho] at hc
      cases hc)⟩
  case assign =>
    intro ly x W K hW hK
    have hb1 : Below W.heap.size W (W.alloc (.cells #[.int .u8 (l.getD x ⟨0, 0, 0, 0⟩).k, .int .u32 (l.getD x ⟨0, 0, 0, 0⟩).s, .int .u32 (l.getD x ⟨0, 0, 0, 0⟩).i, .int .u32 (l.getD x ⟨0, 0, 0, 0⟩).q] 34)) := (Below.refl _ _).alloc (Nat.le_refl _) _
    have HK2 := Lib.hid (hK _ _ hb1 ⟨W.heap.size, rfl, heap_alloc_new W _⟩)
    clear hK hb1
    unfold encH
    gi_wp2
    exact HK2.out
  case body =>
    rintro ly pre x _ W hI ⟨b, rfl, hb⟩ hWz hG
    have hxl : x < l.length := by rw [HN.out]; omega
    have hgd : l.getD x ⟨0, 0, 0, 0⟩ = l[x] := by simp [List.getD_eq_getElem?_getD, hxl]
    rw [hgd] at hb ⊢
    have HI := Lib.hid hI
    have HG : Hid (pre.length + x + 1 = n) := Lib.hid hG
    have z0 := hb.cell 0 (by simp)
    have z1 := hb.cell 1 (by simp)
    have z2 := hb.cell 2 (by simp)
    have z3 := hb.cell 3 (by simp)
    simp only [List.getElem_cons_zero, List.getElem_cons_succ] at z0 z1 z2 z3
    have sb := hI.1.cell
    have HWZ : Hid (L + 4 ≤ W.heap.size) := Lib.hid (by have := HS0.out; omega)
    have HSQ := Lib.hid (HSO.out l[x] (List.getElem_mem hxl))
    have HLK := Lib.hid (fun (h : HdS.isL s l[x] = true) (q0 : Int) (hq : l[x].q = q0) (X : World) (hX : RdM s l n L (L + 2) (L + 1) w pre X) => show ∃ D : DataW Unit, X.ownsMap Try.prog 22 (plainElem Try.prog 3) (L + 1) pre.length D ∧ ∀ Y : World, Y.ownsMap Try.prog 22 (plainElem Try.prog 3) (L + 1) (pre.length + 1) (D.put (.int .u32 q0) (.lit (.int .i64 (x : Int)))) → X.grownBy Y (some (L + 1)) → RdM s l n L (L + 2) (L + 1) w (pre ++ [x]) Y from by
      obtain ⟨D, hown, hD⟩ := hX.2.2.1.2
      exact ⟨D, hown, fun Y hY hg => rdm_lay hX.1 hX.2.1 hX.2.2.2 (by omega) (by omega) (by have := HLN.out; omega) hY hg (hown.isMap) hD HG.out hxl hq h⟩)
    have HSKP := Lib.hid (fun (h : HdS.isL s l[x] = false) (X : World) (hX : RdM s l n L (L + 2) (L + 1) w pre X) => rdm_skip hX HG.out hxl h)
    have hpl : pre.length < 400 := by omega
    have HPL : Hid (pre.length < maxLen) := Lib.hid (by unfold maxLen; omega)
    have hxw : Hid ((Lit.int .i64 (x : Int)).wf = true) := Lib.hid (WalkArith.wf_i64 (by omega))
    obtain ⟨e, he⟩ : ∃ e, l[x] = e := ⟨_, rfl⟩
    rw [he] at z0 z1 z2 z3 HLK HSKP HSQ ⊢
    obtain ⟨k0, hk0⟩ : ∃ y, e.k = y := ⟨_, rfl⟩
    obtain ⟨t0, ht0⟩ : ∃ y, e.s = y := ⟨_, rfl⟩
    obtain ⟨i0, hi0⟩ : ∃ y, e.i = y := ⟨_, rfl⟩
    obtain ⟨q0, hq0⟩ : ∃ y, e.q = y := ⟨_, rfl⟩
    have HQ0 := Lib.hid hq0
    rw [hk0, ht0, hi0, hq0]
    rw [hk0] at z0
    rw [ht0] at z1
    rw [hi0] at z2
    rw [hq0] at z3 HSQ
    have HLE : Hid (HdS.isL s ⟨k0, t0, i0, q0⟩ = HdS.isL s e) := Lib.hid (by rw [← hk0, ← ht0, ← hi0, ← hq0])
    have HWF := Lib.hid (u32wf HSQ.out.1 HSQ.out.2)
    clear hI hb hG hgd he hk0 ht0 hi0 hq0 hxl
    gi_wp2
    refine ⟨trivial, callsIn_roundM ((cnislink_at s k0 t0 i0 q0).mono ?_)⟩
    rintro r w1 ⟨rfl, hb1⟩
    rw [HLE.out]
    have HB1 := Lib.hid hb1
    have HI1 := Lib.hid (rdm_up HI.out hb1 (by have := HWZ.out; have := HLN.out; omega))
    have y3 := (hb1.cell (p := ⟨b, 3, none⟩) (World.block_lt_of_cell? W _ z3)).trans z3
    have xb := HI1.out.2.1.cell
    have HKF := Lib.hid (KeepsFrom.of_below (B := L + 4) hb1)
    have HKM := Lib.hid (KeepM.of_below (NB := L + 4) (L := L + 1) HWZ.out hb1)
    have hz1 := hb1.size
    clear hb1 z0 z1 z2 z3 sb HI HLE
    obtain ⟨t, ht⟩ : ∃ t, HdS.isL s e = t := ⟨_, rfl⟩
    rw [ht] at HLK HSKP ⊢
    clear ht
    cases t with
    | true =>
      obtain ⟨D, hown, hlay⟩ := HLK.out rfl q0 HQ0.out w1 HI1.out
      have HO := Lib.hid hown
      have HLY := Lib.hid hlay
      clear hown hlay HLK HSKP
      gi_wp2_with (first
        | (gi_at_mapUpdate; refine wpListIn_mapUpdate_own _ rfl _ _ _ 43 rfl 22 3 cnKey Try.underlying43 _ (L + 1) pre.length D rfl HO.out HPL.out _ _ _ rfl rfl (keyOf_int_mk Try.underlying22 HWF.out) _ [] (plainElem_int Try.underlying3 hxw.out) ?_; intro w2 hown2 hg2)
        | fail)
      refine ⟨HKF.out.trans (KeepsFrom.grown hg2 (by omega)), HKM.out.trans (KeepM.grown (by have := HWZ.out; omega) hg2), HLY.out w2 hown2 hg2⟩
    | false =>
      have HE := Lib.hid (HSKP.out rfl w1 HI1.out)
      clear HLK HSKP
      gi_wp2
      exact ⟨HKF.out, HKM.out, HE.out⟩
  case done =>
    rintro D ys W hD hys hI hK
    have HE : Hid (SkIs n (fun q => HdS.findL s q l) w (.returned (.func (.func 16) #[] #[.pointer (some ⟨L + 2, 0, none⟩)])) (W.putObj D (.deferred none))) := Lib.hid (by
      have hg := grownBy_putObj' W D (.deferred none)
      have hlt : L + 4 ≤ D := by rw [← HS0.out]; exact hD
      obtain ⟨_, hx, ⟨_, hm⟩, hb⟩ := hI
      refine ⟨⟨L + 2, L + 1, rfl, hx.kept hg (by simp; omega), ?_⟩, hb.grown hg (by have := hb.size; omega) (fun j e => by have := Option.some.inj e; have := HLN.out; omega)⟩
      have h2 := hm.kept hg (by simp; omega)
      rw [hys, Nat.sub_self] at h2
      exact h2.same (fun q => fr_zero s l q))
    clear hI hD hys
    go_wp2_with fail
    refine ⟨by simp, .inl ⟨_, _, rfl, run_takeDeferred hK, ?_⟩⟩
    exact ⟨_, by simp [results, Try.results12, go_sem], HE.out⟩
end Go.Proofs.Ytckkgjggoopjiaa
