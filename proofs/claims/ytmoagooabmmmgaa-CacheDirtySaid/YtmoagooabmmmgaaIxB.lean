/-
  An index in memory: reaches, free.
-/
import Derived.Test.YtmoagooabmmmgaaIxA
import Derived.WalkMore
namespace Go.Proofs.Ytmoagooabmmmgaa
open Go.RowKit

section
variable {w : World} {kb m r : Nat} {cs : List Value} {T : TabS}
theorem xreaches_at (g i : Nat) (hg : g < 128) (hi : i < 128) (h : IxC w kb cs T m r) : Calls Try.prog 52 #[.pointer (some ⟨kb, 0, none⟩), .int .i64 (g : Int), .int .i64 (i : Int)] w (BoolIs (rch T g i) w) := by
  obtain ⟨c0, _, _⟩ := h.at hi
  clear h
  obtain ⟨k, hk⟩ : ∃ k, T.k i = k := ⟨_, rfl⟩
  have HR : Hid (rch T g i = decide (fr g i ≤ fr (k % 128) i)) := Lib.hid (by
    unfold rch
    rw [hk])
  rw [hk] at c0
  rw [HR.out]
  have F1 := Lib.hid (xfar_at (w := w) (k % 128) i (by omega) hi)
  have F2 := Lib.hid (xfar_at (w := w) g i hg hi)
  generalize fr g i = x at *
  generalize fr (k % 128) i = y at *
  clear HR hk
  go_enter Try.func52, Try.ntmps52
  go_wp2_with fail
  refine (xdrawn_at k).mono ?_
  rintro r w' ⟨rfl, rfl⟩
  go_wp2_with fail
  refine F1.out.mono ?_
  rintro r w' ⟨rfl, rfl⟩
  go_wp2_with fail
  refine F2.out.mono ?_
  rintro r w' ⟨rfl, rfl⟩
  go_wp2_with fail
  go_ret
  exact ⟨rfl, rfl⟩
/-- The block, once a place is written. -/
theorem IxC.put (h : IxC w kb cs T m r) (p : Nat) (hp : p < 128) (k : Nat) (s : Int) (t : Bool) : IxC (((w.setCell ⟨kb, 2 + p * 3, none⟩ (.int .u32 (k : Int))).setCell ⟨kb, 2 + p * 3 + 1, none⟩ (.int .i64 s)).setCell ⟨kb, 2 + p * 3 + 2, none⟩ (.bool t)) kb (((cs.set (2 + p * 3) (.int .u32 (k : Int))).set (2 + p * 3 + 1) (.int .i64 s)).set (2 + p * 3 + 2) (.bool t)) (T.put p k s t) m r :=
  ⟨((h.b.put _ _).put _ _).put _ _, by simp [h.len], by rw [set_off (by omega), set_off (by omega), set_off (by omega)]; exact h.r, by rw [set_off (by omega), set_off (by omega), set_off (by omega)]; exact h.m, h.p.put p hp k s t⟩
theorem kept_put3 {F : Nat → Prop} {a w : World} {kb : Nat} (h : Kept F a w) (hF : F kb) (x y z : Nat) (u v t : Value) : Kept F a (((w.setCell ⟨kb, x, none⟩ u).setCell ⟨kb, y, none⟩ v).setCell ⟨kb, z, none⟩ t) := ((h.put (.inl hF) x u).put (.inl hF) y v).put (.inl hF) z t
/-- What free does. -/
def FreeTo (kb m r : Nat) (L : PL) (w w' : World) : Prop := (∃ cs T, IxC w' kb cs T m r ∧ TL T L) ∧ Kept (fun k => k = kb) w w'
set_option maxHeartbeats 2000000 in
theorem xfree_at (g f : Nat) (L : PL) (h : IxC w kb cs T m r) (hG : Gap T g L) (hf : f < 128) (hff : T.t f = false) : Calls Try.prog 46 #[.pointer (some ⟨kb, 0, none⟩), .int .i64 (g : Int)] w (fun e w' => e = .returned (.tuple #[]) ∧ FreeTo kb m r L w w') := by
  have HS : Hid (∃ cs T, IxC w kb cs T m r ∧ Gap T g L ∧ T.t f = false) := Lib.hid ⟨cs, T, h, hG, hff⟩
  clear h hG hff
  go_enter Try.func46, Try.ntmps46
  go_wp2_with fail
  go_step3
  go_wp2_with fail
  go_step3
  go_wp2_with fail
  go_loopg [1] (fr g f) (fun n x wr => ∃ g : Nat, x = .int .i64 (g : Int) ∧ n = fr g f ∧ (∃ cs T, IxC wr kb cs T m r ∧ Gap T g L ∧ T.t f = false) ∧ Kept (fun k => k = kb) w wr)
  case atStart => exact ⟨g, rfl, rfl, HS.out, Kept.refl _ _⟩
  case round =>
    clear HS
    obtain ⟨g, rfl, hn, ⟨cs, T, hC, hG, hff⟩, hk⟩ := hrel
    have HN := Lib.hid hn
    have HC := Lib.hid hC
    have HG := Lib.hid hG
    have HF := Lib.hid hff
    have HK := Lib.hid hk
    have hgl := hG.lt
    clear hn hC hG hff hk
    go_wp2_with fail
    refine (xnext_at g hgl).mono ?_
    rintro r w' ⟨rfl, rfl⟩
    go_wp2_with fail
    go_loopg [1, 4] 128 (fun n y x w2 => ∃ j a : Nat, a = (g + 1 + j) % 128 ∧ y = .int .i64 (g : Int) ∧ x = .int .i64 (a : Int) ∧ n = 128 - j ∧ Scan T g j ∧ w2 = wr)
    case atStart => exact ⟨0, (g + 1) % 128, by omega, rfl, rfl, rfl, Scan.zero T g, rfl⟩
    case round =>
      obtain ⟨j, a, ha, rfl, rfl, hn, hs, rfl⟩ := hrel
      have HM := Lib.hid hn
      have HA := Lib.hid ha
      have HSC := Lib.hid hs
      have hal : a < 128 := by omega
      obtain ⟨c0, c1, c2⟩ := HC.out.at hal
      have hj := (HSC.out.le hgl HG.out.t hf HF.out)
      have hjj : j < 127 := by omega
      clear hn ha hs
      cases ht : T.t a with
      | false =>
        rw [ht] at c2
        have HE : Hid (TL (T.put g 0 0 false) L) := Lib.hid (HG.out.shut HSC.out hjj (by rw [← HA.out]; exact ht))
        have HP := Lib.hid (HC.out.put g hgl 0 0 false)
        have HKP := Lib.hid (kept_put3 HK.out rfl (2 + g * 3) (2 + g * 3 + 1) (2 + g * 3 + 2) (.int .u32 0) (.int .i64 0) (.bool false))
        obtain ⟨d0, d1, d2⟩ := HC.out.at hgl
        have f0 := HC.out.b.free (2 + g * 3)
        have f1 := HC.out.b.free (2 + g * 3 + 1)
        have f2 := HC.out.b.free (2 + g * 3 + 2)
        clear ht
        go_wp2_with fail
        rw [Exit.noGoto_ret]
        show bodyPost Try.prog Try.f46 _ Exit.ret _ _
        refine bodyPost_ret (results_none rfl _ _ _) rfl ?_
        exact ⟨rfl, ⟨_, _, HP.out, HE.out⟩, HKP.out⟩
      | true =>
        rw [ht] at c2
        have HRE := Lib.hid (xreaches_at g a hgl hal HC.out)
        cases hr : rch T g a with
        | false =>
          rw [hr] at HRE
          have HN : Hid (Scan T g (j + 1)) := Lib.hid (HSC.out.next (by rw [← HA.out]; exact ht) (by rw [← HA.out]; exact hr))
          have HA2 : Hid ((a + 1) % 128 = (g + 1 + (j + 1)) % 128) := Lib.hid (by have := HA.out; omega)
          clear ht hr
          go_wp2_with fail
          refine HRE.out.mono ?_
          rintro r w' ⟨rfl, rfl⟩
          go_wp2_with fail
          refine (xnext_at a hal).mono ?_
          rintro r w' ⟨rfl, rfl⟩
          go_wp2_with fail
          go_roundg (128 - (j + 1))
          case rel => exact ⟨j + 1, (a + 1) % 128, HA2.out, rfl, rfl, rfl, HN.out, rfl⟩
          case measure => have := HM.out; omega
        | true =>
          rw [hr] at HRE
          have HG2 : Hid (Gap (T.put g (T.k a) (T.s a) true) a L) := Lib.hid (HG.out.move hjj HA.out ht hr)
          have HF2 : Hid ((T.put g (T.k a) (T.s a) true).t f = false) := Lib.hid (HG.out.move_free HF.out)
          have HP := Lib.hid (HC.out.put g hgl (T.k a) (T.s a) true)
          have HKP := Lib.hid (kept_put3 HK.out rfl (2 + g * 3) (2 + g * 3 + 1) (2 + g * 3 + 2) (.int .u32 (T.k a : Int)) (.int .i64 (T.s a)) (.bool true))
          have hlt : fr a f < fr g f := by have := HA.out; unfold fr at hj ⊢; omega
          obtain ⟨d0, d1, d2⟩ := HC.out.at hgl
          have f0 := HC.out.b.free (2 + g * 3)
          have f1 := HC.out.b.free (2 + g * 3 + 1)
          have f2 := HC.out.b.free (2 + g * 3 + 2)
          clear ht hr
          go_wp2_with fail
          refine HRE.out.mono ?_
          rintro r w' ⟨rfl, rfl⟩
          go_wp2_with fail
          go_region
          go_wp2_with fail
          go_roundg (fr a f)
          case rel => exact ⟨a, rfl, rfl, ⟨_, _, HP.out.drew, HG2.out, HF2.out⟩, HKP.out.drew⟩
          case measure => have := HN.out; omega
end
end Go.Proofs.Ytmoagooabmmmgaa
