/-
  An index in memory: Put, Drop.
-/
import Derived.Test.YtmoagooabmmmgaaIxD
namespace Go.Proofs.Ytmoagooabmmmgaa
open Go.RowKit

section
variable {w : World} {kb : Nat} {S : IxS}
theorem IxC.many {m r m' : Nat} {x : Int} {cs : List Value} {T : TabS} (h : IxC w kb cs T m r) (he : (m' : Int) = x) : IxC (w.setCell ⟨kb, 1, none⟩ (.int .i64 x)) kb (cs.set 1 (.int .i64 x)) T m' r := by
  subst he
  exact ⟨h.b.put _ _, by simp [h.len], by rw [set_off (by omega)]; exact h.r, set_at h.m, h.p.head (by omega) _⟩
set_option maxHeartbeats 2000000 in
theorem xput_at (k : Nat) (s : Int) (h : IxM w kb S) : Calls Try.prog 42 #[.pointer (some ⟨kb, 0, none⟩), .int .u32 (k : Int), .int .i64 s] w (IxTo kb (S.putB k) (S.putS k s) w) := by
  obtain ⟨⟨cs, T, hC, hT⟩, hw⟩ := h
  obtain ⟨f, hf, hff⟩ := hT.free (Nat.le_trans hw.le hw.r64)
  have HF := Lib.hid (xfind_at k f hC hf hff)
  have HT := Lib.hid hT
  have HW := Lib.hid hw
  have HC := Lib.hid hC
  have HWP := Lib.hid (IxS.putS_wf hw k s)
  obtain ⟨M, hM⟩ : ∃ M, S.L.length = M := ⟨_, rfl⟩
  obtain ⟨R, hR⟩ : ∃ R, S.room = R := ⟨_, rfl⟩
  have HMR := Lib.hid (And.intro hM hR)
  have hMR : M ≤ R ∧ R ≤ 64 := by have := hw.le; have := hw.r64; omega
  have hC1 := hC
  rw [hM, hR] at hC1
  have HC1 := Lib.hid hC1
  clear hC hC1 hT hw hf hff hM hR
  go_enter Try.func42, Try.ntmps42
  go_wp2_with fail
  refine HF.out.mono ?_
  rintro r w1 ⟨j, p, hj, hp, hway, hpk, rfl, hb⟩
  have hpl : p < 128 := by omega
  have HB := Lib.hid hb
  have HCw := Lib.hid (HC1.out.up hb)
  have HK1 : Hid (Kept (fun k => k = kb) w w1) := Lib.hid (Kept.of_below hb)
  clear hb
  cases ht : T.t p with
  | true =>
    have hk := hpk ht
    have hhas := (found_has HT.out hpl ht hk HW.out).1
    have hputB : S.putB k = true := by unfold IxS.putB; rw [hhas]; rfl
    have HE : Hid (∀ w' cs', IxC w' kb cs' (T.put p k s true) M R → Kept (fun k => k = kb) w w' → IxTo kb (S.putB k) (S.putS k s) w (.returned (.bool true)) w') := Lib.hid (fun w' cs' hc hk2 => by
      refine ⟨by rw [hputB], ⟨⟨cs', T.put p k s true, ?_, ?_⟩, HWP.out⟩, hk2⟩
      · unfold IxS.putS
        rw [if_pos hputB]
        show IxC w' kb cs' _ (putL S.L k s).length S.room
        rw [putL_old HW.out.asc (IxS.has_mem hhas), HMR.out.1, HMR.out.2]
        exact hc
      · unfold IxS.putS
        rw [if_pos hputB]
        exact HT.out.put_old s hpl ht hk)
    have HP := Lib.hid (HCw.out.put p hpl k s true)
    have HKP := Lib.hid (kept_put3 HK1.out rfl (2 + p * 3) (2 + p * 3 + 1) (2 + p * 3 + 2) (.int .u32 (k : Int)) (.int .i64 s) (.bool true))
    obtain ⟨d0, d1, d2⟩ := HCw.out.at hpl
    have f0 := HCw.out.b.free (2 + p * 3)
    have f1 := HCw.out.b.free (2 + p * 3 + 1)
    have f2 := HCw.out.b.free (2 + p * 3 + 2)
    clear ht hp hway hpk hk hhas hputB
    go_wp2_with fail
    go_ret
    exact HE.out _ _ HP.out HKP.out
  | false =>
    have hno := (found_not HT.out hj hp hway ht).1
    have HN := Lib.hid (IxS.has_no hno)
    have c1 := HCw.out.b.at HCw.out.m
    have c0 := HCw.out.b.at HCw.out.r
    by_cases hfull : M = R
    · have hputB : S.putB k = false := by
        unfold IxS.putB
        rw [hno, HMR.out.1, HMR.out.2]
        simp
        omega
      have HE : Hid (IxTo kb (S.putB k) (S.putS k s) w (.returned (.bool false)) w1.drew) := Lib.hid (by
        refine ⟨by rw [hputB], ?_, HK1.out.drew⟩
        unfold IxS.putS
        rw [if_neg (by rw [hputB]; simp)]
        refine ⟨⟨cs, T, ?_, HT.out⟩, HW.out⟩
        rw [HMR.out.1, HMR.out.2]
        exact HCw.out.drew)
      have q : ((M : Int) == (R : Int)) = true := by simp [hfull]
      clear ht hp hway hpk hno hputB hfull
      go_wp2_with fail
      go_region
      go_wp2_with fail
      go_ret
      exact HE.out
    · have hputB : S.putB k = true := by
        unfold IxS.putB
        rw [hno, HMR.out.1, HMR.out.2]
        simp
        omega
      have HE : Hid (∀ w' cs', IxC w' kb cs' (T.put p k s true) (M + 1) R → Kept (fun k => k = kb) w w' → IxTo kb (S.putB k) (S.putS k s) w (.returned (.bool true)) w') := Lib.hid (fun w' cs' hc hk2 => by
        refine ⟨by rw [hputB], ⟨⟨cs', T.put p k s true, ?_, ?_⟩, HWP.out⟩, hk2⟩
        · unfold IxS.putS
          rw [if_pos hputB]
          show IxC w' kb cs' _ (putL S.L k s).length S.room
          rw [putL_new HN.out, HMR.out.1, HMR.out.2]
          exact hc
        · unfold IxS.putS
          rw [if_pos hputB]
          exact HT.out.put_new s hway hj hp ht)
      have q : ((M : Int) == (R : Int)) = false := by simp; omega
      have HCm := Lib.hid (IxC.many (m' := M + 1) (x := (M : Int) + 1) HCw.out.drew (by omega))
      have HKm := Lib.hid (HK1.out.drew.put (g := kb) (.inl rfl) 1 (.int .i64 ((M : Int) + 1)))
      have g1 := HCw.out.b.free 1
      have HP := Lib.hid (HCm.out.put p hpl k s true)
      have HKP := Lib.hid (kept_put3 HKm.out rfl (2 + p * 3) (2 + p * 3 + 1) (2 + p * 3 + 2) (.int .u32 (k : Int)) (.int .i64 s) (.bool true))
      obtain ⟨d0, d1, d2⟩ := HCm.out.at hpl
      have f0 := HCm.out.b.free (2 + p * 3)
      have f1 := HCm.out.b.free (2 + p * 3 + 1)
      have f2 := HCm.out.b.free (2 + p * 3 + 2)
      obtain ⟨w2, hw2⟩ : ∃ w2, w1.drew.setCell ⟨kb, 1, none⟩ (.int .i64 ((M : Int) + 1)) = w2 := ⟨_, rfl⟩
      rw [hw2] at HP HKP d0 d1 d2 f0 f1 f2
      have hw3 : (w1.setCell ⟨kb, 1, none⟩ (.int .i64 ((M : Int) + 1))).drew = w2 := hw2
      clear ht hp hway hpk hno hputB hfull HCm HKm hw2
      go_wp2_with fail
      go_region
      go_wp2_with fail
      go_ret
      exact HE.out _ _ HP.out HKP.out
set_option maxHeartbeats 2000000 in
theorem xdrop_at (k : Nat) (h : IxM w kb S) : Calls Try.prog 34 #[.pointer (some ⟨kb, 0, none⟩), .int .u32 (k : Int)] w (IxTo kb (S.has k) (S.dropS k) w) := by
  obtain ⟨⟨cs, T, hC, hT⟩, hw⟩ := h
  obtain ⟨f, hf, hff⟩ := hT.free (Nat.le_trans hw.le hw.r64)
  have HF := Lib.hid (xfind_at k f hC hf hff)
  have HFF := Lib.hid (And.intro hf hff)
  have HT := Lib.hid hT
  have HW := Lib.hid hw
  have HC := Lib.hid hC
  have HWP := Lib.hid (IxS.dropS_wf hw k)
  clear hC hT hw hf hff
  go_enter Try.func34, Try.ntmps34
  go_wp2_with fail
  refine HF.out.mono ?_
  rintro r w1 ⟨j, p, hj, hp, hway, hpk, rfl, hb⟩
  have hpl : p < 128 := by omega
  have HCw := Lib.hid (HC.out.up hb)
  have HK1 : Hid (Kept (fun k => k = kb) w w1) := Lib.hid (Kept.of_below hb)
  clear hb
  cases ht : T.t p with
  | true =>
    have hk := hpk ht
    have hhas := (found_has HT.out hpl ht hk HW.out).1
    obtain ⟨M, hM⟩ : ∃ M, (dropL S.L k).length = M := ⟨_, rfl⟩
    have hML := dropL_len HW.out.asc (IxS.has_mem hhas)
    rw [hM] at hML
    have hM64 : M ≤ 64 := by have := HW.out.le; have := HW.out.r64; omega
    have HE : Hid (∀ w' cs' T', IxC w' kb cs' T' M S.room → TL T' (dropL S.L k) → Kept (fun k => k = kb) w w' → IxTo kb (S.has k) (S.dropS k) w (.returned (.bool true)) w') := Lib.hid (fun w' cs' T' hc ht' hk2 => by
      refine ⟨by rw [hhas], ⟨⟨cs', T', ?_, ht'⟩, HWP.out⟩, hk2⟩
      show IxC w' kb cs' T' (dropL S.L k).length S.room
      rw [hM]
      exact hc)
    have HFr := Lib.hid (xfree_at p f (dropL S.L k) HCw.out (HT.out.gap hpl ht hk) HFF.out.1 HFF.out.2)
    rw [← hML] at HFr
    clear ht hp hway hpk hk hhas hM hML HCw HC HF
    go_wp2_with fail
    refine HFr.out.mono ?_
    rintro r w2 ⟨rfl, ⟨cs2, T2, hC2, hT2⟩, hk2⟩
    have HC2 := Lib.hid hC2
    have HT2 := Lib.hid hT2
    have HK2 := Lib.hid (HK1.out.and hk2)
    have c1 := hC2.b.at hC2.m
    have g1 := hC2.b.free 1
    have HCm := Lib.hid (IxC.many (m' := M) (x := (M : Int)) hC2 rfl)
    have HKm := Lib.hid (HK2.out.put (g := kb) (.inl rfl) 1 (.int .i64 (M : Int)))
    have e : ((M + 1 : Nat) : Int) = (M : Int) + 1 := by omega
    have e2 : (M : Int) + 1 - 1 = (M : Int) := by omega
    rw [e] at c1
    clear hC2 hT2 hk2 e HFr
    go_wp2_with fail
    go_ret
    exact HE.out _ _ _ HCm.out HT2.out HKm.out
  | false =>
    have hno := (found_not HT.out hj hp hway ht).1
    have HE : Hid (IxTo kb (S.has k) (S.dropS k) w (.returned (.bool false)) w1) := Lib.hid (by
      refine ⟨by rw [hno], ⟨⟨cs, T, ?_, ?_⟩, HWP.out⟩, HK1.out⟩
      · show IxC w1 kb cs T (dropL S.L k).length S.room
        rw [dropL_not (IxS.has_no hno)]
        exact HCw.out
      · show TL T (dropL S.L k)
        rw [dropL_not (IxS.has_no hno)]
        exact HT.out)
    clear ht hp hway hpk hno
    go_wp2_with fail
    go_ret
    exact HE.out
end
end Go.Proofs.Ytmoagooabmmmgaa
