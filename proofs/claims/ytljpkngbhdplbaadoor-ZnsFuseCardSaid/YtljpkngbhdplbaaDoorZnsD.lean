/-
  The document's device: Finish, Fuse, Flush.
-/
import Derived.Test.YtljpkngbhdplbaaDoorZnsC
import Derived.Deep.LoopGhost
namespace Go.Proofs.YtljpkngbhdplbaaDoor
open Go.RowKit

/-- A call that was not done: the device as may leaves it. -/
theorem done_not {F : Nat → Prop} {w w1 : World} {db zb cap : Nat} {zs : List Value} {S S' : DevS} {_e : Int} (h1 : RD F w1 db zb cap zs S') (hk : Kept F w w1) (hs : S' = S) : RDev (grow F w w1) w1 db S ∧ Kept F w w1 := by
  subst hs
  exact ⟨⟨zb, cap, zs, h1.grow⟩, hk⟩

theorem rfinish_no {F : Nat → Prop} {w : World} {db zb cap : Nat} {zs : List Value} {S : DevS} (n : Int) (h : RD F w db zb cap zs S) (hd : S.done ≤ 1000000) (hi : S.is n = false) : Calls Tryd.prog 40 #[.pointer (some ⟨db, 0, none⟩), .int .i64 n] w (DoneIs F db (S.finish n) (S.mayE (S.finE n)) w) := by
  have HH := Lib.hid h
  have HI := Lib.hid hi
  have HR : Hid (S.finE n = 1) := Lib.hid (by unfold DevS.finE; rw [if_neg (by rw [hi]; decide)])
  have HE := Lib.hid (mayE_pos (S := S) (e := 1) (by decide))
  have qe : (S.mayE 1 == 0) = false := by simpa using HE.out
  obtain ⟨me, hme⟩ : ∃ me, S.mayE 1 = me := ⟨_, rfl⟩
  have HME := Lib.hid hme
  rw [hme] at qe
  clear h hi hme
  go_enter Tryd.func40, Tryd.ntmps40
  go_wp2_with fail
  refine (ris_at _ HH.out).mono ?_
  rintro r w' ⟨rfl, rfl⟩
  rw [HI.out]
  go_wp2_with fail
  refine (rmay_at 1 HH.out hd).mono ?_
  rintro r w1 ⟨rfl, hr, hk⟩
  have H1 := Lib.hid hr
  have HK := Lib.hid hk
  clear hr hk
  rw [HME.out]
  go_wp2_with fail
  go_ret
  exact ⟨ret_int (by rw [HR.out, HME.out]), done_not (_e := me) H1.out HK.out (by unfold DevS.finish; rw [HR.out, if_neg HE.out])⟩
theorem rfinish_empty {F : Nat → Prop} {w : World} {db zb cap : Nat} {zs : List Value} {S : DevS} (n : Int) (h : RD F w db zb cap zs S) (hd : S.done ≤ 1000000) (hi : S.is n = true) (hs : S.state n = 0) : Calls Tryd.prog 40 #[.pointer (some ⟨db, 0, none⟩), .int .i64 n] w (DoneIs F db (S.finish n) (S.mayE (S.finE n)) w) := by
  have HH := Lib.hid h
  have HI := Lib.hid hi
  have HS := Lib.hid hs
  have HR : Hid (S.finE n = 11) := Lib.hid (by unfold DevS.finE; rw [if_pos hi, if_pos hs])
  have HE := Lib.hid (mayE_pos (S := S) (e := 11) (by decide))
  have qe : (S.mayE 11 == 0) = false := by simpa using HE.out
  obtain ⟨me, hme⟩ : ∃ me, S.mayE 11 = me := ⟨_, rfl⟩
  have HME := Lib.hid hme
  rw [hme] at qe
  clear h hi hs hme
  go_enter Tryd.func40, Tryd.ntmps40
  go_wp2_with fail
  refine (ris_at _ HH.out).mono ?_
  rintro r w' ⟨rfl, rfl⟩
  rw [HI.out]
  go_wp2_with fail
  refine (rstate_at _ HH.out).mono ?_
  rintro r w0 ⟨rfl, hb⟩
  have H0 := Lib.hid (HH.out.up hb)
  have HK0 : Hid (Kept F w w0) := Lib.hid (Kept.of_below hb)
  clear hb
  rw [HS.out]
  go_wp2_with fail
  refine (rmay_at 11 H0.out hd).mono ?_
  rintro r w1 ⟨rfl, hr, hk⟩
  have H1 := Lib.hid hr
  have HK := Lib.hid (HK0.out.and hk)
  clear hr hk
  rw [HME.out]
  go_wp2_with fail
  go_ret
  exact ⟨ret_int (by rw [HR.out, HME.out]), done_not (_e := me) H1.out HK.out (by unfold DevS.finish; rw [HR.out, if_neg HE.out])⟩
theorem rfinish_yes {F : Nat → Prop} {w : World} {db zb cap : Nat} {zs : List Value} {S : DevS} (i : Nat) (h : RD F w db zb cap zs S) (hd : S.done ≤ 1000000) (hi : S.is (i : Int) = true) (hs : S.state (i : Int) ≠ 0) : Calls Tryd.prog 40 #[.pointer (some ⟨db, 0, none⟩), .int .i64 (i : Int)] w (DoneIs F db (S.finish (i : Int)) (S.mayE (S.finE (i : Int))) w) := by
  have HH := Lib.hid h
  have HI := Lib.hid hi
  have hlt : i < S.zones.length := by have := (DevS.is_iff.1 hi).2; omega
  have HR : Hid (S.finE (i : Int) = 0) := Lib.hid (by unfold DevS.finE; rw [if_pos hi, if_neg hs])
  obtain ⟨st, hst⟩ : ∃ st, S.state (i : Int) = st := ⟨_, rfl⟩
  have HS := Lib.hid hst
  have qs : (st == 0) = false := by rw [← hst]; simpa using hs
  clear h hi hs hst
  go_enter Tryd.func40, Tryd.ntmps40
  go_wp2_with fail
  refine (ris_at _ HH.out).mono ?_
  rintro r w' ⟨rfl, rfl⟩
  rw [HI.out]
  go_wp2_with fail
  refine (rstate_at _ HH.out).mono ?_
  rintro r w0 ⟨rfl, hb⟩
  have H0 := Lib.hid (HH.out.up hb)
  have HK0 : Hid (Kept F w w0) := Lib.hid (Kept.of_below hb)
  clear hb
  rw [HS.out]
  go_wp2_with fail
  refine (rmay_at 0 H0.out hd).mono ?_
  rintro r w1 ⟨rfl, hr, hk⟩
  have H1 := Lib.hid hr
  have HK := Lib.hid (HK0.out.and hk)
  clear hr hk HK0
  by_cases he : S.mayE 0 = 0
  · have HE := Lib.hid he
    have hz0 : (S.mayS 0).zones.length = S.zones.length := by rw [DevS.mayS_zones]
    have c0 := H1.out.c0
    rw [hz0] at c0
    have hrl := zrow_len H1.out.room H1.out.len (i := i) (by rw [hz0]; exact hlt)
    have f2 := H1.out.blk.free (i * 3 + 2)
    have g2 : w1.cell? ⟨zb, i * 3 + 2, none⟩ = some zs[i * 3 + 2] := H1.out.blk.cell (i * 3 + 2) (by omega)
    have HB : Hid (Blk (w1.setCell ⟨zb, i * 3 + 2, none⟩ (.bool true)) zb 79 (zs.set (i * 3 + 2) (.bool true))) := Lib.hid (H1.out.blk.put _ _)
    have HKZ : Hid (Kept (fun k => k = zb) w1 (w1.setCell ⟨zb, i * 3 + 2, none⟩ (.bool true))) := Lib.hid (kept_put _ _ _ _)
    have HZ := Lib.hid (set_one (.bool true) hrl)
    have HI1 : Hid ((S.mayS 0).is (i : Int) = true) := Lib.hid (by rw [is_may]; exact HI.out)
    obtain ⟨v, _, _, _, hrows, _, _, hv0⟩ := H1.out.zone i HI1.out
    have hnth := H1.out.nth i HI1.out
    have HWF : Hid (((S.mayS 0).put (i : Int) { S.zone (i : Int) with fin := true }).WF) := Lib.hid (by
      have := DevS.finish_wf HH.out.wf (i : Int)
      unfold DevS.finish at this
      rwa [HR.out, if_pos HE.out] at this)
    rw [zone_may] at hrows hnth
    have HRD := Lib.hid (H1.out.setZone (i := i) (z := { S.zone (i : Int) with fin := true }) (v := v) (by rw [hz0]; exact hlt) HB.out HKZ.out HZ.out.1 (fun k h0 h1 h2 => HZ.out.2.1 k h2) (by rw [HZ.out.2.1 _ (by omega)]; exact hv0) (by rw [HZ.out.2.1 _ (by omega)]; exact hnth.1) HZ.out.2.2 (hrows.keep HKZ.out (fun k hk => hk.2.2)) HWF.out)
    rw [show (S.mayS 0).put (i : Int) { S.zone (i : Int) with fin := true } = S.finish (i : Int) by unfold DevS.finish; rw [HR.out, if_pos HE.out]] at HRD
    rw [he]
    generalize zs[i * 3 + 2] = z2 at *
    clear he hrows hnth hv0
    go_wp2_with fail
    go_ret
    exact ⟨ret_int (by rw [HR.out, HE.out]), ⟨zb, cap, _, HRD.out.grow⟩, HK.out.and (HKZ.out.mono (fun k _ e => e ▸ H1.out.fz))⟩
  · have HE := Lib.hid he
    have qe : (S.mayE 0 == 0) = false := by simpa using he
    obtain ⟨me, hme⟩ : ∃ me, S.mayE 0 = me := ⟨_, rfl⟩
    have HME := Lib.hid hme
    rw [hme] at qe ⊢
    clear he hme
    go_wp2_with fail
    go_ret
    exact ⟨ret_int (by rw [HR.out, HME.out]), done_not (_e := me) H1.out HK.out (by unfold DevS.finish; rw [HR.out, if_neg HE.out])⟩
theorem rfinish_at {F : Nat → Prop} {w : World} {db zb cap : Nat} {zs : List Value} {S : DevS} (n : Int) (h : RD F w db zb cap zs S) (hd : S.done ≤ 1000000) : Calls Tryd.prog 40 #[.pointer (some ⟨db, 0, none⟩), .int .i64 n] w (DoneIs F db (S.finish n) (S.mayE (S.finE n)) w) := by
  by_cases hi : S.is n = true
  · by_cases hs : S.state n = 0
    · exact rfinish_empty n h hd hi hs
    · obtain ⟨i, rfl⟩ := Int.eq_ofNat_of_zero_le (DevS.is_iff.1 hi).1
      exact rfinish_yes i h hd hi hs
  · exact rfinish_no n h hd (by simpa using hi)

theorem rfuse_at {F : Nat → Prop} {w : World} {db zb cap : Nat} {zs : List Value} {S : DevS} (n : Int) (h : RD F w db zb cap zs S) (hn : n ≤ 9223372036854775807) : Calls Tryd.prog 42 #[.pointer (some ⟨db, 0, none⟩), .int .i64 n] w (fun r w' => r = .returned (.tuple #[]) ∧ RDev (grow F w w') w' db (S.fuse n) ∧ Kept F w w') := by
  have HH := Lib.hid h
  have c2 := h.c2
  have f2 := h.dev.free 2
  have hwf := DevS.fuse_wf h.wf n hn
  by_cases h0 : n < 0
  · have HS : Hid (S.fuse n = { S with left := -1 }) := Lib.hid (by unfold DevS.fuse; rw [if_pos h0])
    have HWF := Lib.hid hwf
    have HR : Hid (RD F (w.setCell ⟨db, 2, none⟩ (.int .i64 (-1))) db zb cap zs (S.fuse n)) := Lib.hid (by
      rw [HS.out]
      exact h.setDev 2 _ rfl rfl (by rw [← HS.out]; exact hwf))
    have HR2 : Hid (RD F ((w.setCell ⟨db, 2, none⟩ (.int .i64 n)).setCell ⟨db, 2, none⟩ (.int .i64 (-1))) db zb cap zs (S.fuse n)) := Lib.hid (by
      have := HR.out
      rw [HS.out] at this ⊢
      refine ⟨?_, ?_, ?_, this.room, this.len, this.fd, this.fz, this.ne, ?_, this.wf⟩
      · have h2 := (Blk.put h.dev 2 (.int .i64 n)).put 2 (.int .i64 (-1))
        simpa using h2
      · exact (kept_put _ db 2 _).blk ((kept_put w db 2 _).blk h.blk (fun e => h.ne e.symm)) (fun e => h.ne e.symm)
      · intro i hi
        obtain ⟨v, a, b, c, d⟩ := h.row i hi
        exact ⟨v, a, b, c, (d.keep (kept_put w db 2 (.int .i64 n)) (fun j hj => hj.2.1)).keep (kept_put _ db 2 _) (fun j hj => hj.2.1)⟩
      · intro k hk
        have := this.lt k hk
        simpa [World.setCell] using this)
    have HK := Lib.hid (((Kept.refl F w).put (.inl h.fd) 2 (.int .i64 n)).put (.inl h.fd) 2 (.int .i64 (-1)))
    clear h hwf
    go_enter Tryd.func42, Tryd.ntmps42
    go_wp2_with fail
    go_end0
    exact ⟨rfl, ⟨zb, cap, zs, HR2.out.grow⟩, HK.out⟩
  · have HS : Hid (S.fuse n = { S with left := n }) := Lib.hid (by unfold DevS.fuse; rw [if_neg h0])
    have HR : Hid (RD F (w.setCell ⟨db, 2, none⟩ (.int .i64 n)) db zb cap zs (S.fuse n)) := Lib.hid (by
      rw [HS.out]
      exact h.setDev 2 _ rfl rfl (by rw [← HS.out]; exact hwf))
    have HK := Lib.hid ((Kept.refl F w).put (.inl h.fd) 2 (.int .i64 n))
    have hq : 0 ≤ n := by omega
    clear h hwf h0
    go_enter Tryd.func42, Tryd.ntmps42
    go_wp2_with fail
    go_end0
    exact ⟨rfl, ⟨zb, cap, zs, HR.out.grow⟩, HK.out⟩
end Go.Proofs.YtljpkngbhdplbaaDoor
