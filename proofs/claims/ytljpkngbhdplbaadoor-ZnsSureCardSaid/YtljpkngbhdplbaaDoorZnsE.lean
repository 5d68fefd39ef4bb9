/-
  The document's device: Flush, Read.
-/
import Derived.Test.YtljpkngbhdplbaaDoorZnsD
namespace Go.Proofs.YtljpkngbhdplbaaDoor
open Go.RowKit

/-- The first i zones are sure. -/
def flushTo (S : DevS) (i : Nat) : DevS := { S with zones := (S.zones.take i).map DevS.allSure ++ S.zones.drop i }
theorem flushTo_zero (S : DevS) : flushTo S 0 = S := by simp [flushTo]
theorem flushTo_all (S : DevS) : flushTo S S.zones.length = { S with zones := S.zones.map DevS.allSure } := by simp [flushTo]
theorem flushTo_len (S : DevS) (i : Nat) (h : i ≤ S.zones.length) : (flushTo S i).zones.length = S.zones.length := by simp [flushTo]; omega
theorem flushTo_get {S : DevS} {i : Nat} (h : i < S.zones.length) : (flushTo S i).zone (i : Int) = S.zones[i] := by
  have e : ((S.zones.take i).map DevS.allSure).length = i := by simp; omega
  simp only [flushTo, DevS.zone, Int.toNat_natCast, List.getD_eq_getElem?_getD]
  rw [List.getElem?_append_right (by omega), e, List.getElem?_drop]
  simp [h]
theorem flushTo_is {S : DevS} {i : Nat} (h : i < S.zones.length) : (flushTo S i).is (i : Int) = true := by
  rw [DevS.is_iff, flushTo_len S i (by omega)]
  omega
theorem flushTo_succ {S : DevS} {i : Nat} (h : i < S.zones.length) : (flushTo S i).put (i : Int) (DevS.allSure S.zones[i]) = flushTo S (i + 1) := by
  have e : ((S.zones.take i).map DevS.allSure).length = i := by simp; omega
  simp only [flushTo, DevS.put, Int.toNat_natCast]
  congr 1
  rw [List.set_append_right _ _ (by omega), e, Nat.sub_self, List.take_succ_eq_append_getElem h, List.map_append, List.append_assoc]
  congr 1
  rw [List.drop_eq_getElem_cons h]
  rfl
theorem flushTo_wf {S : DevS} (h : S.WF) (i : Nat) : (flushTo S i).WF := by
  refine ⟨?_, ?_, h.p0, h.p1, h.l0, h.l1, fun z hz => ?_⟩
  · have := h.z0; simp [flushTo]; omega
  · have := h.z1; simp [flushTo]; omega
  · simp only [flushTo, List.mem_append, List.mem_map] at hz
    rcases hz with ⟨y, hy, rfl⟩ | hz
    · have := h.pages y (List.mem_of_mem_take hy)
      exact ⟨this.1, Nat.le_refl _, this.2.2⟩
    · exact h.pages z (List.mem_of_mem_drop hz)

set_option maxHeartbeats 1000000 in
theorem rflush_at {F : Nat → Prop} {w : World} {db zb cap : Nat} {zs : List Value} {S : DevS} (h : RD F w db zb cap zs S) (hd : S.done ≤ 1000000) : Calls Tryd.prog 41 #[.pointer (some ⟨db, 0, none⟩)] w (DoneIs F db S.flush (S.mayE 0) w) := by
  have HH := Lib.hid h
  have hz0 : (S.mayS 0).zones.length = S.zones.length := by rw [DevS.mayS_zones]
  obtain ⟨n, hn⟩ : ∃ n, S.zones.length = n := ⟨_, rfl⟩
  have hnb : 1 ≤ n ∧ n ≤ 24 := by rw [← hn]; exact ⟨h.wf.z0, h.wf.z1⟩
  rw [hn] at hz0
  have HN := Lib.hid hn
  clear h hn
  go_enter Tryd.func41, Tryd.ntmps41
  go_wp2_with fail
  refine (rmay_at 0 HH.out hd).mono ?_
  rintro r w1 ⟨rfl, hr, hk⟩
  have H1 := Lib.hid hr
  have HK := Lib.hid hk
  clear hr hk
  by_cases he : S.mayE 0 = 0
  · have HE := Lib.hid he
    rw [he]
    clear he
    go_wp2_with fail
    go_loopg [4] n (fun q x wr => ∃ (i : Nat) (zs : List Value), i ≤ n ∧ q = n - i ∧ x = .int .i64 i ∧ RD F wr db zb cap zs (flushTo (S.mayS 0) i) ∧ Kept F w wr)
    case atStart => exact ⟨0, zs, by omega, by omega, rfl, by rw [flushTo_zero]; exact H1.out, HK.out⟩
    case round =>
      clear H1 HK
      obtain ⟨i, zs, hi, hq, rfl, hr, hk⟩ := hrel
      have HQ := Lib.hid hq
      have H1 := Lib.hid hr
      have HK := Lib.hid hk
      have c0 := hr.c0
      rw [flushTo_len _ i (by omega), hz0] at c0
      clear hq hr hk
      by_cases hlt : i < n
      · have hlz : i < (S.mayS 0).zones.length := by omega
        have hfl := flushTo_len (S.mayS 0) i (by omega)
        obtain ⟨v, k0, _, _, hrows, hrl, _, hv0⟩ := H1.out.zone i (flushTo_is hlz)
        have hnth := H1.out.nth i (flushTo_is hlz)
        rw [flushTo_get hlz] at hrows hnth
        obtain ⟨A, c, vs, rfl, _⟩ := id hrows.out
        obtain ⟨pl, hpl⟩ : ∃ pl, (S.mayS 0).zones[i].pages.length = pl := ⟨_, rfl⟩
        rw [hpl] at k0 hv0 hrows
        have f1 := H1.out.blk.free (i * 3 + 1)
        have g1 : wr.cell? ⟨zb, i * 3 + 1, none⟩ = some zs[i * 3 + 1] := H1.out.blk.cell (i * 3 + 1) (by omega)
        have HB : Hid (Blk (wr.setCell ⟨zb, i * 3 + 1, none⟩ (.int .i64 (pl : Int))) zb 79 (zs.set (i * 3 + 1) (.int .i64 (pl : Int)))) := Lib.hid (H1.out.blk.put _ _)
        have HKZ : Hid (Kept (fun k => k = zb) wr (wr.setCell ⟨zb, i * 3 + 1, none⟩ (.int .i64 (pl : Int)))) := Lib.hid (kept_put _ _ _ _)
        have HZ := Lib.hid (set_one (zs := zs) (k := i * 3 + 1) (.int .i64 (pl : Int)) (by omega))
        have HRD := Lib.hid (H1.out.setZone (i := i) (z := DevS.allSure (S.mayS 0).zones[i]) (v := .slice A pl c) (by omega) HB.out HKZ.out HZ.out.1 (fun k h0 h1 h2 => HZ.out.2.1 k h1) (by rw [HZ.out.2.1 _ (by omega)]; exact hv0) (by rw [HZ.out.2.2]; simp [DevS.allSure, hpl]) (by rw [HZ.out.2.1 _ (by omega)]; exact hnth.2) (hrows.keep HKZ.out (fun k hk => hk.2.2)) (by rw [flushTo_succ hlz]; exact flushTo_wf (DevS.mayS_wf HH.out.wf 0) _))
        rw [flushTo_succ hlz] at HRD
        have HK2 := Lib.hid (HK.out.and (HKZ.out.mono (fun k _ e => e ▸ H1.out.fz)))
        generalize zs[i * 3 + 1] = z1 at *
        clear hrows hnth hv0 hpl
        go_wp2_with fail
        go_region
        go_wp2_with fail
        go_roundg (n - (i + 1))
        case rel => exact ⟨i + 1, _, by omega, rfl, by go_num, HRD.out.up (Below.refl _ _).drew, HK2.out.drew⟩
        case measure => have := HQ.out; omega
      · obtain rfl : i = n := by omega
        have HF : Hid (flushTo (S.mayS 0) i = S.flush) := Lib.hid (by
          rw [← hz0, flushTo_all]
          unfold DevS.flush
          rw [if_pos HE.out, DevS.mayS_zones])
        go_wp2_with fail
        go_ret
        exact ⟨ret_int (by rw [HE.out]), ⟨zb, cap, zs, by have := H1.out.grow (w := w); rwa [HF.out] at this⟩, HK.out⟩
  · have HE := Lib.hid he
    have qe : (S.mayE 0 == 0) = false := by simpa using he
    obtain ⟨me, hme⟩ : ∃ me, S.mayE 0 = me := ⟨_, rfl⟩
    have HME := Lib.hid hme
    have c0 := H1.out.c0
    rw [hz0] at c0
    rw [hme] at qe ⊢
    clear he hme
    go_wp2_with fail
    go_loopg [4] 0 (fun q x wr => q = 0 ∧ x = .int .i64 0 ∧ w1 = wr)
    case atStart => exact ⟨rfl, rfl, rfl⟩
    case round =>
      obtain ⟨_, rfl, rfl⟩ := hrel
      go_wp2_with fail
      go_ret
      exact ⟨ret_int (by rw [HME.out]), done_not (_e := me) H1.out HK.out (by unfold DevS.flush; rw [if_neg HE.out])⟩
end Go.Proofs.YtljpkngbhdplbaaDoor
