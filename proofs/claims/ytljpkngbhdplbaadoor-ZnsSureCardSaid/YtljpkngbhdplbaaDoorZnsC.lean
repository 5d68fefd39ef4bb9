/-
  The document's device: Reset, Finish, Fuse, Flush, Read.
-/
import Derived.Test.YtljpkngbhdplbaaDoorZnsB
namespace Go.Proofs.YtljpkngbhdplbaaDoor
open Go.RowKit

theorem RD.grow {F : Nat → Prop} {w w' : World} {db zb cap : Nat} {zs : List Value} {S : DevS} (h : RD F w' db zb cap zs S) : RD (grow F w w') w' db zb cap zs S :=
  ⟨h.dev, h.blk, fun i hi => by obtain ⟨v, a, b, c, d⟩ := h.row i hi; exact ⟨v, a, b, c, d.mono (fun k hk => ⟨.inl hk.1, hk.2⟩)⟩, h.room, h.len, .inl h.fd, .inl h.fz, h.ne, fun k hk => hk.elim (h.lt k) (fun x => x.2), h.wf⟩
/-- What a call does that answers an error's code. -/
def DoneIs (F : Nat → Prop) (db : Nat) (S' : DevS) (e : Int) (w : World) (r : Ending) (w' : World) : Prop := r = .returned (.int .i64 e) ∧ RDev (grow F w w') w' db S' ∧ Kept F w w'

theorem set_three {zs : List Value} {k : Nat} (a b c : Value) (h : k + 2 < zs.length) :
    (((zs.set k a).set (k + 1) b).set (k + 2) c).length = zs.length ∧ (∀ j, j ≠ k → j ≠ k + 1 → j ≠ k + 2 → (((zs.set k a).set (k + 1) b).set (k + 2) c)[j]? = zs[j]?) ∧ (((zs.set k a).set (k + 1) b).set (k + 2) c)[k]? = some a ∧ (((zs.set k a).set (k + 1) b).set (k + 2) c)[k + 1]? = some b ∧ (((zs.set k a).set (k + 1) b).set (k + 2) c)[k + 2]? = some c := by
  refine ⟨by simp, fun j h1 h2 h3 => ?_, ?_, ?_, ?_⟩
  · simp [Ne.symm h1, Ne.symm h2, Ne.symm h3]
  · simp [List.getElem?_set]; omega
  · simp [List.getElem?_set]; omega
  · simp [List.getElem?_set]; omega
theorem set_one {zs : List Value} {k : Nat} (a : Value) (h : k < zs.length) : (zs.set k a).length = zs.length ∧ (∀ j, j ≠ k → (zs.set k a)[j]? = zs[j]?) ∧ (zs.set k a)[k]? = some a :=
  ⟨by simp, fun j h1 => by simp [Ne.symm h1], by simp [h]⟩
/-- A zone's cells by number. -/
theorem RD.nth {F : Nat → Prop} {w : World} {db zb cap : Nat} {zs : List Value} {S : DevS} (h : RD F w db zb cap zs S) (i : Nat) (hi : S.is (i : Int) = true) :
    zs[i * 3 + 1]? = some (.int .i64 ((S.zone i).sure : Int)) ∧ zs[i * 3 + 2]? = some (.bool (S.zone i).fin) := by
  have hlt : i < S.zones.length := by have := (DevS.is_iff.1 hi).2; omega
  obtain ⟨v, a, b, c, d⟩ := h.row i hlt
  rw [DevS.zone_out hi]
  exact ⟨b, c⟩
theorem is_may {S : DevS} (e n : Int) : (S.mayS e).is n = S.is n := by unfold DevS.is; rw [DevS.mayS_zones]
theorem zone_may {S : DevS} (e n : Int) : (S.mayS e).zone n = S.zone n := by unfold DevS.zone; rw [DevS.mayS_zones]
theorem mayE_pos {S : DevS} {e : Int} (he : e ≠ 0) : S.mayE e ≠ 0 := fun h => he (DevS.mayE_ok h).1

theorem rreset_at {F : Nat → Prop} {w : World} {db zb cap : Nat} {zs : List Value} {S : DevS} (n : Int) (h : RD F w db zb cap zs S) (hd : S.done ≤ 1000000) : Calls Tryd.prog 39 #[.pointer (some ⟨db, 0, none⟩), .int .i64 n] w (DoneIs F db (S.reset n) (S.mayE (S.resetE n)) w) := by
  have HH := Lib.hid h
  by_cases hi : S.is n = true
  · obtain ⟨hn0, hn1⟩ := DevS.is_iff.1 hi
    obtain ⟨i, rfl⟩ := Int.eq_ofNat_of_zero_le hn0
    have hlt : i < S.zones.length := by omega
    have HR : Hid (S.resetE (i : Int) = 0) := Lib.hid (by unfold DevS.resetE; rw [if_pos hi])
    have HI := Lib.hid hi
    clear h hi hn0
    go_enter Tryd.func39, Tryd.ntmps39
    go_wp2_with fail
    refine (ris_at _ HH.out).mono ?_
    rintro r w' ⟨rfl, rfl⟩
    rw [HI.out]
    go_wp2_with fail
    refine (rmay_at 0 HH.out hd).mono ?_
    rintro r w1 ⟨rfl, hr, hk⟩
    have H1 := Lib.hid hr
    have HK := Lib.hid hk
    clear hr hk
    by_cases he : S.mayE 0 = 0
    · have HE := Lib.hid he
      have hz0 : (S.mayS 0).zones.length = S.zones.length := by rw [DevS.mayS_zones]
      have c0 := H1.out.c0
      rw [hz0] at c0
      have hrl := zrow_len H1.out.room H1.out.len (i := i) (by rw [hz0]; exact hlt)
      have f0 := H1.out.blk.free (i * 3)
      have f1 := H1.out.blk.free (i * 3 + 1)
      have f2 := H1.out.blk.free (i * 3 + 2)
      have g0 : w1.cell? ⟨zb, i * 3, none⟩ = some zs[i * 3] := H1.out.blk.cell (i * 3) (by omega)
      have g1 : w1.cell? ⟨zb, i * 3 + 1, none⟩ = some zs[i * 3 + 1] := H1.out.blk.cell (i * 3 + 1) (by omega)
      have g2 : w1.cell? ⟨zb, i * 3 + 2, none⟩ = some zs[i * 3 + 2] := H1.out.blk.cell (i * 3 + 2) (by omega)
      have HB : Hid (Blk (((w1.setCell ⟨zb, i * 3, none⟩ (.slice none 0 0)).setCell ⟨zb, i * 3 + 1, none⟩ (.int .i64 0)).setCell ⟨zb, i * 3 + 2, none⟩ (.bool false)) zb 79 (((zs.set (i * 3) (.slice none 0 0)).set (i * 3 + 1) (.int .i64 0)).set (i * 3 + 2) (.bool false))) := Lib.hid (((H1.out.blk.put _ _).put _ _).put _ _)
      have HKZ : Hid (Kept (fun k => k = zb) w1 (((w1.setCell ⟨zb, i * 3, none⟩ (.slice none 0 0)).setCell ⟨zb, i * 3 + 1, none⟩ (.int .i64 0)).setCell ⟨zb, i * 3 + 2, none⟩ (.bool false))) := Lib.hid ((((Kept.refl (fun k => k = zb) w1).put (.inl rfl) _ _).put (.inl rfl) _ _).put (.inl rfl) _ _)
      have HZ := Lib.hid (set_three (.slice none 0 0) (.int .i64 0) (.bool false) hrl)
      have HWF : Hid (((S.mayS 0).put (i : Int) ZoneS.empty).WF) := Lib.hid (by
        have := DevS.reset_wf HH.out.wf (i : Int)
        unfold DevS.reset at this
        rwa [HR.out, if_pos HE.out] at this)
      have HRD := Lib.hid (H1.out.setZone (i := i) (z := ZoneS.empty) (v := .slice none 0 0) (by rw [hz0]; exact hlt) HB.out HKZ.out HZ.out.1 HZ.out.2.1 HZ.out.2.2.1 HZ.out.2.2.2.1 HZ.out.2.2.2.2 (RowsF.nil _ _) HWF.out)
      rw [show (S.mayS 0).put (i : Int) ZoneS.empty = S.reset (i : Int) by unfold DevS.reset; rw [HR.out, if_pos HE.out]] at HRD
      rw [he]
      generalize zs[i * 3] = z0 at *
      generalize zs[i * 3 + 1] = z1 at *
      generalize zs[i * 3 + 2] = z2 at *
      clear he
      go_wp2_with fail
      go_ret
      exact ⟨ret_int (by rw [HR.out, HE.out]), ⟨zb, cap, _, HRD.out.grow⟩, HK.out.and (HKZ.out.mono (fun k _ e => e ▸ H1.out.fz))⟩
    · have HE := Lib.hid he
      have qe : (S.mayE 0 == 0) = false := by simpa using he
      obtain ⟨me, hme⟩ : ∃ me, S.mayE 0 = me := ⟨_, rfl⟩
      have HME := Lib.hid hme
      rw [hme] at qe ⊢
      clear he hme
      go_wp2_with fail
      go_ret
      refine ⟨ret_int (by rw [HR.out, HME.out]), ⟨zb, cap, zs, (?_ : RD F _ db zb cap _ _).grow⟩, HK.out⟩
      unfold DevS.reset
      rw [HR.out, if_neg HE.out]
      exact H1.out
  · have HI : Hid (S.is n = false) := Lib.hid (by simpa using hi)
    have HR : Hid (S.resetE n = 1) := Lib.hid (by unfold DevS.resetE; rw [if_neg hi])
    have HE := Lib.hid (mayE_pos (S := S) (e := 1) (by decide))
    have qe : (S.mayE 1 == 0) = false := by simpa using HE.out
    obtain ⟨me, hme⟩ : ∃ me, S.mayE 1 = me := ⟨_, rfl⟩
    have HME := Lib.hid hme
    rw [hme] at qe
    clear h hi hme
    go_enter Tryd.func39, Tryd.ntmps39
    go_wp2_with fail
    refine (ris_at _ HH.out).mono ?_
    rintro r w' ⟨rfl, rfl⟩
    rw [HI.out]
    go_wp2_with fail
    refine (rmay_at 1 HH.out hd).mono ?_
    rintro r w1 ⟨rfl, hr, hk⟩
    have H1 := Lib.hid hr
    have HK := Lib.hid hk
    clear hr hk
    rw [HME.out]
    go_wp2_with fail
    go_ret
    refine ⟨ret_int (by rw [HR.out, HME.out]), ⟨zb, cap, zs, (?_ : RD F _ db zb cap _ _).grow⟩, HK.out⟩
    unfold DevS.reset
    rw [HR.out, if_neg HE.out]
    exact H1.out
end Go.Proofs.YtljpkngbhdplbaaDoor
