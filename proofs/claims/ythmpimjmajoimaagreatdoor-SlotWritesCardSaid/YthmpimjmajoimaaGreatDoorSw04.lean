/-
  The document's device: may; cells that are stored.
  The document's device: Reset, Finish, Fuse, Flush, Read.
  The document's device: Finish, Fuse, Flush.
  The document's device: Flush, Read.
  The document's device: Read.
-/
import Derived.Test.YthmpimjmajoimaaGreatDoorSw03
import Derived.Deep.LoopGhost
namespace Go.Proofs.YthmpimjmajoimaaGreatDoor
open Go.RowKit

def devCells (zb cap : Nat) (S : DevS) : List Value := [.slice (some ⟨zb, 0, none⟩) S.zones.length cap, .int .i64 (S.P : Int), .int .i64 S.left, .int .i64 (S.done : Int), .bool S.gone]
theorem kept_put (w : World) (g o : Nat) (v : Value) : Kept (fun k => k = g) w (w.setCell ⟨g, o, none⟩ v) := (Kept.refl (fun k => k = g) w).put (.inl rfl) o v
theorem RD.setDev {F : Nat → Prop} {w : World} {db zb cap : Nat} {zs : List Value} {S S' : DevS} (h : RD F w db zb cap zs S) (k : Nat) (v : Value) (hc : (devCells zb cap S).set k v = devCells zb cap S') (hz : S'.zones = S.zones) (hwf : S'.WF) : RD F (w.setCell ⟨db, k, none⟩ v) db zb cap zs S' := by
  have hk := kept_put w db k v
  refine ⟨?_, hk.blk h.blk (fun e => h.ne e.symm), ?_, by rw [hz]; exact h.room, h.len, h.fd, h.fz, h.ne, fun i hi => Nat.lt_of_lt_of_le (h.lt i hi) hk.size, hwf⟩
  · have := Blk.put h.dev k v
    rwa [show ([.slice (some ⟨zb, 0, none⟩) S.zones.length cap, .int .i64 (S.P : Int), .int .i64 S.left, .int .i64 (S.done : Int), .bool S.gone] : List Value).set k v = devCells zb cap S' from hc] at this
  · intro i hi
    have hi' : i < S.zones.length := by rw [← hz]; exact hi
    obtain ⟨x, a, b, c, d⟩ := h.row i hi'
    have e : S'.zones[i] = S.zones[i] := by simp only [hz]
    rw [e]
    exact ⟨x, a, b, c, d.keep hk (fun j hj => hj.2.1)⟩
theorem zrow_len {zs : List Value} {n cap i : Nat} (h1 : n ≤ cap) (h2 : zs.length = 3 * cap) (h3 : i < n) : i * 3 + 2 < zs.length := by omega
/-- One zone's cells are stored anew. -/
theorem RD.setZone {F : Nat → Prop} {w w' : World} {db zb cap i : Nat} {zs zs' : List Value} {S : DevS} {z : ZoneS} {v : Value} (h : RD F w db zb cap zs S) (_hi : i < S.zones.length) (hz : Blk w' zb 84 zs') (hk : Kept (fun k => k = zb) w w') (hl : zs'.length = zs.length)
    (hs : ∀ k, k ≠ i * 3 → k ≠ i * 3 + 1 → k ≠ i * 3 + 2 → zs'[k]? = zs[k]?) (h0 : zs'[i * 3]? = some v) (h1 : zs'[i * 3 + 1]? = some (.int .i64 (z.sure : Int))) (h2 : zs'[i * 3 + 2]? = some (.bool z.fin)) (hr : RowsF (fun k => F k ∧ k ≠ db ∧ k ≠ zb) w' v z.pages) (hwf : (S.put (i : Int) z).WF) :
    RD F w' db zb cap zs' (S.put (i : Int) z) := by
  refine ⟨?_, hz, ?_, by simp only [DevS.put, List.length_set]; exact h.room, by rw [hl]; exact h.len, h.fd, h.fz, h.ne, fun j hj => Nat.lt_of_lt_of_le (h.lt j hj) hk.size, hwf⟩
  · have := hk.blk h.dev h.ne
    simpa only [DevS.put, List.length_set] using this
  · intro j hj
    simp only [DevS.put, List.length_set, Int.toNat_natCast] at hj ⊢
    by_cases e : i = j
    · subst e
      rw [List.getElem_set_self]
      exact ⟨v, h0, h1, h2, hr⟩
    · rw [List.getElem_set_ne e]
      obtain ⟨x, a, b, c, d⟩ := h.row j hj
      exact ⟨x, by rw [hs _ (by omega) (by omega) (by omega)]; exact a, by rw [hs _ (by omega) (by omega) (by omega)]; exact b, by rw [hs _ (by omega) (by omega) (by omega)]; exact c, d.keep hk (fun k hk2 => hk2.2.2)⟩

def MayIs (F : Nat → Prop) (db zb cap : Nat) (zs : List Value) (S : DevS) (e : Int) (w : World) (r : Ending) (w' : World) : Prop := r = .returned (.int .i64 (S.mayE e)) ∧ RD F w' db zb cap zs (S.mayS e) ∧ Kept F w w'
theorem rmay_at {F : Nat → Prop} {w : World} {db zb cap : Nat} {zs : List Value} {S : DevS} (e : Int) (h : RD F w db zb cap zs S) (hd : S.done ≤ 1000000) : Calls Tryz.prog 83 #[.pointer (some ⟨db, 0, none⟩), .int .i64 e] w (MayIs F db zb cap zs S e w) := by
  have HH := Lib.hid h
  have c2 := h.c2
  have c3 := h.c3
  have c4 := h.c4
  have f2 := h.dev.free 2
  have f3 := h.dev.free 3
  have f4 := h.dev.free 4
  have HL := Lib.hid (DevS.mayS_wf h.wf e)
  by_cases hg : S.gone = true
  · have HE : Hid (S.mayE e = 7 ∧ S.mayS e = S) := Lib.hid (by unfold DevS.mayE DevS.mayS; rw [if_pos hg, if_pos hg]; exact ⟨rfl, rfl⟩)
    rw [hg] at c4
    clear h hg
    go_enter Tryz.func83, Tryz.ntmps83
    go_wp2_with fail
    go_ret
    exact ⟨ret_int (by rw [HE.out.1]), by rw [HE.out.2]; exact HH.out, Kept.refl _ _⟩
  · have hg2 : S.gone = false := by simpa using hg
    rw [hg2] at c4
    by_cases he : e = 0
    · have qe : (e == 0) = true := by simp [he]
      by_cases hl : S.left = 0
      · have HE : Hid (S.mayE e = 7 ∧ S.mayS e = { S with gone := true }) := Lib.hid ⟨by simp [DevS.mayE, hg2, he, hl], by simp [DevS.mayS, hg2, he, hl]⟩
        rw [hl] at c2
        have HR : Hid (RD F (w.setCell ⟨db, 4, none⟩ (.bool true)) db zb cap zs (S.mayS e)) := Lib.hid (by
          rw [HE.out.2]
          exact h.setDev 4 _ rfl rfl (by rw [← HE.out.2]; exact HL.out))
        have HK := Lib.hid ((Kept.refl F w).put (.inl h.fd) 4 (.bool true))
        subst he
        clear h hg hg2 hl HL
        go_enter Tryz.func83, Tryz.ntmps83
        go_wp2_with fail
        go_ret
        exact ⟨ret_int (by rw [HE.out.1]), HR.out, HK.out⟩
      · have ql : (S.left == 0) = false := by simpa using hl
        by_cases hp : 0 < S.left
        · have HE : Hid (S.mayE e = 0 ∧ S.mayS e = { S with left := S.left - 1, done := S.done + 1 }) := Lib.hid ⟨by simp [DevS.mayE, hg2, he, hl], by simp [DevS.mayS, hg2, he, hl, hp]⟩
          have hl1 := h.wf.l1
          have hw1 : ({ S with left := S.left - 1 } : DevS).WF := ⟨h.wf.z0, h.wf.z1, h.wf.p0, h.wf.p1, by simp only; omega, by simp only; omega, h.wf.pages⟩
          have H1 := h.setDev (S' := { S with left := S.left - 1 }) 2 (.int .i64 (S.left - 1)) rfl rfl hw1
          have HR : Hid (RD F ((w.setCell ⟨db, 2, none⟩ (.int .i64 (S.left - 1))).setCell ⟨db, 3, none⟩ (.int .i64 ((S.done : Int) + 1))) db zb cap zs (S.mayS e)) := Lib.hid (by
            rw [HE.out.2]
            refine H1.setDev 3 _ ?_ rfl (by rw [← HE.out.2]; exact HL.out)
            simp [devCells])
          have HK := Lib.hid (((Kept.refl F w).put (.inl h.fd) 2 (.int .i64 (S.left - 1))).put (.inl h.fd) 3 (.int .i64 ((S.done : Int) + 1)))
          generalize S.left = sl at *
          generalize S.done = sd at *
          subst he
          clear h hg hg2 H1 hw1 HL
          go_enter Tryz.func83, Tryz.ntmps83
          go_wp2_with fail
          go_ret
          exact ⟨ret_int (by rw [HE.out.1]), HR.out, HK.out⟩
        · have HE : Hid (S.mayE e = 0 ∧ S.mayS e = { S with done := S.done + 1 }) := Lib.hid ⟨by simp [DevS.mayE, hg2, he, hl], by simp [DevS.mayS, hg2, he, hl, hp]⟩
          have HR : Hid (RD F (w.setCell ⟨db, 3, none⟩ (.int .i64 ((S.done : Int) + 1))) db zb cap zs (S.mayS e)) := Lib.hid (by
            rw [HE.out.2]
            refine h.setDev 3 _ ?_ rfl (by rw [← HE.out.2]; exact HL.out)
            simp [devCells])
          have HK := Lib.hid ((Kept.refl F w).put (.inl h.fd) 3 (.int .i64 ((S.done : Int) + 1)))
          generalize S.left = sl at *
          generalize S.done = sd at *
          have hp2 : sl ≤ 0 := by omega
          subst he
          clear h hg hg2 HL
          go_enter Tryz.func83, Tryz.ntmps83
          go_wp2_with fail
          go_ret
          exact ⟨ret_int (by rw [HE.out.1]), HR.out, HK.out⟩
    · have qe : (e == 0) = false := by simpa using he
      have HE : Hid (S.mayE e = e ∧ S.mayS e = S) := Lib.hid ⟨by simp [DevS.mayE, hg2, he], by simp [DevS.mayS, hg2, he]⟩
      clear h hg hg2
      go_enter Tryz.func83, Tryz.ntmps83
      go_wp2_with fail
      go_ret
      exact ⟨ret_int (by rw [HE.out.1]), by rw [HE.out.2]; exact HH.out, Kept.refl _ _⟩
end Go.Proofs.YthmpimjmajoimaaGreatDoor
namespace Go.Proofs.YthmpimjmajoimaaGreatDoor
open Go.RowKit

theorem RD.grow {F : Nat → Prop} {w w' : World} {db zb cap : Nat} {zs : List Value} {S : DevS} (h : RD F w' db zb cap zs S) : RD (grow F w w') w' db zb cap zs S :=
  ⟨h.dev, h.blk, fun i hi => by obtain ⟨v, a, b, c, d⟩ := h.row i hi; exact ⟨v, a, b, c, d.mono (fun k hk => ⟨.inl hk.1, hk.2⟩)⟩, h.room, h.len, .inl h.fd, .inl h.fz, h.ne, fun k hk => hk.elim (h.lt k) (fun x => x.2), h.wf⟩
/-- What a call does that answers an error's code. -/
def DoneIs (F : Nat → Prop) (db : Nat) (S' : DevS) (e : Int) (w : World) (r : Ending) (w' : World) : Prop := r = .returned (.int .i64 e) ∧ RDev (grow F w w') w' db S' ∧ Kept F w w'

theorem set_three {zs : List Value} {k : Nat} (a b c : Value) (h : k + 2 < zs.length) :
    (((zs.set k a).set (k + 1) b).set (k + 2) c).length = zs.length ∧ (∀ j, j ≠ k → j ≠ k + 1 → j ≠ k + 2 → (((zs.set k a).set (k + 1) b).set (k + 2) c)[j]? = zs[j]?) ∧ (((zs.set k a).set (k + 1) b).set (k + 2) c)[k]? = some a ∧ (((zs.set k a).set (k + 1) b).set (k + 2) c)[k + 1]? = some b ∧ (((zs.set k a).set (k + 1) b).set (k + 2) c)[k + 2]? = some c := by
  refine ⟨by simp, fun j h1 h2 h3 => ?_, ?_, ?_, ?_⟩
  · simp [Ne.symm h1, Ne.symm h2, Ne.symm h3]
  · simp [List.getElem?_set]; omega
  · simp [List.getElem?_set]; omega
  · simp [List.getElem?_set]; omega
theorem set_one {zs : List Value} {k : Nat} (a : Value) (h : k < zs.length) : (zs.set k a).length = zs.length ∧ (∀ j, j ≠ k → (zs.set k a)[j]? = zs[j]?) ∧ (zs.set k a)[k]? = some a :=
  ⟨by simp, fun j h1 => by simp [Ne.symm h1], by simp [h]⟩
/-- A zone's cells by number. -/
theorem RD.nth {F : Nat → Prop} {w : World} {db zb cap : Nat} {zs : List Value} {S : DevS} (h : RD F w db zb cap zs S) (i : Nat) (hi : S.is (i : Int) = true) :
    zs[i * 3 + 1]? = some (.int .i64 ((S.zone i).sure : Int)) ∧ zs[i * 3 + 2]? = some (.bool (S.zone i).fin) := by
  have hlt : i < S.zones.length := by have := (DevS.is_iff.1 hi).2; omega
  obtain ⟨v, a, b, c, d⟩ := h.row i hlt
  rw [DevS.zone_out hi]
  exact ⟨b, c⟩
theorem is_may {S : DevS} (e n : Int) : (S.mayS e).is n = S.is n := by unfold DevS.is; rw [DevS.mayS_zones]
theorem zone_may {S : DevS} (e n : Int) : (S.mayS e).zone n = S.zone n := by unfold DevS.zone; rw [DevS.mayS_zones]
theorem mayE_pos {S : DevS} {e : Int} (he : e ≠ 0) : S.mayE e ≠ 0 := fun h => he (DevS.mayE_ok h).1

theorem rreset_at {F : Nat → Prop} {w : World} {db zb cap : Nat} {zs : List Value} {S : DevS} (n : Int) (h : RD F w db zb cap zs S) (hd : S.done ≤ 1000000) : Calls Tryz.prog 41 #[.pointer (some ⟨db, 0, none⟩), .int .i64 n] w (DoneIs F db (S.reset n) (S.mayE (S.resetE n)) w) := by
  have HH := Lib.hid h
  by_cases hi : S.is n = true
  · obtain ⟨hn0, hn1⟩ := DevS.is_iff.1 hi
    obtain ⟨i, rfl⟩ := Int.eq_ofNat_of_zero_le hn0
    have hlt : i < S.zones.length := by omega
    have HR : Hid (S.resetE (i : Int) = 0) := Lib.hid (by unfold DevS.resetE; rw [if_pos hi])
    have HI := Lib.hid hi
    clear h hi hn0
    go_enter Tryz.func41, Tryz.ntmps41
    go_wp2_with fail
    refine (ris_at _ HH.out).mono ?_
    rintro r w' ⟨rfl, rfl⟩
    rw [HI.out]
    go_wp2_with fail
    refine (rmay_at 0 HH.out hd).mono ?_
    rintro r w1 ⟨rfl, hr, hk⟩
    have H1 := Lib.hid hr
    have HK := Lib.hid hk
    clear hr hk
    by_cases he : S.mayE 0 = 0
    · have HE := Lib.hid he
      have hz0 : (S.mayS 0).zones.length = S.zones.length := by rw [DevS.mayS_zones]
      have c0 := H1.out.c0
      rw [hz0] at c0
      have hrl := zrow_len H1.out.room H1.out.len (i := i) (by rw [hz0]; exact hlt)
      have f0 := H1.out.blk.free (i * 3)
      have f1 := H1.out.blk.free (i * 3 + 1)
      have f2 := H1.out.blk.free (i * 3 + 2)
      have g0 : w1.cell? ⟨zb, i * 3, none⟩ = some zs[i * 3] := H1.out.blk.cell (i * 3) (by omega)
      have g1 : w1.cell? ⟨zb, i * 3 + 1, none⟩ = some zs[i * 3 + 1] := H1.out.blk.cell (i * 3 + 1) (by omega)
      have g2 : w1.cell? ⟨zb, i * 3 + 2, none⟩ = some zs[i * 3 + 2] := H1.out.blk.cell (i * 3 + 2) (by omega)
      have HB : Hid (Blk (((w1.setCell ⟨zb, i * 3, none⟩ (.slice none 0 0)).setCell ⟨zb, i * 3 + 1, none⟩ (.int .i64 0)).setCell ⟨zb, i * 3 + 2, none⟩ (.bool false)) zb 84 (((zs.set (i * 3) (.slice none 0 0)).set (i * 3 + 1) (.int .i64 0)).set (i * 3 + 2) (.bool false))) := Lib.hid (((H1.out.blk.put _ _).put _ _).put _ _)
      have HKZ : Hid (Kept (fun k => k = zb) w1 (((w1.setCell ⟨zb, i * 3, none⟩ (.slice none 0 0)).setCell ⟨zb, i * 3 + 1, none⟩ (.int .i64 0)).setCell ⟨zb, i * 3 + 2, none⟩ (.bool false))) := Lib.hid ((((Kept.refl (fun k => k = zb) w1).put (.inl rfl) _ _).put (.inl rfl) _ _).put (.inl rfl) _ _)
      have HZ := Lib.hid (set_three (.slice none 0 0) (.int .i64 0) (.bool false) hrl)
      have HWF : Hid (((S.mayS 0).put (i : Int) ZoneS.empty).WF) := Lib.hid (by
        have := DevS.reset_wf HH.out.wf (i : Int)
        unfold DevS.reset at this
        rwa [HR.out, if_pos HE.out] at this)
      have HRD := Lib.hid (H1.out.setZone (i := i) (z := ZoneS.empty) (v := .slice none 0 0) (by rw [hz0]; exact hlt) HB.out HKZ.out HZ.out.1 HZ.out.2.1 HZ.out.2.2.1 HZ.out.2.2.2.1 HZ.out.2.2.2.2 (RowsF.nil _ _) HWF.out)
      rw [show (S.mayS 0).put (i : Int) ZoneS.empty = S.reset (i : Int) by unfold DevS.reset; rw [HR.out, if_pos HE.out]] at HRD
      rw [he]
      generalize zs[i * 3] = z0 at *
      generalize zs[i * 3 + 1] = z1 at *
      generalize zs[i * 3 + 2] = z2 at *
      clear he
      go_wp2_with fail
      go_ret
      exact ⟨ret_int (by rw [HR.out, HE.out]), ⟨zb, cap, _, HRD.out.grow⟩, HK.out.and (HKZ.out.mono (fun k _ e => e ▸ H1.out.fz))⟩
    · have HE := Lib.hid he
      have qe : (S.mayE 0 == 0) = false := by simpa using he
      obtain ⟨me, hme⟩ : ∃ me, S.mayE 0 = me := ⟨_, rfl⟩
      have HME := Lib.hid hme
      rw [hme] at qe ⊢
      clear he hme
      go_wp2_with fail
      go_ret
      refine ⟨ret_int (by rw [HR.out, HME.out]), ⟨zb, cap, zs, (?_ : RD F _ db zb cap _ _).grow⟩, HK.out⟩
      unfold DevS.reset
      rw [HR.out, if_neg HE.out]
      exact H1.out
  · have HI : Hid (S.is n = false) := Lib.hid (by simpa using hi)
    have HR : Hid (S.resetE n = 1) := Lib.hid (by unfold DevS.resetE; rw [if_neg hi])
    have HE := Lib.hid (mayE_pos (S := S) (e := 1) (by decide))
    have qe : (S.mayE 1 == 0) = false := by simpa using HE.out
    obtain ⟨me, hme⟩ : ∃ me, S.mayE 1 = me := ⟨_, rfl⟩
    have HME := Lib.hid hme
    rw [hme] at qe
    clear h hi hme
    go_enter Tryz.func41, Tryz.ntmps41
    go_wp2_with fail
    refine (ris_at _ HH.out).mono ?_
    rintro r w' ⟨rfl, rfl⟩
    rw [HI.out]
    go_wp2_with fail
    refine (rmay_at 1 HH.out hd).mono ?_
    rintro r w1 ⟨rfl, hr, hk⟩
    have H1 := Lib.hid hr
    have HK := Lib.hid hk
    clear hr hk
    rw [HME.out]
    go_wp2_with fail
    go_ret
    refine ⟨ret_int (by rw [HR.out, HME.out]), ⟨zb, cap, zs, (?_ : RD F _ db zb cap _ _).grow⟩, HK.out⟩
    unfold DevS.reset
    rw [HR.out, if_neg HE.out]
    exact H1.out
end Go.Proofs.YthmpimjmajoimaaGreatDoor
namespace Go.Proofs.YthmpimjmajoimaaGreatDoor
open Go.RowKit

/-- A call that was not done: the device as may leaves it. -/
theorem done_not {F : Nat → Prop} {w w1 : World} {db zb cap : Nat} {zs : List Value} {S S' : DevS} {_e : Int} (h1 : RD F w1 db zb cap zs S') (hk : Kept F w w1) (hs : S' = S) : RDev (grow F w w1) w1 db S ∧ Kept F w w1 := by
  subst hs
  exact ⟨⟨zb, cap, zs, h1.grow⟩, hk⟩

theorem rfuse_at {F : Nat → Prop} {w : World} {db zb cap : Nat} {zs : List Value} {S : DevS} (n : Int) (h : RD F w db zb cap zs S) (hn : n ≤ 9223372036854775807) : Calls Tryz.prog 12 #[.pointer (some ⟨db, 0, none⟩), .int .i64 n] w (fun r w' => r = .returned (.tuple #[]) ∧ RDev (grow F w w') w' db (S.fuse n) ∧ Kept F w w') := by
  have HH := Lib.hid h
  have c2 := h.c2
  have f2 := h.dev.free 2
  have hwf := DevS.fuse_wf h.wf n hn
  by_cases h0 : n < 0
  · have HS : Hid (S.fuse n = { S with left := -1 }) := Lib.hid (by unfold DevS.fuse; rw [if_pos h0])
    have HWF := Lib.hid hwf
    have HR : Hid (RD F (w.setCell ⟨db, 2, none⟩ (.int .i64 (-1))) db zb cap zs (S.fuse n)) := Lib.hid (by
      rw [HS.out]
      exact h.setDev 2 _ rfl rfl (by rw [← HS.out]; exact hwf))
    have HR2 : Hid (RD F ((w.setCell ⟨db, 2, none⟩ (.int .i64 n)).setCell ⟨db, 2, none⟩ (.int .i64 (-1))) db zb cap zs (S.fuse n)) := Lib.hid (by
      have := HR.out
      rw [HS.out] at this ⊢
      refine ⟨?_, ?_, ?_, this.room, this.len, this.fd, this.fz, this.ne, ?_, this.wf⟩
      · have h2 := (Blk.put h.dev 2 (.int .i64 n)).put 2 (.int .i64 (-1))
        simpa using h2
      · exact (kept_put _ db 2 _).blk ((kept_put w db 2 _).blk h.blk (fun e => h.ne e.symm)) (fun e => h.ne e.symm)
      · intro i hi
        obtain ⟨v, a, b, c, d⟩ := h.row i hi
        exact ⟨v, a, b, c, (d.keep (kept_put w db 2 (.int .i64 n)) (fun j hj => hj.2.1)).keep (kept_put _ db 2 _) (fun j hj => hj.2.1)⟩
      · intro k hk
        have := this.lt k hk
        simpa [World.setCell] using this)
    have HK := Lib.hid (((Kept.refl F w).put (.inl h.fd) 2 (.int .i64 n)).put (.inl h.fd) 2 (.int .i64 (-1)))
    clear h hwf
    go_enter Tryz.func12, Tryz.ntmps12
    go_wp2_with fail
    go_end0
    exact ⟨rfl, ⟨zb, cap, zs, HR2.out.grow⟩, HK.out⟩
  · have HS : Hid (S.fuse n = { S with left := n }) := Lib.hid (by unfold DevS.fuse; rw [if_neg h0])
    have HR : Hid (RD F (w.setCell ⟨db, 2, none⟩ (.int .i64 n)) db zb cap zs (S.fuse n)) := Lib.hid (by
      rw [HS.out]
      exact h.setDev 2 _ rfl rfl (by rw [← HS.out]; exact hwf))
    have HK := Lib.hid ((Kept.refl F w).put (.inl h.fd) 2 (.int .i64 n))
    have hq : 0 ≤ n := by omega
    clear h hwf h0
    go_enter Tryz.func12, Tryz.ntmps12
    go_wp2_with fail
    go_end0
    exact ⟨rfl, ⟨zb, cap, zs, HR.out.grow⟩, HK.out⟩
end Go.Proofs.YthmpimjmajoimaaGreatDoor
namespace Go.Proofs.YthmpimjmajoimaaGreatDoor
open Go.RowKit

/-- The first i zones are sure. -/
def flushTo (S : DevS) (i : Nat) : DevS := { S with zones := (S.zones.take i).map DevS.allSure ++ S.zones.drop i }
theorem flushTo_zero (S : DevS) : flushTo S 0 = S := by simp [flushTo]
theorem flushTo_all (S : DevS) : flushTo S S.zones.length = { S with zones := S.zones.map DevS.allSure } := by simp [flushTo]
theorem flushTo_len (S : DevS) (i : Nat) (h : i ≤ S.zones.length) : (flushTo S i).zones.length = S.zones.length := by simp [flushTo]; omega
theorem flushTo_get {S : DevS} {i : Nat} (h : i < S.zones.length) : (flushTo S i).zone (i : Int) = S.zones[i] := by
  have e : ((S.zones.take i).map DevS.allSure).length = i := by simp; omega
  simp only [flushTo, DevS.zone, Int.toNat_natCast, List.getD_eq_getElem?_getD]
  rw [List.getElem?_append_right (by omega), e, List.getElem?_drop]
  simp [h]
theorem flushTo_is {S : DevS} {i : Nat} (h : i < S.zones.length) : (flushTo S i).is (i : Int) = true := by
  rw [DevS.is_iff, flushTo_len S i (by omega)]
  omega
theorem flushTo_succ {S : DevS} {i : Nat} (h : i < S.zones.length) : (flushTo S i).put (i : Int) (DevS.allSure S.zones[i]) = flushTo S (i + 1) := by
  have e : ((S.zones.take i).map DevS.allSure).length = i := by simp; omega
  simp only [flushTo, DevS.put, Int.toNat_natCast]
  congr 1
  rw [List.set_append_right _ _ (by omega), e, Nat.sub_self, List.take_succ_eq_append_getElem h, List.map_append, List.append_assoc]
  congr 1
  rw [List.drop_eq_getElem_cons h]
  rfl
theorem flushTo_wf {S : DevS} (h : S.WF) (i : Nat) : (flushTo S i).WF := by
  refine ⟨?_, ?_, h.p0, h.p1, h.l0, h.l1, fun z hz => ?_⟩
  · have := h.z0; simp [flushTo]; omega
  · have := h.z1; simp [flushTo]; omega
  · simp only [flushTo, List.mem_append, List.mem_map] at hz
    rcases hz with ⟨y, hy, rfl⟩ | hz
    · have := h.pages y (List.mem_of_mem_take hy)
      exact ⟨this.1, Nat.le_refl _, this.2.2⟩
    · exact h.pages z (List.mem_of_mem_drop hz)

set_option maxHeartbeats 1000000 in
theorem rflush_at {F : Nat → Prop} {w : World} {db zb cap : Nat} {zs : List Value} {S : DevS} (h : RD F w db zb cap zs S) (hd : S.done ≤ 1000000) : Calls Tryz.prog 44 #[.pointer (some ⟨db, 0, none⟩)] w (DoneIs F db S.flush (S.mayE 0) w) := by
  have HH := Lib.hid h
  have hz0 : (S.mayS 0).zones.length = S.zones.length := by rw [DevS.mayS_zones]
  obtain ⟨n, hn⟩ : ∃ n, S.zones.length = n := ⟨_, rfl⟩
  have hnb : 1 ≤ n ∧ n ≤ 24 := by rw [← hn]; exact ⟨h.wf.z0, h.wf.z1⟩
  rw [hn] at hz0
  have HN := Lib.hid hn
  clear h hn
  go_enter Tryz.func44, Tryz.ntmps44
  go_wp2_with fail
  refine (rmay_at 0 HH.out hd).mono ?_
  rintro r w1 ⟨rfl, hr, hk⟩
  have H1 := Lib.hid hr
  have HK := Lib.hid hk
  clear hr hk
  by_cases he : S.mayE 0 = 0
  · have HE := Lib.hid he
    rw [he]
    clear he
    go_wp2_with fail
    go_loopg [4] n (fun q x wr => ∃ (i : Nat) (zs : List Value), i ≤ n ∧ q = n - i ∧ x = .int .i64 i ∧ RD F wr db zb cap zs (flushTo (S.mayS 0) i) ∧ Kept F w wr)
    case atStart => exact ⟨0, zs, by omega, by omega, rfl, by rw [flushTo_zero]; exact H1.out, HK.out⟩
    case round =>
      clear H1 HK
      obtain ⟨i, zs, hi, hq, rfl, hr, hk⟩ := hrel
      have HQ := Lib.hid hq
      have H1 := Lib.hid hr
      have HK := Lib.hid hk
      have c0 := hr.c0
      rw [flushTo_len _ i (by omega), hz0] at c0
      clear hq hr hk
      by_cases hlt : i < n
      · have hlz : i < (S.mayS 0).zones.length := by omega
        have hfl := flushTo_len (S.mayS 0) i (by omega)
        obtain ⟨v, k0, _, _, hrows, hrl, _, hv0⟩ := H1.out.zone i (flushTo_is hlz)
        have hnth := H1.out.nth i (flushTo_is hlz)
        rw [flushTo_get hlz] at hrows hnth
        obtain ⟨A, c, vs, rfl, _⟩ := id hrows.out
        obtain ⟨pl, hpl⟩ : ∃ pl, (S.mayS 0).zones[i].pages.length = pl := ⟨_, rfl⟩
        rw [hpl] at k0 hv0 hrows
        have f1 := H1.out.blk.free (i * 3 + 1)
        have g1 : wr.cell? ⟨zb, i * 3 + 1, none⟩ = some zs[i * 3 + 1] := H1.out.blk.cell (i * 3 + 1) (by omega)
        have HB : Hid (Blk (wr.setCell ⟨zb, i * 3 + 1, none⟩ (.int .i64 (pl : Int))) zb 84 (zs.set (i * 3 + 1) (.int .i64 (pl : Int)))) := Lib.hid (H1.out.blk.put _ _)
        have HKZ : Hid (Kept (fun k => k = zb) wr (wr.setCell ⟨zb, i * 3 + 1, none⟩ (.int .i64 (pl : Int)))) := Lib.hid (kept_put _ _ _ _)
        have HZ := Lib.hid (set_one (zs := zs) (k := i * 3 + 1) (.int .i64 (pl : Int)) (by omega))
        have HRD := Lib.hid (H1.out.setZone (i := i) (z := DevS.allSure (S.mayS 0).zones[i]) (v := .slice A pl c) (by omega) HB.out HKZ.out HZ.out.1 (fun k h0 h1 h2 => HZ.out.2.1 k h1) (by rw [HZ.out.2.1 _ (by omega)]; exact hv0) (by rw [HZ.out.2.2]; simp [DevS.allSure, hpl]) (by rw [HZ.out.2.1 _ (by omega)]; exact hnth.2) (hrows.keep HKZ.out (fun k hk => hk.2.2)) (by rw [flushTo_succ hlz]; exact flushTo_wf (DevS.mayS_wf HH.out.wf 0) _))
        rw [flushTo_succ hlz] at HRD
        have HK2 := Lib.hid (HK.out.and (HKZ.out.mono (fun k _ e => e ▸ H1.out.fz)))
        generalize zs[i * 3 + 1] = z1 at *
        clear hrows hnth hv0 hpl
        go_wp2_with fail
        go_region
        go_wp2_with fail
        go_roundg (n - (i + 1))
        case rel => exact ⟨i + 1, _, by omega, rfl, by go_num, HRD.out.up (Below.refl _ _).drew, HK2.out.drew⟩
        case measure => have := HQ.out; omega
      · obtain rfl : i = n := by omega
        have HF : Hid (flushTo (S.mayS 0) i = S.flush) := Lib.hid (by
          rw [← hz0, flushTo_all]
          unfold DevS.flush
          rw [if_pos HE.out, DevS.mayS_zones])
        go_wp2_with fail
        go_ret
        exact ⟨ret_int (by rw [HE.out]), ⟨zb, cap, zs, by have := H1.out.grow (w := w); rwa [HF.out] at this⟩, HK.out⟩
  · have HE := Lib.hid he
    have qe : (S.mayE 0 == 0) = false := by simpa using he
    obtain ⟨me, hme⟩ : ∃ me, S.mayE 0 = me := ⟨_, rfl⟩
    have HME := Lib.hid hme
    have c0 := H1.out.c0
    rw [hz0] at c0
    rw [hme] at qe ⊢
    clear he hme
    go_wp2_with fail
    go_loopg [4] 0 (fun q x wr => q = 0 ∧ x = .int .i64 0 ∧ w1 = wr)
    case atStart => exact ⟨rfl, rfl, rfl⟩
    case round =>
      obtain ⟨_, rfl, rfl⟩ := hrel
      go_wp2_with fail
      go_ret
      exact ⟨ret_int (by rw [HME.out]), done_not (_e := me) H1.out HK.out (by unfold DevS.flush; rw [if_neg HE.out])⟩
end Go.Proofs.YthmpimjmajoimaaGreatDoor
namespace Go.Proofs.YthmpimjmajoimaaGreatDoor
open Go.RowKit

/-- The value v is a slice that reads as these bytes. -/
def BytV (w : World) (v : Value) (xs : List Int) : Prop := ∃ A c, v = .slice A xs.length c ∧ xs.length ≤ c ∧ Rd w w.heap.size A xs ∧ (A = none → c = 0)
theorem BytV.nil (w : World) : BytV w (.slice none 0 0) [] := ⟨none, 0, rfl, by simp, Rd.nil, fun _ => rfl⟩
theorem BytV.up {w u : World} {v : Value} {xs : List Int} (h : BytV w v xs) (hb : Below w.heap.size w u) : BytV u v xs := by
  obtain ⟨A, c, e, hc, hr, h0⟩ := h
  exact ⟨A, c, e, hc, rd_up hr hb, h0⟩
theorem R8v {w : World} {base : Nat} {v : Value} {xs : List Int} (h : w.ownsRow base 5 1 v xs.length (cellsOf8 xs)) : BytV w v xs := by
  rcases h.2 with ⟨rfl, h0⟩ | ⟨g, cap, cur, rfl, _, _, hn, _⟩
  · have e : xs = [] := List.eq_nil_of_length_eq_zero h0
    subst e
    exact BytV.nil w
  · obtain ⟨A, c, e, hc, hr⟩ := Rd.of_own h
    injection e with e1 e2 e3
    subst e1 e3
    exact ⟨_, _, rfl, hc, hr, fun e => by cases e⟩
/-- Bytes that were made behind w. -/
def BytN (w w' : World) (v : Value) (xs : List Int) : Prop := BytF (fun k => w.heap.size ≤ k ∧ k < w'.heap.size) w' v xs
theorem BytN.nil (w w' : World) : BytN w w' (.slice none 0 0) [] := ⟨none, 0, rfl, by simp, Rd.nil, (InF.none _).n, fun _ => rfl⟩
def ReadOf (xs : List Int) (e : Int) (w : World) (r : Ending) (w' : World) : Prop := ∃ v, r = .returned (.tuple #[v, .int .i64 e]) ∧ BytN w w' v xs ∧ Below w.heap.size w w'
theorem ReadOf.none (e : Int) (w w' : World) (hb : Below w.heap.size w w') : ReadOf [] e w (.returned (.tuple #[.slice none 0 0, .int .i64 e])) w' := ⟨_, rfl, BytN.nil _ _, hb⟩
theorem readB_no {S : DevS} {n p e : Int} (h : S.readE n p = e) (he : e ≠ 0) : S.readB n p = [] := by unfold DevS.readB; rw [if_neg (by rw [h]; exact he)]

set_option maxHeartbeats 1000000 in
set_option maxRecDepth 100000 in
theorem rread_at {F : Nat → Prop} {w : World} {db zb cap : Nat} {zs : List Value} {S : DevS} (n p : Int) (h : RD F w db zb cap zs S) : Calls Tryz.prog 50 #[.pointer (some ⟨db, 0, none⟩), .int .i64 n, .int .i64 p] w (ReadOf (S.readB n p) (S.readE n p) w) := by
  have HH := Lib.hid h
  have c4 := h.c4
  by_cases hg : S.gone = true
  · have HE : Hid (S.readE n p = 7) := Lib.hid (by unfold DevS.readE; rw [if_pos hg])
    have HB := Lib.hid (readB_no HE.out (by decide))
    rw [hg] at c4
    clear h hg
    go_enter Tryz.func50, Tryz.ntmps50
    go_wp2_with fail
    go_ret2
    rw [HE.out, HB.out]
    exact ReadOf.none 7 w w (Below.refl _ _)
  · have hg2 : S.gone = false := by simpa using hg
    rw [hg2] at c4
    have c0 := h.c0
    have c1 := h.c1
    by_cases hi : S.is n = true
    · obtain ⟨i, rfl⟩ := Int.eq_ofNat_of_zero_le (DevS.is_iff.1 hi).1
      have HI := Lib.hid hi
      by_cases hp0 : p < 0
      · have HE : Hid (S.readE (i : Int) p = 1) := Lib.hid (by simp [DevS.readE, hg2, hp0])
        have HB := Lib.hid (readB_no HE.out (by decide))
        clear h hg hg2 hi
        go_enter Tryz.func50, Tryz.ntmps50
        go_wp2_with fail
        refine (ris_at _ HH.out).mono ?_
        rintro r w' ⟨rfl, rfl⟩
        rw [HI.out]
        go_wp2_with fail
        go_ret2
        rw [HE.out, HB.out]
        exact ReadOf.none 1 w w (Below.refl _ _)
      · by_cases hp1 : (S.P : Int) ≤ p
        · have HE : Hid (S.readE (i : Int) p = 1) := Lib.hid (by simp [DevS.readE, hg2, hp1])
          have HB := Lib.hid (readB_no HE.out (by decide))
          generalize S.P = P at *
          clear h hg hg2 hi
          go_enter Tryz.func50, Tryz.ntmps50
          go_wp2_with fail
          refine (ris_at _ HH.out).mono ?_
          rintro r w' ⟨rfl, rfl⟩
          rw [HI.out]
          go_wp2_with fail
          go_ret2
          rw [HE.out, HB.out]
          exact ReadOf.none 1 w w (Below.refl _ _)
        · obtain ⟨j, rfl⟩ := Int.eq_ofNat_of_zero_le (show 0 ≤ p by omega)
          obtain ⟨v, k0, _, _, hrows, hrl, hlt, _⟩ := h.zone i hi
          obtain ⟨A, c, vs, rfl, hc, hrv, hf, hA0, hvl, hx⟩ := hrows.out
          have hpl := (h.wf.pages _ (DevS.zone_mem hi)).1
          have hp16 := h.wf.p1
          have hpg := (h.wf.pages _ (DevS.zone_mem hi)).2.2
          have hjP : j < S.P := by omega
          obtain ⟨Z, hZ⟩ : ∃ Z, (S.zone (i : Int)).pages = Z := ⟨_, rfl⟩
          have HZ := Lib.hid hZ
          rw [hZ] at k0 hc hvl hx hpl hpg
          obtain ⟨m, hm⟩ : ∃ m, Z.length = m := ⟨_, rfl⟩
          rw [hm] at k0 hc hvl hpl
          by_cases hjm : m ≤ j
          · have HE : Hid (S.readE (i : Int) (j : Int) = 8) := Lib.hid (by
              have h1 : ¬ (S.P : Int) ≤ (j : Int) := hp1
              simp [DevS.readE, hg2, hi, HZ.out, hm]
              omega)
            have HB := Lib.hid (readB_no HE.out (by decide))
            generalize S.P = P at *
            clear h hg hg2 hi hrows hx hrv hf hA0 hpg hZ
            go_enter Tryz.func50, Tryz.ntmps50
            go_wp2_with fail
            refine (ris_at _ HH.out).mono ?_
            rintro r w' ⟨rfl, rfl⟩
            rw [HI.out]
            go_wp2_with fail
            go_ret2
            rw [HE.out, HB.out]
            exact ReadOf.none 8 w w (Below.refl _ _)
          · have hjm2 : j < m := by omega
            obtain ⟨b, o, rfl, hbl, hcell⟩ := hrv (by omega)
            have cj := hcell j (by omega)
            obtain ⟨A1, c1', e1, hc1, hr1, _, h01⟩ := hx j (by omega) (by omega)
            rw [e1] at cj
            have hgd : Z.getD j [] = Z[j]'(by omega) := by simp [List.getD_eq_getElem?_getD, List.getElem?_eq_getElem (show j < Z.length by omega)]
            have hp33 := hpg _ (List.getElem_mem (show j < Z.length by omega))
            have HEE : Hid (S.readE (i : Int) (j : Int) = if (Z[j]'(by omega)).length = 0 then 6 else 0) := Lib.hid (by
              have h1 : ¬ (S.P : Int) ≤ (j : Int) := hp1
              have h2 : ¬ (m : Int) ≤ (j : Int) := by omega
              have h3 : ¬ S.P ≤ j := by omega
              have h4 : ¬ m ≤ j := by omega
              simp only [DevS.readE, hg2, hi, HZ.out, hm, Int.toNat_natCast, hgd]
              simp [h3, h4]
              intro hneg
              omega)
            have HBB : Hid (S.readE (i : Int) (j : Int) = 0 → S.readB (i : Int) (j : Int) = Z[j]'(by omega)) := Lib.hid (fun he => by
              unfold DevS.readB
              rw [if_pos he, HZ.out, Int.toNat_natCast, hgd])
            have HR1 := Lib.hid hr1
            have H01 := Lib.hid h01
            generalize Z[j]'(by omega) = x at *
            by_cases hx0 : x.length = 0
            · have HE : Hid (S.readE (i : Int) (j : Int) = 6) := Lib.hid (by rw [HEE.out, if_pos hx0])
              have HB := Lib.hid (readB_no HE.out (by decide))
              rw [hx0] at cj
              generalize S.P = P at *
              clear h hg hg2 hi hrows hx hrv hf hA0 hpg hZ hcell hr1 h01 e1 hgd HEE HBB hp33
              go_enter Tryz.func50, Tryz.ntmps50
              go_wp2_with fail
              refine (ris_at _ HH.out).mono ?_
              rintro r w' ⟨rfl, rfl⟩
              rw [HI.out]
              go_wp2_with fail
              go_ret2
              rw [HE.out, HB.out]
              exact ReadOf.none 6 w w (Below.refl _ _)
            · have HE : Hid (S.readE (i : Int) (j : Int) = 0) := Lib.hid (by rw [HEE.out, if_neg hx0])
              have HB := Lib.hid (HBB.out HE.out)
              have hx33 : x.length = 33 := by omega
              have HX := Lib.hid hx33
              rw [hx33] at cj
              have HO := Lib.hid (Own8.none w w.heap.size (Nat.le_refl _))
              have HBE := Lib.hid (Below.alloc (Below.refl w.heap.size w) (Nat.le_refl _) (.cells #[] 5))
              have c0a := (HBE.out.cell (p := ⟨db, 0, none⟩) (lt_of_block HH.out.dev)).trans c0
              have k0a := (HBE.out.cell (p := ⟨zb, i * 3, none⟩) (lt_of_block HH.out.blk)).trans k0
              have cja := (HBE.out.cell (p := ⟨b, o + j, none⟩) hbl).trans cj
              generalize S.P = P at *
              clear h hg hg2 hi hrows hx hrv hf hA0 hpg hZ hcell hr1 h01 e1 hgd HEE HBB hp33 hx0 hx33
              go_enter Tryz.func50, Tryz.ntmps50
              go_wp2_with fail
              refine (ris_at _ HH.out).mono ?_
              rintro r w' ⟨rfl, rfl⟩
              rw [HI.out]
              go_wp2_with (first
                | (at_builtin; refine app8 _ rfl (.tmp 52) (.tmp 63) rfl w.heap.size w.heap.size w.heap.size 0 0 33 c1' [] x A1 rfl HO.out rfl rfl (HR1.out.below HBE.out) HX.out H01.out ?h1a ?h1b ?h1c ?_; (case h1a => omega); (case h1b => omega); (case h1c => exact HBE.out.size); intro g3 cap3 w3 hown hgr; have HO3 := Lib.hid (show Own8 w3 w.heap.size g3 cap3 x from hown); have HB3 := Lib.hid (HBE.out.grown hgr HBE.out.size (fun q hq => by have := Option.some.inj hq; omega)); clear hown hgr)
                | fail)
              go_ret2
              rw [HE.out, HB.out]
              have hcp := HO3.out.cap
              have hmm := HO3.out.ownG.mem
              exact ⟨_, rfl, ⟨some ⟨g3, 0, none⟩, cap3, by rw [HX.out]; rfl, hcp, HO3.out.rd, (InF.one hmm).n, fun e => by cases e⟩, HB3.out⟩
    · have HI : Hid (S.is n = false) := Lib.hid (by simpa using hi)
      have HE : Hid (S.readE n p = 1) := Lib.hid (by simp [DevS.readE, hg2, HI.out])
      have HB := Lib.hid (readB_no HE.out (by decide))
      clear h hg hg2 hi
      go_enter Tryz.func50, Tryz.ntmps50
      go_wp2_with fail
      refine (ris_at _ HH.out).mono ?_
      rintro r w' ⟨rfl, rfl⟩
      rw [HI.out]
      go_wp2_with fail
      go_ret2
      rw [HE.out, HB.out]
      exact ReadOf.none 1 w w (Below.refl _ _)
end Go.Proofs.YthmpimjmajoimaaGreatDoor
