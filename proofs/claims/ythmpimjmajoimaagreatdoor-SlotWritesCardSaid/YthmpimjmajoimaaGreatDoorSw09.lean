/-
  The landed device's closures: Reset's, Finish's, Flush's; and these calls.
  The landed device: Reset, Finish, Flush, Fuse.
-/
import Derived.Test.YthmpimjmajoimaaGreatDoorSw08
namespace Go.Proofs.YthmpimjmajoimaaGreatDoor
open Go.RowKit

section
variable {F G : Nat → Prop} {w w' : World} {db zb cap : Nat} {f : Int} {col : Nat → Nat} {zs : List Value} {S S' : DevS}
theorem LD.rounds {w0 : World} (h : LD (grow (grow F w0 w) w w') w' db zb cap f col zs S) (h1 : w0.heap.size ≤ w.heap.size) (h2 : w.heap.size ≤ w'.heap.size) : LD (grow F w0 w') w' db zb cap f col zs S :=
  h.mono (fun k hk => by
    rcases hk with (hk | hk) | hk
    · exact .inl hk
    · exact .inr ⟨hk.1, by omega⟩
    · exact .inr ⟨by omega, hk.2⟩) (fun k hk => by
    rcases hk with hk | hk
    · exact h.lt k (.inl (.inl hk))
    · exact hk.2)
/-- What a closure does with a device. -/
def ClosIs (F : Nat → Prop) (db : Nat) (S' : DevS) (w w' : World) : Prop := LDev (grow F w w') w' db S' ∧ Kept F w w'
theorem is_lt {n : Nat} (h : S.is (n : Int) = true) : n < S.zones.length := by have := (DevS.is_iff.1 h).2; omega
/-- Zone number i with the three cells written anew. -/
theorem LD.anew (h : LD F w db zb cap f col zs S) (i : Nat) (hi : S.is (i : Int) = true) (su : Nat) (fi : Bool) (hwf : (S.put (i : Int) ⟨[], su, fi⟩).WF) :
    LD F (((w.setCell ⟨zb, i * 3, none⟩ (.int .i64 (su : Int))).setCell ⟨zb, i * 3 + 1, none⟩ (.bool fi)).setCell ⟨zb, i * 3 + 2, none⟩ (.slice none 0 0)) db zb cap f col (((zs.set (i * 3) (.int .i64 (su : Int))).set (i * 3 + 1) (.bool fi)).set (i * 3 + 2) (.slice none 0 0)) (S.put (i : Int) ⟨[], su, fi⟩) ∧
    Kept F w (((w.setCell ⟨zb, i * 3, none⟩ (.int .i64 (su : Int))).setCell ⟨zb, i * 3 + 1, none⟩ (.bool fi)).setCell ⟨zb, i * 3 + 2, none⟩ (.slice none 0 0)) := by
  have hlt := is_lt hi
  have hl := h.len
  have hr := h.room
  have hz := set_three (zs := zs) (k := i * 3) (.int .i64 (su : Int)) (.bool fi) (.slice none 0 0) (by omega)
  have hk : Kept (fun k => k = zb) w (((w.setCell ⟨zb, i * 3, none⟩ (.int .i64 (su : Int))).setCell ⟨zb, i * 3 + 1, none⟩ (.bool fi)).setCell ⟨zb, i * 3 + 2, none⟩ (.slice none 0 0)) := (((Kept.refl (fun k => k = zb) w).put (.inl rfl) _ _).put (.inl rfl) _ _).put (.inl rfl) _ _
  have := h.setZone (col' := col) (i := i) (z := ⟨[], su, fi⟩) (v := .slice none 0 0) hlt (((h.blk.put _ _).put _ _).put _ _) (hk.mono (fun k _ e => .inl e)) hz.1 hz.2.1 hz.2.2.1 hz.2.2.2.1 hz.2.2.2.2 (fun _ _ => rfl) (Pg.nil _ _ _ _) hwf
  refine ⟨this.mono (fun k hk2 => hk2.elim id (fun x => ?_)) (fun k hk2 => Nat.lt_of_lt_of_le (h.lt k hk2) hk.size), hk.mono (fun k _ e => e ▸ h.fz)⟩
  have := x.2
  simp [World.setCell] at this
  omega
set_option maxHeartbeats 1000000 in
theorem lresetA_at (i pz : Nat) (h : LD F w db zb cap f col zs S) (hi : S.is (i : Int) = true) (hp : w.cell? ⟨pz, 0, none⟩ = some (.pointer (some ⟨zb, i * 3, none⟩))) (hpz : ¬ F pz) :
    Calls Tryz.prog 105 #[.pointer (some ⟨pz, 0, none⟩)] w fun r w' => r = .returned (.tuple #[]) ∧ ClosIs F db (S.put (i : Int) ZoneS.empty) w w' := by
  have HWF : Hid ((S.put (i : Int) ZoneS.empty).WF) := Lib.hid (DevS.put_wf h.wf _ ⟨Nat.zero_le _, Nat.le_refl _, fun b hb => by cases hb⟩)
  have HA := Lib.hid (h.anew i hi 0 false HWF.out)
  obtain ⟨v, k0, k1, k2, _, hl, _⟩ := h.zone i hi
  have f0 := h.blk.free (i * 3)
  have f1 := h.blk.free (i * 3 + 1)
  have f2 := h.blk.free (i * 3 + 2)
  have hne : pz ≠ zb := fun e => hpz (e ▸ h.fz)
  have hne2 : ¬ zb = pz := fun e => hne e.symm
  clear h hi hpz
  go_enter Tryz.func105, Tryz.ntmps105
  go_wp2_with fail
  go_region
  go_wp2_with fail
  go_end0
  exact ⟨rfl, ⟨zb, cap, f, col, _, (HA.out.1.up (Below.refl _ _).drew).gro⟩, HA.out.2.drew⟩
theorem LD.flushed {w0 : World} (i : Nat) (h : LD (grow F w0 w) w db zb cap f col zs (flushTo S i)) (hlz : i < S.zones.length) (hwf : S.WF) (h1 : w0.heap.size ≤ w.heap.size) :
    ∃ A c, w.cell? ⟨zb, i * 3 + 2, none⟩ = some (.slice A (S.zones[i].pages.length) c) ∧ i * 3 + 2 < zs.length ∧
    LD (grow F w0 (w.setCell ⟨zb, i * 3, none⟩ (.int .i64 (S.zones[i].pages.length : Int)))) (w.setCell ⟨zb, i * 3, none⟩ (.int .i64 (S.zones[i].pages.length : Int))) db zb cap f col (zs.set (i * 3) (.int .i64 (S.zones[i].pages.length : Int))) (flushTo S (i + 1)) := by
  have hi := flushTo_is hlz
  obtain ⟨v, k0, k1, k2, hpg, hl, hlt, z0, z1, z2⟩ := h.zone i hi
  rw [flushTo_get hlz] at z0 z1 hpg k0 k1
  obtain ⟨A, c, rfl⟩ := hpg.form
  refine ⟨A, c, k2, hl, ?_⟩
  have hz := set_one (zs := zs) (k := i * 3) (.int .i64 (S.zones[i].pages.length : Int)) (by omega)
  have hk := kept_put w zb (i * 3) (.int .i64 (S.zones[i].pages.length : Int))
  have := h.setZone (col' := col) (i := i) (z := DevS.allSure S.zones[i]) (v := .slice A (S.zones[i].pages.length) c) hlt (h.blk.put (i * 3) (.int .i64 (S.zones[i].pages.length : Int))) (hk.mono (fun k _ e => .inl e)) hz.1 (fun k h0 _ _ => hz.2.1 k h0) (by rw [hz.2.2]; rfl) (by rw [hz.2.1 _ (by omega)]; exact z1) (by rw [hz.2.1 _ (by omega)]; exact z2) (fun _ _ => rfl)
    ((hpg.keep hk (fun k hk2 _ => hk2.2.2)).mono (fun k hk2 _ => ⟨⟨.inl hk2.1, hk2.2⟩, rfl⟩)) (by rw [flushTo_succ hlz]; exact flushTo_wf hwf _)
  rw [flushTo_succ hlz] at this
  exact this.rounds h1 hk.size
set_option maxHeartbeats 1000000 in
theorem lflushA_at (pd : Nat) (h : LD F w db zb cap f col zs S) (hp : w.cell? ⟨pd, 0, none⟩ = some (.pointer (some ⟨db, 0, none⟩))) (hpd : ¬ F pd) (hpl : pd < w.heap.size) :
    Calls Tryz.prog 108 #[.pointer (some ⟨pd, 0, none⟩)] w fun r w' => r = .returned (.tuple #[]) ∧ ClosIs F db { S with zones := S.zones.map DevS.allSure } w w' := by
  have HH := Lib.hid h
  have c0 := h.c0
  obtain ⟨n, hn⟩ : ∃ n, S.zones.length = n := ⟨_, rfl⟩
  have hnb : 1 ≤ n ∧ n ≤ 24 := by rw [← hn]; exact ⟨h.wf.z0, h.wf.z1⟩
  rw [hn] at c0
  have HN := Lib.hid hn
  have HP := Lib.hid (And.intro hp (And.intro hpd hpl))
  clear h hn
  go_enter Tryz.func108, Tryz.ntmps108
  go_wp2_with fail
  go_loopg [8] n (fun q x wr => ∃ (i : Nat) (zs : List Value), i ≤ n ∧ q = n - i ∧ x = .int .i64 i ∧ LD (grow F w wr) wr db zb cap f col zs (flushTo S i) ∧ Kept F w wr)
  case atStart => exact ⟨0, zs, by omega, by omega, rfl, by rw [flushTo_zero]; exact HH.out.gro, Kept.refl _ _⟩
  case round =>
    clear c0 hp hpd hpl
    obtain ⟨i, zs, hi, hq, rfl, hr, hk⟩ := hrel
    have HQ := Lib.hid hq
    have HK := Lib.hid hk
    by_cases hlt : i < n
    · have hlz : i < S.zones.length := by have := HN.out; omega
      have c0 := hr.c0
      rw [flushTo_len _ i (by omega), HN.out] at c0
      have cp := hk.cell HP.out.1 HP.out.2.1
      have hzd : ¬ pd = zb := fun e => HP.out.2.1 (e ▸ HH.out.fz)
      obtain ⟨A, c, k2, hl, hrd⟩ := hr.flushed i hlz HH.out.wf hk.size
      have f0 := hr.blk.free (i * 3)
      have g0 : wr.cell? ⟨zb, i * 3, none⟩ = some zs[i * 3] := hr.blk.cell (i * 3) (by omega)
      have HRD := Lib.hid hrd
      have HK2 := Lib.hid (hk.put (.inl HH.out.fz) (i * 3) (.int .i64 (S.zones[i].pages.length : Int)))
      generalize zs[i * 3] = z0 at *
      generalize S.zones[i].pages.length = pl at *
      clear hq hr hk hrd hl
      go_wp2_with fail
      go_roundg (n - (i + 1))
      case rel => exact ⟨i + 1, _, by omega, rfl, by go_num, HRD.out, HK2.out⟩
      case measure => have := HQ.out; omega
    · obtain rfl : i = n := by omega
      have HF : Hid (flushTo S i = { S with zones := S.zones.map DevS.allSure }) := Lib.hid (by rw [← HN.out, flushTo_all])
      have H1 := Lib.hid hr
      clear hq hr hk
      go_wp2_with fail
      go_end0
      exact ⟨rfl, ⟨zb, cap, f, col, zs, by have := H1.out; rwa [HF.out] at this⟩, HK.out⟩
end
end Go.Proofs.YthmpimjmajoimaaGreatDoor
namespace Go.Proofs.YthmpimjmajoimaaGreatDoor
open Go.RowKit

section
variable {F G : Nat → Prop} {w w' : World} {db zb cap : Nat} {f : Int} {col : Nat → Nat} {zs : List Value} {S S' : DevS}
theorem LDev.rounds {w0 : World} (h : LDev (grow F w w') w' db S) (h1 : w0.heap.size ≤ w.heap.size) (_h2 : w.heap.size ≤ w'.heap.size) : LDev (grow F w0 w') w' db S := by
  obtain ⟨zb, cap, f, col, zs, h⟩ := h
  refine ⟨zb, cap, f, col, zs, h.mono (fun k hk => ?_) (fun k hk => ?_)⟩
  · rcases hk with hk | hk
    · exact .inl hk
    · exact .inr ⟨by omega, hk.2⟩
  · rcases hk with hk | hk
    · exact h.lt k (.inl hk)
    · exact hk.2
/-- What a call has done that asks spend. -/
theorem spend_done {w2 w4 : World} {r : Ending} {T : DevS} (h : LD F w db zb cap f col zs S) (hb : Below w.heap.size w w2) (hs : SpendIs F db zb cap col zs S (ClosIs F db T) w2 r w4) (hT : S.mayE 0 = 0 → S' = T) (hN : S.mayE 0 ≠ 0 → S' = S.mayS 0) :
    r = .returned (errV (S.mayE 0)) ∧ LDev (grow F w w4) w4 db S' ∧ Kept F w w4 := by
  have hk0 : Kept F w w2 := Kept.of_below hb
  rcases hs with ⟨he, rfl, w3, f', h3, hk3, h4, hk4⟩ | ⟨he, rfl, f', h3, hk3⟩
  · have hk3' : Kept F w2 w3 := hk3.mono (fun k _ e => e ▸ h.fd)
    rw [he, hT he]
    exact ⟨rfl, h4.rounds (Nat.le_trans hb.size hk3.size) hk4.size, (hk0.and hk3').and hk4⟩
  · rw [he, hN (by rw [he]; decide)]
    exact ⟨rfl, ⟨zb, cap, f', col, zs, h3.gro⟩, hk0.and (hk3.mono (fun k _ e => e ▸ h.fd))⟩
/-- A call that has done nothing. -/
theorem call_not {w2 : World} (h : LD F w db zb cap f col zs S) (hb : Below w.heap.size w w2) (hS : S' = S) : LDev (grow F w w2) w2 db S' ∧ Kept F w w2 := by
  subst hS
  exact ⟨⟨zb, cap, f, col, zs, (h.up hb).gro⟩, Kept.of_below hb⟩
theorem mayE_gone (hg : S.gone = true) (e : Int) : S.mayE e = 7 ∧ S.mayS e = S := ⟨by simp [DevS.mayE, hg], by simp [DevS.mayS, hg]⟩
theorem mayE_err {e : Int} (hg : S.gone = false) (he : e ≠ 0) : S.mayE e = e ∧ S.mayS e = S := ⟨by simp [DevS.mayE, hg, he], by simp [DevS.mayS, hg, he]⟩
theorem errV_7 : errV 7 = .iface 31 (.int .i64 7) := if_neg (by decide)
theorem errV_1 : errV 1 = .iface 31 (.int .i64 1) := if_neg (by decide)
theorem box_below {w1 : World} (hb : Below w.heap.size w w1) (u : Value) (T : TypeId) : Below w.heap.size w (w1.alloc (.cells #[u] T)) := hb.alloc hb.size _
theorem box_cell (w1 : World) (u : Value) (T : TypeId) : (w1.alloc (.cells #[u] T)).cell? ⟨w1.heap.size, 0, none⟩ = some u :=
  (show Blk (w1.alloc (.cells #[u] T)) w1.heap.size T [u] from heap_alloc_new w1 _).cell 0 (by simp)
theorem LD.not_new (h : LD F w db zb cap f col zs S) {g : Nat} (hg : w.heap.size ≤ g) : ¬ F g := fun e => by have := h.lt g e; omega
set_option maxHeartbeats 1000000 in
theorem lreset_at (n : Int) (h : LD F w db zb cap f col zs S) (hd : S.done ≤ 1000000) : Calls Tryz.prog 76 #[.pointer (some ⟨db, 0, none⟩), .int .i64 n] w (ZDone LDev F db (S.reset n) (errV (S.mayE (S.resetE n))) w) := by
  have HH := Lib.hid h
  have c4 := h.c4
  have hdb := lt_of_block h.dev
  by_cases hg : S.gone = true
  · have HE := Lib.hid (mayE_gone hg (S.resetE n))
    have HS : Hid (S.reset n = S) := Lib.hid (by unfold DevS.reset; rw [if_neg (by rw [HE.out.1]; decide), HE.out.2])
    rw [hg] at c4
    clear h hg
    go_enter Tryz.func76, Tryz.ntmps76
    go_wp2_with fail
    refine (lat_at n HH.out).mono ?_
    rintro r w1 ⟨b, o, A, c, fi, rfl, hb, _, _, _, _, _⟩
    have c4' := (hb.cell (p := ⟨db, 4, none⟩) hdb).trans c4
    have hdb1 : db < w1.heap.size := Nat.lt_of_lt_of_le hdb hb.size
    have hne : ¬ w1.heap.size = db := by omega
    have HB := Lib.hid (box_below hb (.pointer (some ⟨b, o, none⟩)) 127)
    clear hb c4 hdb
    go_wp2_with fail
    go_ret
    exact ⟨by rw [HE.out.1, errV_7]; rfl, call_not HH.out HB.out HS.out⟩
  · have hg2 : S.gone = false := by simpa using hg
    rw [hg2] at c4
    by_cases hi : S.is n = true
    · obtain ⟨i, rfl⟩ := Int.eq_ofNat_of_zero_le (DevS.is_iff.1 hi).1
      have HI := Lib.hid hi
      have HG := Lib.hid hg2
      have HE : Hid (S.resetE (i : Int) = 0) := Lib.hid (by unfold DevS.resetE; rw [if_pos hi])
      have HT : Hid (S.mayE 0 = 0 → S.reset (i : Int) = (S.mayS 0).put (i : Int) ZoneS.empty) := Lib.hid (fun he => by unfold DevS.reset; rw [HE.out, if_pos he])
      have HN : Hid (S.mayE 0 ≠ 0 → S.reset (i : Int) = S.mayS 0) := Lib.hid (fun he => by unfold DevS.reset; rw [HE.out, if_neg he])
      clear h hg hg2 hi
      go_enter Tryz.func76, Tryz.ntmps76
      go_wp2_with fail
      refine (lat_at (i : Int) HH.out).mono ?_
      rintro r w1 ⟨b, o, A, c, fi, rfl, hb, _, _, _, _, hx⟩
      obtain ⟨rfl, rfl, rfl, _⟩ := hx HI.out
      rw [HI.out, Int.toNat_natCast]
      have hne : ¬ w1.heap.size = db := by omega
      have HB := Lib.hid (box_below hb (.pointer (some ⟨b, i * 3, none⟩)) 127)
      have HC := Lib.hid (box_cell w1 (.pointer (some ⟨b, i * 3, none⟩)) 127)
      clear hb hx
      go_wp2_with fail
      refine (lspend_at 105 #[.pointer (some ⟨w1.heap.size, 0, none⟩)] (ClosIs F db ((S.mayS 0).put (i : Int) ZoneS.empty)) (HH.out.up HB.out) hd HG.out (enter_fn (fn := Tryz.f105) (by kernel_rfl) (by kernel_rfl) (by kernel_rfl) _) (fun _ w3 f' h3 hk3 => lresetA_at i w1.heap.size h3 (by rw [is_may]; exact HI.out) (hk3.cell HC.out (fun e => hne e)) (HH.out.not_new (Nat.le_refl _)))).mono ?_
      rintro r w4 hs
      obtain ⟨rfl, h1, h2⟩ := spend_done HH.out HB.out hs HT.out HN.out
      have H1 := Lib.hid h1
      have H2 := Lib.hid h2
      clear hs h1 h2
      go_wp2_with fail
      go_ret
      exact ⟨by rw [HE.out]; rfl, H1.out, H2.out⟩
    · have HI : Hid (S.is n = false) := Lib.hid (by simpa using hi)
      have HR : Hid (S.resetE n = 1) := Lib.hid (by unfold DevS.resetE; rw [if_neg hi])
      have HE := Lib.hid (mayE_err (e := 1) hg2 (by decide))
      have HS : Hid (S.reset n = S) := Lib.hid (by unfold DevS.reset; rw [HR.out, if_neg (by rw [HE.out.1]; decide), HE.out.2])
      clear h hg hg2 hi
      go_enter Tryz.func76, Tryz.ntmps76
      go_wp2_with fail
      refine (lat_at n HH.out).mono ?_
      rintro r w1 ⟨b, o, A, c, fi, rfl, hb, _, _, _, _, _⟩
      rw [HI.out]
      have c4' := (hb.cell (p := ⟨db, 4, none⟩) hdb).trans c4
      have hdb1 : db < w1.heap.size := Nat.lt_of_lt_of_le hdb hb.size
      have hne : ¬ w1.heap.size = db := by omega
      have HB := Lib.hid (box_below hb (.pointer (some ⟨b, o, none⟩)) 127)
      clear hb c4 hdb
      go_wp2_with fail
      go_ret
      exact ⟨by rw [HR.out, HE.out.1, errV_1]; rfl, call_not HH.out HB.out HS.out⟩
set_option maxHeartbeats 1000000 in
theorem lflush_at (h : LD F w db zb cap f col zs S) (hd : S.done ≤ 1000000) : Calls Tryz.prog 78 #[.pointer (some ⟨db, 0, none⟩)] w (ZDone LDev F db S.flush (errV (S.mayE 0)) w) := by
  have HH := Lib.hid h
  have c4 := h.c4
  have hdb := lt_of_block h.dev
  have hne : ¬ w.heap.size = db := by omega
  have HB := Lib.hid (box_below (Below.refl w.heap.size w) (.pointer (some ⟨db, 0, none⟩)) 25)
  have HC := Lib.hid (box_cell w (.pointer (some ⟨db, 0, none⟩)) 25)
  have HL : Hid (w.heap.size < (w.alloc (.cells #[.pointer (some ⟨db, 0, none⟩)] 25)).heap.size) := Lib.hid (by rw [World.size_alloc]; omega)
  by_cases hg : S.gone = true
  · have HE := Lib.hid (mayE_gone hg 0)
    have HS : Hid (S.flush = S) := Lib.hid (by unfold DevS.flush; rw [if_neg (by rw [HE.out.1]; decide), HE.out.2])
    rw [hg] at c4
    clear h hg
    go_enter Tryz.func78, Tryz.ntmps78
    go_wp2_with fail
    go_ret
    exact ⟨by rw [HE.out.1, errV_7]; rfl, call_not HH.out HB.out HS.out⟩
  · have hg2 : S.gone = false := by simpa using hg
    rw [hg2] at c4
    have HG := Lib.hid hg2
    have HT : Hid (S.mayE 0 = 0 → S.flush = { S.mayS 0 with zones := (S.mayS 0).zones.map DevS.allSure }) := Lib.hid (fun he => by unfold DevS.flush; rw [if_pos he, DevS.mayS_zones])
    have HN : Hid (S.mayE 0 ≠ 0 → S.flush = S.mayS 0) := Lib.hid (fun he => by unfold DevS.flush; rw [if_neg he])
    clear h hg hg2
    go_enter Tryz.func78, Tryz.ntmps78
    go_wp2_with fail
    refine (lspend_at 108 #[.pointer (some ⟨w.heap.size, 0, none⟩)] (ClosIs F db { S.mayS 0 with zones := (S.mayS 0).zones.map DevS.allSure }) (HH.out.up HB.out) hd HG.out (enter_fn (fn := Tryz.f108) (by kernel_rfl) (by kernel_rfl) (by kernel_rfl) _) (fun _ w3 f' h3 hk3 => lflushA_at w.heap.size h3 (hk3.cell HC.out (fun e => hne e)) (HH.out.not_new (Nat.le_refl _)) (Nat.lt_of_lt_of_le HL.out hk3.size))).mono ?_
    rintro r w4 hs
    obtain ⟨rfl, h1, h2⟩ := spend_done HH.out HB.out hs HT.out HN.out
    have H1 := Lib.hid h1
    have H2 := Lib.hid h2
    clear hs h1 h2
    go_wp2_with fail
    go_ret
    exact ⟨rfl, H1.out, H2.out⟩
theorem lfuse_at (n : Int) (h : LD F w db zb cap f col zs S) (hn : n ≤ 9223372036854775807) : Calls Tryz.prog 11 #[.pointer (some ⟨db, 0, none⟩), .int .i64 n] w (ZDone LDev F db (S.fuse n) (.tuple #[]) w) := by
  have c2 := h.c2
  have f2 := h.dev.free 2
  have HR : Hid (LD F (w.setCell ⟨db, 2, none⟩ (.int .i64 n)) db zb cap n col zs (S.fuse n)) := Lib.hid (h.setDev 2 _ rfl rfl rfl (DevS.fuse_wf h.wf n hn))
  have HK := Lib.hid ((Kept.refl F w).put (.inl h.fd) 2 (.int .i64 n))
  clear h
  go_enter Tryz.func11, Tryz.ntmps11
  go_wp2_with fail
  go_end0
  exact ⟨rfl, ⟨zb, cap, n, col, zs, HR.out.gro⟩, HK.out⟩
end
end Go.Proofs.YthmpimjmajoimaaGreatDoor
