/-
  The cache in memory: Put.
-/
import Derived.Test.YtmoagooabmmmgaaLcE
import Derived.Test.YtmoagooabmmmgaaHand
import Derived.Deep.DeepCutAuto
namespace Go.Proofs.Ytmoagooabmmmgaa
open Go.RowKit

theorem setE_twice {L : List CE} {x : Int} {f g : CE → CE} (hf : ∀ e, (f e).b = e.b) : setE (setE L x f) x g = setE L x (fun e => g (f e)) := by
  unfold setE
  rw [List.map_map]
  refine List.map_congr_left fun e _ => ?_
  simp only [Function.comp]
  by_cases h : (e.b : Int) = x
  · rw [if_pos h, if_pos (by rw [hf]; exact h), if_pos h]
  · rw [if_neg h, if_neg h, if_neg h]
namespace CaS
variable {S : CaS}
/-- A new entry. -/
def newS (S : CaS) (b a : Nat) (d : Bool) : CaS := { S with E := insE S.E ⟨b, a, d⟩, T := b :: S.T }
theorem put_new {b a : Nat} {d : Bool} (hh : S.has (b : Int) = false) (h64 : b < 64) (hl : S.E.length < S.n) : S.putS (b : Int) a d = S.newS b a d ∧ S.putB (b : Int) = true := by
  have hp : S.putB (b : Int) = true := by
    unfold putB
    rw [hh]
    simp
    omega
  refine ⟨?_, hp⟩
  unfold putS newS
  rw [if_neg (by simp [hh]), if_pos hp]
  rfl
theorem put_no {x : Int} {a : Nat} {d : Bool} (hh : S.has x = false) (hp : S.putB x = false) : S.putS x a d = S := by
  unfold putS
  rw [if_neg (by simp [hh]), if_neg (by simp [hp])]
/-- Some slot is free. -/
theorem free_room {σ : Nat → Nat} (hw : S.WF) (hr : (S.rk.map σ).WF) {s : Nat} (hs : s < S.n) (hno : (S.rk.map σ).has (s : Int) = false) : S.E.length < S.n := by
  have hnd := hr.nd
  have hnd : (S.T.map σ ++ S.K.map σ).Nodup := hnd
  have hns : s ∉ S.T.map σ ++ S.K.map σ := fun hm => by
    rw [RkS.has_of_mem (S := S.rk.map σ) hm] at hno
    cases hno
  have h1 : (s :: (S.T.map σ ++ S.K.map σ)).Nodup := List.nodup_cons.2 ⟨hns, hnd⟩
  have h2 := nd_sub (ys := List.range S.n) h1 (fun z hz => by
    rcases List.mem_cons.1 hz with rfl | hz
    · simpa using hs
    · have : z < S.n := hr.lt z hz
      simpa using this)
  have h3 : (S.T.map σ ++ S.K.map σ).length = S.E.length := by
    rw [← rk_len hw]
    simp
  simp only [List.length_cons, List.length_range] at h2
  omega
end CaS
section
variable {w w1 w2 w' : World} {cb kb ib eb : Nat} {σ : Nat → Nat} {S : CaS}
/-- Behind Insert, the index' Put, and the entry's store. -/
theorem LcC.put_in {b s a : Nat} {d : Bool} (h : LcC w cb kb ib eb σ S) (hh : S.has (b : Int) = false) (h64 : b < 64) (hs : s < S.n) (hno : (S.rk.map σ).has (s : Int) = false)
    (hr : RkM w1 kb ((S.rk.map σ).insS (s : Int))) (hk1 : Kept (fun k => k = kb) w w1) (hx : IxM w2 ib ((ixs σ S).putS b (s : Int))) (hk2 : Kept (fun k => k = ib) w1 w2) :
    LcC (put3 w2 eb s (.int .i64 (b : Int)) (.int .u32 (a : Int)) (.bool d)) cb kb ib eb (upd σ b s) (S.newS b a d) ∧ Kept (lcF kb ib eb) w (put3 w2 eb s (.int .i64 (b : Int)) (.int .u32 (a : Int)) (.bool d)) := by
  have hne := h.ne
  have hk3 := put3_kept w2 eb s (.int .i64 (b : Int)) (.int .u32 (a : Int)) (.bool d)
  have hnb : ∀ e ∈ S.E, e.b ≠ b := fun e he e2 => CaS.has_no hh e he (by omega)
  have hl := CaS.free_room h.wf h.k.2 hs hno
  have hpn := CaS.put_new (a := a) (d := d) hh h64 hl
  have hwf := CaS.put_wf h.wf (b : Int) a d
  rw [hpn.1] at hwf
  have hkk : Kept (fun k => k = kb ∨ k = ib ∨ k = eb) w (put3 w2 eb s (.int .i64 (b : Int)) (.int .u32 (a : Int)) (.bool d)) := ((hk1.mono (fun k _ e => .inl e)).and (hk2.mono (fun k _ e => .inr (.inl e)))).and (hk3.mono (fun k _ e => .inr (.inr e)))
  obtain ⟨cs, hbk, hcl, hc⟩ := h.e
  rw [CaS.map_new h.wf hnb hs hno] at hr
  refine ⟨⟨hkk.blk h.b (by omega), ?_, ?_, ⟨_, put3_blk ((hk1.blk hbk (by omega)) |> fun z => hk2.blk z (by omega)) _ _ _ _, (by show _ = S.n * 3; simpa using hcl), ?_⟩, hne, hwf⟩, hkk.mono (fun k _ e => by unfold lcF; omega)⟩
  · exact ((hr.keep hk2 (by omega)).keep hk3 (by omega))
  · have : ixs (upd σ b s) (S.newS b a d) = (ixs σ S).putS b (s : Int) := by
      have hpb : (ixs σ S).putB b = true := by
        unfold IxS.putB
        have : (ixs σ S).L.length = S.E.length := prsE_len σ S.E
        rw [this]
        simp
        exact .inr hl
      unfold IxS.putS
      rw [if_pos hpb]
      unfold ixs CaS.newS
      simp only
      unfold putL
      rw [dropL_not (fun e he => by
        obtain ⟨z, hz, rfl⟩ := List.mem_map.1 he
        exact hnb z hz), ← prsE_upd (b := b) (s := s) hnb]
      have := prsE_ins (upd σ b s) ⟨b, a, d⟩ S.E
      rw [← this]
      simp only [upd_same]
    rw [this]
    exact hx.keep hk3 (by omega)
  · intro z hz
    rcases insE_mem.1 hz with rfl | hz
    · simp only [upd_same]
      exact set3_at (by omega)
    · rw [upd_ne (hnb z hz)]
      have hne2 : σ z.b ≠ s := fun e2 => by
        have h2 : s ∈ (S.rk.map σ).T ++ (S.rk.map σ).K := by
          show s ∈ S.T.map σ ++ S.K.map σ
          rw [← List.map_append, ← e2]
          exact List.mem_map_of_mem ((h.wf.mem z.b).2 ⟨z, hz, rfl⟩)
        rw [RkS.has_of_mem h2] at hno
        cases hno
      obtain ⟨c0, c1, c2⟩ := hc z hz
      exact ⟨by rw [set3_off (by omega)]; exact c0, by rw [set3_off (by omega)]; exact c1, by rw [set3_off (by omega)]; exact c2⟩
/-- A slot that is taken is not inserted. -/
theorem LcC.no_ins {s : Nat} (h : LcC w cb kb ib eb σ S) (hs : s < S.n) (hno : (S.rk.map σ).has (s : Int) = true) (hr : RkM w1 kb ((S.rk.map σ).insS (s : Int))) (hk1 : Kept (fun k => k = kb) w w1) : LcC w1 cb kb ib eb σ S := by
  have hi : (S.rk.map σ).insB (s : Int) = false := by
    unfold RkS.insB
    rw [hno]
    simp
  have : (S.rk.map σ).insS (s : Int) = S.rk.map σ := by
    unfold RkS.insS
    rw [hi]
    rfl
  rw [this] at hr
  exact h.rank (R := S.rk) hk1 hr rfl h.wf
theorem insB_slot {R : RkS} {s : Nat} (hs : s < R.n) : R.insB (s : Int) = !R.has (s : Int) := by
  unfold RkS.insB
  simp [hs]
end
end Go.Proofs.Ytmoagooabmmmgaa
