/-
  Order, Choose.
-/
import Derived.Test.YtndapbfaaglcgaaVyD
import Derived.Test.YtndapbfaaglcgaaVyF
namespace Go.Proofs.Ytndapbfaaglcgaa
open Go.RowKit

set_option maxHeartbeats 1000000 in
set_option maxRecDepth 100000 in
theorem vyorder_at {w : World} {A : Option Addr} {n c : Nat} (pol p : Int) (l : List VZ) (hl : l.length = n) (hr : RdV w w.heap.size A (zsC l)) (hnc : n ≤ c) (hz : A = none → c = 0) (hn : n ≤ 24) (hp1 : 1 ≤ p) (hp : p ≤ 16) (hf : VZ.Fit p l) (ha : VZ.Apart l) (hg : AgeOk l) : Calls Try.prog 13 #[.int .i64 pol, .int .i64 p, .slice A n c] w (IdsIs (VZ.ids (VZ.sortZ pol p l)) w) := by
  have HS := Lib.hid (vyord_at (w := w) (A := A) (n := n) (c := c) pol p l hl hr hnc hz (by omega) hp1 hp hf ha hg)
  have HL : Hid ((VZ.sortZ pol p l).length = n) := Lib.hid (by rw [VZ.sort_perm.length_eq, hl])
  clear hl hr hnc hz hp1 hp hf ha hg
  generalize VZ.sortZ pol p l = o at *
  go_enter Try.func13, Try.ntmps13
  go_wp2_with fail
  refine HS.out.mono ?_
  rintro r w1 ⟨v1, rfl, ho, hb⟩
  rw [HL.out] at ho
  obtain ⟨A1, c1, rfl, _, _, _⟩ := ho.form
  have HR1 := Lib.hid ho.rd
  have HB1 := Lib.hid hb
  clear ho hb
  go_wp2_with fail
  refine (vyids_at o HL.out HR1.out (by omega)).mono ?_
  rintro r w2 ⟨v2, rfl, ho, hb⟩
  have HE : Hid (IdsIs (VZ.ids o) w (.returned v2) w2) := Lib.hid ⟨v2, rfl, ho.le HB1.out.size, below_all HB1.out hb⟩
  clear ho hb
  go_wp2_with fail
  go_ret
  exact HE.out
theorem choose_few (pol p extra : Int) (l : List VZ) : VZ.chooseL pol p extra l = VZ.ids (if (fewL p extra (VZ.sortZ pol p l)).length = 0 then fewL p extra (VZ.sortZ 0 p l) else fewL p extra (VZ.sortZ pol p l)) := by
  have key : ∀ q, VZ.pickL p extra (VZ.sortZ q p l) = VZ.ids (fewL p extra (VZ.sortZ q p l)) := fun q => by
    unfold VZ.pickL fewL
    cases VZ.pickK p extra (VZ.sortZ q p l) <;> rfl
  cases hk : VZ.pickK p extra (VZ.sortZ pol p l) with
  | some i =>
    have hi := (VZ.pick_some hk).1
    have e : fewL p extra (VZ.sortZ pol p l) = (VZ.sortZ pol p l).take (i + 1) := by unfold fewL; rw [hk]
    have e2 : (if (fewL p extra (VZ.sortZ pol p l)).length = 0 then fewL p extra (VZ.sortZ 0 p l) else fewL p extra (VZ.sortZ pol p l)) = (VZ.sortZ pol p l).take (i + 1) := by
      rw [e, if_neg (by rw [List.length_take]; omega)]
    rw [e2]
    unfold VZ.chooseL
    rw [hk]
  | none =>
    have e : fewL p extra (VZ.sortZ pol p l) = [] := by unfold fewL; rw [hk]
    have e2 : (if (fewL p extra (VZ.sortZ pol p l)).length = 0 then fewL p extra (VZ.sortZ 0 p l) else fewL p extra (VZ.sortZ pol p l)) = fewL p extra (VZ.sortZ 0 p l) := by
      rw [e]; rfl
    rw [e2, ← key]
    unfold VZ.chooseL
    rw [hk]
    by_cases h0 : pol = 0
    · subst h0
      rw [key, e]
      simp [VZ.ids]
    · simp [h0]
theorem few_len (p extra : Int) (os : List VZ) : (fewL p extra os).length ≤ os.length := by
  unfold fewL
  cases VZ.pickK p extra os with
  | some i => simp [List.length_take]; omega
  | none => simp
set_option maxHeartbeats 2000000 in
set_option maxRecDepth 100000 in
theorem vychoose_at {w : World} {A : Option Addr} {n c : Nat} (pol p extra : Int) (l : List VZ) (hl : l.length = n) (hr : RdV w w.heap.size A (zsC l)) (hnc : n ≤ c) (hz : A = none → c = 0) (hn : n ≤ 24) (hp1 : 1 ≤ p) (hp : p ≤ 16) (he0 : 0 ≤ extra) (he1 : extra ≤ 16) (hf : VZ.Fit p l) (ha : VZ.Apart l) (hg : AgeOk l) :
    Calls Try.prog 16 #[.int .i64 pol, .int .i64 p, .int .i64 extra, .slice A n c] w (IdsIs (VZ.chooseL pol p extra l) w) := by
  have HSO := Lib.hid (fun (q : Int) (u : World) (hu : Below w.heap.size w u) => vyord_at (w := u) (A := A) (n := n) (c := c) q p l hl (hr.up hu) hnc hz (by omega) hp1 hp hf ha hg)
  have HLEN : Hid (∀ q, (VZ.sortZ q p l).length = n) := Lib.hid (fun q => by rw [VZ.sort_perm.length_eq, hl])
  have HFE := Lib.hid (fun (q : Int) (u : World) (B : Option Addr) (d : Nat) (h1 : RdV u u.heap.size B (zsC (VZ.sortZ q p l))) (h2 : n ≤ d) (h3 : B = none → d = 0) => vyfew_at (w := u) (A := B) (n := n) (c := d) p extra (VZ.sortZ q p l) (by rw [VZ.sort_perm.length_eq, hl]) h1 h2 h3 hn hp1 hp he0 he1 (fun z hz => (fun h => ⟨(hf z h).2.1, (hf z h).2.2, hg z h⟩) (VZ.sort_perm.mem_iff.1 hz)))
  have HFL : Hid (∀ q, (fewL p extra (VZ.sortZ q p l)).length ≤ n) := Lib.hid (fun q => by have := few_len p extra (VZ.sortZ q p l); rw [VZ.sort_perm.length_eq, hl] at this; exact this)
  have HCH := Lib.hid (choose_few pol p extra l)
  obtain ⟨ch, hch⟩ : ∃ r, VZ.chooseL pol p extra l = r := ⟨_, rfl⟩
  rw [hch] at HCH ⊢
  obtain ⟨srt, hsrt⟩ : ∃ f : Int → List VZ, (fun q => VZ.sortZ q p l) = f := ⟨_, rfl⟩
  have hs : ∀ q, VZ.sortZ q p l = srt q := fun q => congrFun hsrt q
  simp only [hs] at HSO HLEN HFE HFL HCH
  obtain ⟨fe, hfe⟩ : ∃ f : Int → List VZ, (fun q => fewL p extra (srt q)) = f := ⟨_, rfl⟩
  have hf2 : ∀ q, fewL p extra (srt q) = fe q := fun q => congrFun hfe q
  simp only [hf2] at HFE HFL HCH
  clear hl hr hnc hz hf ha hg hch hsrt hs hfe hf2
  go_enter Try.func16, Try.ntmps16
  go_wp2_with fail
  refine (HSO.out pol w (Below.refl _ _)).mono ?_
  rintro r w1 ⟨v1, rfl, ho, hb⟩
  rw [HLEN.out] at ho
  obtain ⟨A1, c1, rfl, hnc, _, hz1⟩ := ho.form
  have HF1 := Lib.hid (HFE.out pol w1 A1 c1 ho.rd hnc hz1)
  have HB1 := Lib.hid hb
  clear ho hb hnc hz1
  go_wp2_with fail
  refine HF1.out.mono ?_
  rintro r w2 ⟨A2, m2, c2, rfl, hlen, hrd, hb⟩
  have HB2 := Lib.hid (below_all HB1.out hb)
  have HR2 := Lib.hid hrd
  have HL2 := Lib.hid hlen
  have HM2 : Hid (m2 ≤ n) := Lib.hid (hlen ▸ HFL.out pol)
  clear hb hrd hlen HF1
  by_cases h0 : m2 = 0
  · subst h0
    have HCE : Hid (ch = VZ.ids (fe 0)) := Lib.hid (by rw [HCH.out, if_pos HL2.out])
    have HS0 := Lib.hid (HSO.out 0 w2 HB2.out)
    clear HSO
    go_wp2_with fail
    refine HS0.out.mono ?_
    rintro r w3 ⟨v3, rfl, ho, hb⟩
    rw [HLEN.out] at ho
    obtain ⟨A3, c3, rfl, hnc, _, hz1⟩ := ho.form
    have HF1 := Lib.hid (HFE.out 0 w3 A3 c3 ho.rd hnc hz1)
    have HB3 := Lib.hid (below_all HB2.out hb)
    clear ho hb hnc hz1
    go_wp2_with fail
    refine HF1.out.mono ?_
    rintro r w4 ⟨A4, m4, c4, rfl, hlen, hrd, hb⟩
    have HB4 := Lib.hid (below_all HB3.out hb)
    have HI := Lib.hid (vyids_at (c := c4) (fe 0) hlen hrd (by have := HFL.out 0; omega))
    clear hb hrd hlen HF1
    go_wp2_with fail
    refine HI.out.mono ?_
    rintro r w5 ⟨v5, rfl, ho, hb⟩
    have HE : Hid (IdsIs ch w (.returned v5) w5) := Lib.hid ⟨v5, rfl, by rw [HCE.out]; exact ho.le HB4.out.size, below_all HB4.out hb⟩
    clear ho hb
    go_wp2_with fail
    go_ret
    exact HE.out
  · have HCE : Hid (ch = VZ.ids (fe pol)) := Lib.hid (by rw [HCH.out, if_neg (by rw [HL2.out]; exact h0)])
    have q0 : ((m2 : Int) == 0) = false := by simp; omega
    have HI := Lib.hid (vyids_at (c := c2) (fe pol) HL2.out HR2.out (by have := HM2.out; omega))
    clear h0
    go_wp2_with fail
    refine HI.out.mono ?_
    rintro r w5 ⟨v5, rfl, ho, hb⟩
    have HE : Hid (IdsIs ch w (.returned v5) w5) := Lib.hid ⟨v5, rfl, by rw [HCE.out]; exact ho.le HB2.out.size, below_all HB2.out hb⟩
    clear ho hb
    go_wp2_with fail
    go_ret
    exact HE.out
end Go.Proofs.Ytndapbfaaglcgaa
