/-
  The landed device: lose.
  The landed device: Crash.
-/
import Derived.Test.YthmpimjmajoimaaGreatDoorSw12
import Derived.Deep.DeepCutAuto
import Derived.Deep.CutBlock
namespace Go.Proofs.YthmpimjmajoimaaGreatDoor
open Go.RowKit

section
variable {F G : Nat → Prop} {w w' u u' : World} {db zb cap : Nat} {f : Int} {col : Nat → Nat} {zs : List Value} {S S' : DevS}
theorem below_quiet {B : Nat} {a w : World} (h : Below B a w) (n : Nat) : Below B a (w.drewN n) := ⟨h.os, h.tape, h.output, h.size, h.block⟩
/-- A cut zone is what stays of it. -/
theorem lose_no {i : Nat} {Z : ZoneS} {kp : Int} {t : Bool} {st : Nat} (hi : S.is (i : Int) = true) (_hZ : S.zone (i : Int) = Z) (hst : DevS.stays Z kp = st) (hle : st ≤ Z.pages.length) (hT : (t && decide (st < Z.pages.length)) = false) :
    (S.put (i : Int) { Z with pages := Z.pages.take st }).put (i : Int) { (S.put (i : Int) { Z with pages := Z.pages.take st }).zone (i : Int) with sure := st } = S.put (i : Int) (DevS.crashZ Z kp t) := by
  rw [put_put, put_zone_at hi]
  congr 1
  unfold DevS.crashZ DevS.left1
  rw [hst, hT]
  simp
  omega
theorem lose_yes {i : Nat} {Z : ZoneS} {kp : Int} {t : Bool} {st : Nat} (hi : S.is (i : Int) = true) (_hZ : S.zone (i : Int) = Z) (hst : DevS.stays Z kp = st) (hle : st ≤ Z.pages.length) (hT : (t && decide (st < Z.pages.length)) = true) :
    ((S.put (i : Int) { Z with pages := Z.pages.take st }).put (i : Int) { (S.put (i : Int) { Z with pages := Z.pages.take st }).zone (i : Int) with pages := ((S.put (i : Int) { Z with pages := Z.pages.take st }).zone (i : Int)).pages ++ [[]] }).put (i : Int)
      { ((S.put (i : Int) { Z with pages := Z.pages.take st }).put (i : Int) { (S.put (i : Int) { Z with pages := Z.pages.take st }).zone (i : Int) with pages := ((S.put (i : Int) { Z with pages := Z.pages.take st }).zone (i : Int)).pages ++ [[]] }).zone (i : Int) with sure := st + 1 } = S.put (i : Int) (DevS.crashZ Z kp t) := by
  simp only [put_put, put_zone_at hi]
  congr 1
  unfold DevS.crashZ DevS.left1
  rw [hst, hT]
  simp
  omega
/-- What lose does, with the zones where they are. -/
def ClosZ (F : Nat → Prop) (db zb cap : Nat) (S' : DevS) (w w' : World) : Prop := (∃ f col zs, LD (grow F w w') w' db zb cap f col zs S') ∧ Kept F w w'
theorem clos_end {w1 w3 w5 : World} (hb : Below w.heap.size w w1) (h1 : Kept F w1 w3) (hl : LD (grow (grow F w1 w3) w3 w5) w5 db zb cap f col zs S) (h2 : Kept (grow F w1 w3) w3 w5) : ClosZ F db zb cap S w w5 :=
  ⟨⟨f, col, zs, ((hl.rounds h1.size h2.size).mono (fun _ hk => hk.elim .inl (fun x => .inr ⟨Nat.le_trans hb.size x.1, x.2⟩)) (fun k hk => hk.elim (fun hf => (hl.rounds h1.size h2.size).lt k (.inl hf)) (fun x => x.2)))⟩, (Kept.of_below hb).and (h1.trans h2)⟩
set_option maxHeartbeats 2000000 in
set_option maxRecDepth 100000 in
theorem llose_at (i : Nat) (kp : Int) (t : Bool) (h : LD F w db zb cap f col zs S) (hi : S.is (i : Int) = true) (hkp : -9223372036854775808 ≤ kp ∧ kp ≤ 9223372036854775807) : Calls Tryz.prog 64 #[.pointer (some ⟨zb, i * 3, none⟩), .int .i64 kp, .bool t] w fun r w' => r = .returned (.tuple #[]) ∧ ClosZ F db zb cap (S.put (i : Int) (DevS.crashZ (S.zone (i : Int)) kp t)) w w' := by
  obtain ⟨v, k0, _, k2, hpg, hlz, hlt, z0, z1, z2⟩ := h.zone i hi
  obtain ⟨A, c, rfl⟩ := hpg.form
  have hw := h.wf.pages _ (DevS.zone_mem hi)
  have hp1 := h.wf.p1
  obtain ⟨Z, hZ⟩ : ∃ Z, S.zone (i : Int) = Z := ⟨_, rfl⟩
  rw [hZ] at k0 k2 hpg z2 hw
  have HZ := Lib.hid hZ
  obtain ⟨m, hm⟩ : ∃ m, Z.pages.length = m := ⟨_, rfl⟩
  obtain ⟨sv, hsv⟩ : ∃ sv, Z.sure = sv := ⟨_, rfl⟩
  rw [hm] at k2 hw z2
  rw [hsv] at k0 hw
  obtain ⟨vs, hrow, hown, hvl, hxs⟩ := hpg
  have hs1 : sv ≤ m := by omega
  have hs2 : m ≤ 16 := by omega
  obtain ⟨st, hst⟩ : ∃ st, DevS.stays Z kp = st := ⟨_, rfl⟩
  have hsl := DevS.stays_le (z := Z) (by omega) kp
  rw [hst, hm, hsv] at hsl
  have HSI : Hid ((st : Int) = sv + min kp.toNat (m - sv)) := Lib.hid (by rw [← hst]; unfold DevS.stays; rw [hm, hsv]; omega)
  have HH := Lib.hid h
  have HI := Lib.hid hi
  have HM := Lib.hid (And.intro hm (And.intro hsv hst))
  have HP := Lib.hid (And.intro hrow (And.intro hown (And.intro hvl hxs)))
  have HZ2 := Lib.hid z2
  have HLZ := Lib.hid hlz
  have hzb := lt_of_block h.blk
  obtain ⟨hsv1, hstm⟩ := hsl
  have HWF : Hid ((S.put (i : Int) (DevS.crashZ Z kp t)).WF) := Lib.hid (DevS.put_wf h.wf _ (by
    have hw := h.wf.pages _ (DevS.zone_mem hi)
    rw [hZ] at hw
    refine ⟨Nat.le_trans (DevS.left1_len hw.2.1 kp t) hw.1, Nat.le_refl _, fun b hb => ?_⟩
    simp only [DevS.crashZ, DevS.left1, List.mem_append] at hb
    rcases hb with hb | hb
    · exact hw.2.2 b (List.mem_of_mem_take hb)
    · split at hb
      · simp at hb
        subst hb
        exact ⟨.inl rfl, fun x hx => by cases hx⟩
      · cases hb))
  clear h hi hrow hown hvl hxs hZ z0 z1 z2 hw hp1 hm hsv hst hlz hlt
  go_enter Tryz.func64, Tryz.ntmps64
  go_wp2_with fail
  go_cut [6] (fun s6 wx => s6 = .int .i64 (st : Int) ∧ Below w.heap.size w wx)
  case first =>
    go_quiet (fail)
    go_wp2_with fail
    all_goals
      go_meet
      case rel => exact ⟨by congr 1; have := HSI.out; omega, below_quiet (Below.refl _ _) nq⟩
  obtain ⟨rfl, hbc⟩ := hcut
  have HC := Lib.hid (HH.out.up hbc)
  have HBC := Lib.hid hbc
  have k0c := (hbc.cell (p := ⟨zb, i * 3, none⟩) hzb).trans k0
  have k2c := (hbc.cell (p := ⟨zb, i * 3 + 2, none⟩) hzb).trans k2
  have HPC : Hid (RowV wc 0 61 (.slice A m c) vs ∧ ∀ j (h : j < vs.length) (h2 : j < Z.pages.length), BytF (fun k => (F k ∧ k ≠ db ∧ k ≠ zb) ∧ col k = 0) wc vs[j] Z.pages[j]) := Lib.hid ⟨by have := HP.out.1; rw [HM.out.1] at this; exact this.rise hbc, fun j h1 h2 => (HP.out.2.2.2 j h1 h2).up hbc⟩
  have HOWN : Hid (∀ g, (Value.slice A m c).ownBlock = some g → (F g ∧ g ≠ db ∧ g ≠ zb) ∧ col g = i + 1) := Lib.hid (fun g hg => HP.out.2.1 g (by rw [HM.out.1]; exact hg))
  have hVL : Hid (vs.length = m) := Lib.hid (by rw [HP.out.2.2.1, HM.out.1])
  clear hbc k0 k2 HP hzb
  obtain ⟨T, hT⟩ : ∃ T, (t && decide (st < m)) = T := ⟨_, rfl⟩
  have HT := Lib.hid hT
  go_upto_region 1 with fail
  go_cut [7] (fun s7 wx => s7 = .bool T ∧ wc = wx)
  case first =>
    clear hT
    have HT2 := HT
    cases t
    · go_wp2_with fail
      go_meet
      case rel => exact ⟨by rw [← HT2.out]; rfl, rfl⟩
    · by_cases hlt : st < m
      · go_wp2_with fail
        go_meet
        case rel => exact ⟨by rw [← HT2.out]; simp [hlt], rfl⟩
      · go_wp2_with fail
        go_meet
        case rel => exact ⟨by rw [← HT2.out]; simp [hlt], rfl⟩
  obtain ⟨rfl, rfl⟩ := hcut
  clear hT
  go_upto_region 2 with fail
  refine wp_region_parts (S := fun u => u.cell? ⟨zb, i * 3 + 2, none⟩ = some (.slice A m c)) 12 3 _ (by kernel_rfl) (by kernel_rfl) (by rfl) (by simp only [List.take_succ_cons, List.take_zero]; rfl) ?_ (fun hHeld => ?_)
  · exact k2c
  refine wpAnyH_take (i := 0) (v := ?_) rfl (by kernel_rfl) (by kernel_rfl) (by kernel_rfl) (fun _ _ _ h => h) (Or.inl ⟨by rfl, ?_⟩) (by assumption) ?_
  rotate_left
  · intro u hSu
    try dsimp only at hSu
    go_simp
    try with_reducible rfl
  simp only [Act.put, List.setIfInBounds_toArray]
  refine wpAnyH_take (i := 1) (v := ?_) rfl (by kernel_rfl) (by kernel_rfl) (by kernel_rfl) (fun _ _ _ h => h) (Or.inl ⟨by rfl, ?_⟩) (by assumption) ?_
  rotate_left
  · intro u hSu
    try dsimp only at hSu
    go_simp
    try with_reducible rfl
  simp only [Act.put]
  refine wpAnyH_take (i := 2) (v := ?_) rfl (by kernel_rfl) (by kernel_rfl) (by kernel_rfl) (fun _ _ _ h => h) (Or.inl ⟨by rfl, ?_⟩) (by assumption) ?_
  rotate_left
  · intro u hSu
    try dsimp only at hSu
    go_simp
    try with_reducible rfl
  simp only [Act.put]
  refine wpAnyH_take (i := 3) (v := ?_) rfl (by kernel_rfl) (by kernel_rfl) (by kernel_rfl) (fun _ _ _ h => h) (Or.inl ⟨by rfl, ?_⟩) (by assumption) ?_
  rotate_left
  · intro u hSu
    try dsimp only at hSu
    go_simp
    try with_reducible rfl
  simp only [Act.put]
  refine wpAnyH_take (i := 4) (v := ?_) rfl (by kernel_rfl) (by kernel_rfl) (by kernel_rfl) (fun _ _ _ h => h) (Or.inl ⟨by rfl, ?_⟩) (by assumption) ?_
  rotate_left
  · intro u hSu
    try dsimp only at hSu
    go_simp
    try with_reducible rfl
  simp only [Act.put]
  refine wpAnyH_take (i := 5) (v := ?_) rfl (by kernel_rfl) (by kernel_rfl) (by kernel_rfl) (fun _ _ _ h => h) (Or.inl ⟨by rfl, ?_⟩) (by assumption) ?_
  rotate_left
  · intro u hSu
    try dsimp only at hSu
    go_simp
    try with_reducible rfl
  simp only [Act.put]
  refine wpAnyH_take (i := 6) (v := ?_) rfl (by kernel_rfl) (by kernel_rfl) (by kernel_rfl) (fun _ _ _ h => h) (Or.inl ⟨by rfl, ?_⟩) (by assumption) ?_
  rotate_left
  · intro u hSu
    try dsimp only at hSu
    go_simp
    try with_reducible rfl
  simp only [Act.put]
  refine wpAnyH_take (i := 7) (v := ?_) rfl (by kernel_rfl) (by kernel_rfl) (by kernel_rfl) (fun _ _ _ h => h) (Or.inl ⟨by rfl, ?_⟩) (by assumption) ?_
  rotate_left
  · intro u hSu
    try dsimp only at hSu
    go_simp
    try with_reducible rfl
  simp only [Act.put]
  refine wpAnyH_take (i := 8) (v := ?_) rfl (by kernel_rfl) (by kernel_rfl) (by kernel_rfl) (fun _ _ _ h => h) (Or.inl ⟨by rfl, ?_⟩) (by assumption) ?_
  rotate_left
  · intro u hSu
    try dsimp only at hSu
    go_simp
    try with_reducible rfl
  simp only [Act.put]
  refine wpAnyH_take (i := 9) (v := ?_) rfl (by kernel_rfl) (by kernel_rfl) (by kernel_rfl) (fun _ _ _ h => h) (Or.inl ⟨by rfl, ?_⟩) (by assumption) ?_
  rotate_left
  · intro u hSu
    try dsimp only at hSu
    go_simp
    try with_reducible rfl
  simp only [Act.put]
  refine wpAnyH_take (i := 10) (v := ?_) rfl (by kernel_rfl) (by kernel_rfl) (by kernel_rfl) (fun _ _ _ h => h) (Or.inl ⟨by rfl, ?_⟩) (by assumption) ?_
  rotate_left
  · intro u hSu
    try dsimp only at hSu
    go_simp
    try with_reducible rfl
  simp only [Act.put]
  refine wpAnyH_ready (rs := [11]) (by kernel_rfl) (by simp) ?_
  refine (AllReadyH.cons rfl (fun K hK => ?_) AllReadyH.nil)
  go_simp
  refine (ldelete_at (w := wc.drew) HPC.out.1 hVL.out hstm).mono ?_
  rintro r w2 ⟨rfl, hr2, hk2⟩
  have HL3 := Lib.hid (show LD (grow F wc (w2.setCell ⟨zb, i * 3 + 2, none⟩ (.slice A st c))) (w2.setCell ⟨zb, i * 3 + 2, none⟩ (.slice A st c)) db zb cap f col (zs.set (i * 3 + 2) (.slice A st c)) (S.put (i : Int) { Z with pages := Z.pages.take st }) ∧ Kept F wc (w2.setCell ⟨zb, i * 3 + 2, none⟩ (.slice A st c)) by
    have hZ := HZ.out
    subst hZ
    exact HC.out.cut HI.out HZ2.out HOWN.out (by rw [hVL.out, HM.out.1]) HPC.out.2 (by rw [HM.out.1]; exact hstm) (by rw [HM.out.2.1]; exact hsv1) hr2 ((Kept.refl _ wc).drew.and hk2))
  have hbz : Blk w2 zb 119 zs := hk2.blk HC.out.blk (fun e => (HOWN.out zb e).1.2.2 rfl)
  have k22 : w2.cell? ⟨zb, i * 3 + 2, none⟩ = some (.slice A m c) := hk2.cell k2c (fun e => (HOWN.out zb e).1.2.2 rfl)
  have f22 := hbz.free (i * 3 + 2)
  obtain ⟨w3, hw3⟩ : ∃ w3, w2.setCell ⟨zb, i * 3 + 2, none⟩ (.slice A st c) = w3 := ⟨_, rfl⟩
  rw [hw3] at HL3
  clear hr2 hk2 hbz
  refine hK.out _ _ ?_ (fun hHeld => ?_)
  · exact k22
  clear hK K
  try simp only [Act.put, List.setIfInBounds_toArray, List.set_cons_zero, List.set_cons_succ]
  refine wpAnyH_done (by kernel_rfl) ?_ _
  show wpAny _ _ _ _ 3 _ _ _
  refine wpAny_take (i := 12) (v := ?_) rfl (by kernel_rfl) (by kernel_rfl) (by kernel_rfl) (fun _ _ _ h => h) (Or.inl ⟨by rfl, ?_⟩) ?_
  rotate_left
  · intro u
    go_simp
    try with_reducible rfl
  simp only [Act.put, List.setIfInBounds_toArray]
  refine wpAny_take (i := 13) (v := ?_) rfl (by kernel_rfl) (by kernel_rfl) (by kernel_rfl) (fun _ _ _ h => h) (Or.inl ⟨by rfl, ?_⟩) ?_
  rotate_left
  · intro u
    go_simp
    try with_reducible rfl
  simp only [Act.put]
  refine wpAny_ready (rs := [14]) (by kernel_rfl) (by simp) ?_
  refine AllReady.cons rfl (fun K hK => ?_) AllReady.nil
  go_simp
  refine hK _ _ ?_
  clear hK K
  refine wpAny_done (by kernel_rfl) ?_ _
  clear hw3 k22 f22 k2c k0c hHeld
  have HI1 : Hid ((S.put (i : Int) { Z with pages := Z.pages.take st }).is (i : Int) = true) := Lib.hid (by rw [put_is]; exact HI.out)
  have k23 : w3.cell? ⟨zb, i * 3 + 2, none⟩ = some (.slice A st c) := by
    have := HL3.out.1.blk.cell (i * 3 + 2) (by rw [List.length_set]; exact HLZ.out)
    simpa using this
  obtain ⟨v3, k03, _, _, hpg3, _, _, _, _, hz23⟩ := HL3.out.1.zone i HI1.out
  obtain rfl : v3 = .slice A st c := by
    rw [List.getElem?_set_self HLZ.out] at hz23
    exact (Option.some.inj hz23).symm
  have HPG := Lib.hid (And.intro hpg3 hz23)
  have f03 := HL3.out.1.blk.free (i * 3)
  have HSM : Hid (st ≤ Z.pages.length) := Lib.hid (by rw [HM.out.1]; exact hstm)
  clear hpg3 hz23
  cases T
  · have HLE := Lib.hid (HL3.out.1.sured (n := st) HI1.out (by rw [put_zone_at HI.out]; simp only [List.length_take]; have := HSM.out; omega))
    have HEQ : Hid _ := Lib.hid (lose_no HI.out HZ.out HM.out.2.2 HSM.out (by rw [HM.out.1]; exact HT.out))
    rw [HEQ.out] at HLE
    clear HEQ
    go_wp2_with fail
    go_end0
    rw [HZ.out]
    exact ⟨rfl, clos_end HBC.out HL3.out.2 HLE.out.1 HLE.out.2⟩
  · have HBA : Hid (Below w3.heap.size w3 (w3.alloc (.cells #[.slice none 0 0] 61))) := Lib.hid (Below.alloc (Below.refl _ _) (Nat.le_refl _) _)
    obtain ⟨vs3, hrow3, hown3, hvl3, hxs3⟩ := HPG.out.1
    have HR3 : Hid (RowV (w3.alloc (.cells #[.slice none 0 0] 61)) 0 61 (.slice A st c) vs3) := Lib.hid (hrow3.rise HBA.out)
    have HV3 : Hid (vs3.length = st) := Lib.hid (by rw [hvl3, put_zone_at HI.out]; simp only [List.length_take]; have := HSM.out; omega)
    have HAP : Hid (∀ g gc w4, OwnG w4 0 61 g gc (vs3 ++ [.slice none 0 0]) → (w3.alloc (.cells #[.slice none 0 0] 61)).grownBy w4 (Value.slice A st c).ownBlock → ((Value.slice A st c).ownBlock = some g ∨ g = (w3.alloc (.cells #[.slice none 0 0] 61)).heap.size) →
        ∀ w5, w4.setCell ⟨zb, i * 3 + 2, none⟩ (.slice (some ⟨g, 0, none⟩) (st + 1) gc) = w5 → ∃ col5 zs5 s0, LD (grow (grow F wc w3) w3 w5) w5 db zb cap f col5 zs5 ((S.put (i : Int) { Z with pages := Z.pages.take st }).put (i : Int) { (S.put (i : Int) { Z with pages := Z.pages.take st }).zone (i : Int) with pages := ((S.put (i : Int) { Z with pages := Z.pages.take st }).zone (i : Int)).pages ++ [[]] }) ∧ Kept (grow F wc w3) w3 w5 ∧
          w4.cell? ⟨zb, i * 3 + 2, none⟩ = some (.slice A st c) ∧ w4.frozen? ⟨zb, i * 3 + 2, none⟩ = false ∧ w5.cell? ⟨zb, i * 3 + 2, none⟩ = some (.slice (some ⟨g, 0, none⟩) (st + 1) gc) ∧ w5.cell? ⟨zb, i * 3, none⟩ = some s0 ∧ w5.frozen? ⟨zb, i * 3, none⟩ = false) := Lib.hid (fun g gc w4 hO hg hgg w5 hw5 => by
      have hwf : ((S.put (i : Int) { Z with pages := Z.pages.take st }).put (i : Int) { (S.put (i : Int) { Z with pages := Z.pages.take st }).zone (i : Int) with pages := ((S.put (i : Int) { Z with pages := Z.pages.take st }).zone (i : Int)).pages ++ [[]] }).WF := by
        have hw := HWF.out.pages _ (DevS.zone_mem (n := (i : Int)) (by rw [put_is]; exact HI.out))
        rw [put_zone_at HI.out] at hw
        have hT := HT.out
        rw [← HM.out.1] at hT
        have e : (DevS.crashZ Z kp t).pages = Z.pages.take st ++ [[]] := by
          unfold DevS.crashZ DevS.left1
          rw [HM.out.2.2]
          simp only [hT, if_true]
        rw [e] at hw
        refine DevS.put_wf HL3.out.1.wf _ ?_
        rw [put_zone_at HI.out]
        refine ⟨hw.1, ?_, hw.2.2⟩
        simp only [List.length_append, List.length_take]
        have h1 := HM.out.2.1
        have h2 := HSM.out
        omega
      have ha := HL3.out.1.appended HI1.out HPG.out.2 hrow3 hown3 hvl3 hxs3 HBA.out (show BytF (fun k => w3.heap.size ≤ k ∧ k < (w3.alloc (.cells #[.slice none 0 0] 61)).heap.size) (w3.alloc (.cells #[.slice none 0 0] 61)) (.slice none 0 0) [] from ⟨none, 0, rfl, by simp, Rd.nil, (InF.none _).n, fun _ => rfl⟩) hO hg hgg hwf
      rw [HV3.out, hw5] at ha
      have hbz : Blk w4 zb 119 (zs.set (i * 3 + 2) (.slice A st c)) := ((hg.block zb (Nat.lt_of_lt_of_le (lt_of_block HL3.out.1.blk) HBA.out.size) (fun e => (hown3 zb e.symm).1.2.2 rfl)).trans (HBA.out.block zb (lt_of_block HL3.out.1.blk))).trans HL3.out.1.blk
      have h4 := hbz.cell (i * 3 + 2) (by rw [List.length_set]; exact HLZ.out)
      have h5 := (hbz.put (i * 3 + 2) (.slice (some ⟨g, 0, none⟩) (st + 1) gc)).cell (i * 3 + 2) (by simp; exact HLZ.out)
      rw [hw5] at h5
      have h0 := ha.1.blk.cell (i * 3) (by simp; have := HLZ.out; omega)
      exact ⟨_, _, _, ha.1, ha.2, by simpa using h4, hbz.free _, by simpa using h5, h0, ha.1.blk.free _⟩)
    have HC3 : Hid ((w3.alloc (.cells #[.slice none 0 0] 61)).cell? ⟨w3.heap.size, 0, none⟩ = some (.slice none 0 0)) := Lib.hid (box_cell w3 _ _)
    clear hrow3 hown3 hvl3 hxs3
    go_wp2_with (first
      | (at_builtin; refine listL _ rfl (.tmp 57) (.tmp 58) rfl st 1 w3.heap.size (.slice A st c) (.slice none 0 0) vs3 rfl HR3.out HV3.out rfl HC3.out rfl (by omega) ?_; intro g gc w4 hO hg hgg hgl; obtain ⟨w5, hw5⟩ : ∃ w5, w4.setCell ⟨zb, i * 3 + 2, none⟩ (.slice (some ⟨g, 0, none⟩) (st + 1) gc) = w5 := ⟨_, rfl⟩; obtain ⟨col5, zs5, s0, hl5, hk5, k24, f24, k25, k05, f05⟩ := HAP.out g gc w4 hO hg hgg w5 hw5; have HL5 := Lib.hid (And.intro hl5 hk5); clear hO hg hgg hl5 hk5)
      | fail)
    have HLE := Lib.hid (HL5.out.1.sured (n := st + 1) (i := i) (by rw [put_is]; exact HI1.out) (by rw [put_zone_at HI1.out, put_zone_at HI.out]; simp only [List.length_append, List.length_take, List.length_singleton]; have := HSM.out; omega))
    rw [show ((S.put (i : Int) { Z with pages := Z.pages.take st }).put (i : Int) { (S.put (i : Int) { Z with pages := Z.pages.take st }).zone (i : Int) with pages := ((S.put (i : Int) { Z with pages := Z.pages.take st }).zone (i : Int)).pages ++ [[]] }).put (i : Int)
      { ((S.put (i : Int) { Z with pages := Z.pages.take st }).put (i : Int) { (S.put (i : Int) { Z with pages := Z.pages.take st }).zone (i : Int) with pages := ((S.put (i : Int) { Z with pages := Z.pages.take st }).zone (i : Int)).pages ++ [[]] }).zone (i : Int) with sure := st + 1 } = S.put (i : Int) (DevS.crashZ Z kp t) from lose_yes HI.out HZ.out HM.out.2.2 HSM.out (by rw [HM.out.1]; exact HT.out)] at HLE
    go_end0
    rw [HZ.out]
    rw [show ((st + 1 : Nat) : Int) = (st : Int) + 1 from rfl] at HLE
    exact ⟨rfl, clos_end HBC.out HL3.out.2 (HLE.out.1.rounds HL5.out.2.size HLE.out.2.size) (HL5.out.2.trans HLE.out.2)⟩
end
end Go.Proofs.YthmpimjmajoimaaGreatDoor
namespace Go.Proofs.YthmpimjmajoimaaGreatDoor
open Go.RowKit

section
variable {F G : Nat → Prop} {w w' u u' : World} {db zb cap : Nat} {f : Int} {col : Nat → Nat} {zs : List Value} {S S' : DevS}
theorem LD.crashed {w0 : World} {keep : List Int} {tear : List Bool} (h : LD (grow F w0 w) w db zb cap f col zs (crashTo S keep tear S.zones.length)) (hwf : S.WF) (hk : Kept F w0 w) (hd : F db) :
    LDev (grow F w0 ((w.setCell ⟨db, 2, none⟩ (.int .i64 (-1))).setCell ⟨db, 4, none⟩ (.bool false))) ((w.setCell ⟨db, 2, none⟩ (.int .i64 (-1))).setCell ⟨db, 4, none⟩ (.bool false)) db (S.crash keep tear) ∧ Kept F w0 ((w.setCell ⟨db, 2, none⟩ (.int .i64 (-1))).setCell ⟨db, 4, none⟩ (.bool false)) := by
  have hwf2 := DevS.crash_wf hwf keep tear
  have hw1 : ({ crashTo S keep tear S.zones.length with left := -1 } : DevS).WF := ⟨h.wf.z0, h.wf.z1, h.wf.p0, h.wf.p1, by simp only; omega, by simp only; omega, h.wf.pages⟩
  have h1 := h.setDev (S' := { crashTo S keep tear S.zones.length with left := -1 }) (f' := -1) 2 (.int .i64 (-1)) rfl rfl rfl hw1
  have h2 := h1.setDev (S' := { crashTo S keep tear S.zones.length with left := -1, gone := false }) (f' := -1) 4 (.bool false) rfl rfl rfl (by rw [crashTo_all]; exact hwf2)
  rw [crashTo_all] at h2
  have hk2 := (hk.put (g := db) (.inl hd) 2 (.int .i64 (-1))).put (g := db) (.inl hd) 4 (.bool false)
  refine ⟨⟨zb, cap, -1, col, zs, h2.mono (fun k hk3 => hk3.elim .inl (fun x => .inr ⟨x.1, ?_⟩)) (fun k hk3 => hk3.elim (fun hf => h2.lt k (.inl hf)) (fun x => x.2))⟩, hk2⟩
  have := x.2
  simpa [World.setCell] using this
set_option maxHeartbeats 2000000 in
set_option maxRecDepth 100000 in
theorem lcrash_at (keep : List Int) (tear : List Bool) (KA TA : Option Addr) (kc tc : Nat) (h : LD F w db zb cap f col zs S) (hK : RdV w w.heap.size KA (kCells keep)) (hKF : InN (kCells keep).length (fun k => ¬ F k) KA) (hT : RdV w w.heap.size TA (tCells tear)) (hTF : InN (tCells tear).length (fun k => ¬ F k) TA) (hwd : ∀ n ∈ keep, Wd n) :
    Calls Tryz.prog 30 #[.pointer (some ⟨db, 0, none⟩), .slice KA keep.length kc, .slice TA tear.length tc] w (ZDone LDev F db (S.crash keep tear) (.tuple #[]) w) := by
  have HH := Lib.hid h
  have c0 := h.c0
  obtain ⟨n, hn⟩ : ∃ n, S.zones.length = n := ⟨_, rfl⟩
  have hnb : 1 ≤ n ∧ n ≤ 24 := by rw [← hn]; exact ⟨h.wf.z0, h.wf.z1⟩
  rw [hn] at c0
  have HN := Lib.hid hn
  have HA := Lib.hid (And.intro hK (And.intro hKF (And.intro hT (And.intro hTF hwd))))
  clear h hn hK hKF hT hTF hwd
  go_enter Tryz.func30, Tryz.ntmps30
  go_wp2_with fail
  go_loopg [12] n (fun q x wr => ∃ (i : Nat) (f : Int) (col : Nat → Nat) (zs : List Value), i ≤ n ∧ q = n - i ∧ x = .int .i64 i ∧ LD (grow F w wr) wr db zb cap f col zs (crashTo S keep tear i) ∧ Kept F w wr)
  case atStart => exact ⟨0, f, col, zs, by omega, by omega, rfl, by rw [crashTo_zero]; exact HH.out.gro, Kept.refl _ _⟩
  case round =>
    clear c0
    obtain ⟨i, f, col, zs, hi, hq, rfl, hr, hk⟩ := hrel
    have HQ := Lib.hid hq
    have HK := Lib.hid hk
    by_cases hlt : i < n
    · have hlz : i < S.zones.length := by have := HN.out; omega
      have c0 := hr.c0
      rw [crashTo_len, HN.out] at c0
      have HLD := Lib.hid (hr.up (Below.refl _ _).drew)
      have HIS : Hid ((crashTo S keep tear i).is (i : Int) = true) := Lib.hid (crashTo_is hlz)
      have HKR : Hid (RdV wr.drew wr.drew.heap.size KA (kCells keep)) := Lib.hid ((HA.out.1.keep hk HA.out.2.1).up (Below.refl _ _).drew)
      have HTR : Hid (RdV wr.drew wr.drew.heap.size TA (tCells tear)) := Lib.hid ((HA.out.2.2.1.keep hk HA.out.2.2.2.1).up (Below.refl _ _).drew)
      obtain ⟨kp, hkp⟩ : ∃ kp, keep.getD i 0 = kp := ⟨_, rfl⟩
      obtain ⟨tt, htt⟩ : ∃ tt, tear.getD i false = tt := ⟨_, rfl⟩
      have HWD : Hid (-9223372036854775808 ≤ kp ∧ kp ≤ 9223372036854775807) := Lib.hid (by
        rw [← hkp, List.getD_eq_getElem?_getD]
        by_cases hl : i < keep.length
        · rw [List.getElem?_eq_getElem hl]
          exact HA.out.2.2.2.2 _ (List.getElem_mem hl)
        · rw [List.getElem?_eq_none (by omega)]
          simp)
      have HLEN : Hid (((crashTo S keep tear i).put (i : Int) (DevS.crashZ ((crashTo S keep tear i).zone (i : Int)) kp tt)).zones.length = n) := Lib.hid (by simp only [DevS.put, List.length_set, crashTo_len]; exact HN.out)
      have HPUT : Hid (∀ f2 col2 zs2 w2, LD (grow (grow F w wr) wr.drew w2) w2 db zb cap f2 col2 zs2 ((crashTo S keep tear i).put (i : Int) (DevS.crashZ ((crashTo S keep tear i).zone (i : Int)) kp tt)) → Kept (grow F w wr) wr.drew w2 → LD (grow F w w2) w2 db zb cap f2 col2 zs2 (crashTo S keep tear (i + 1))) := Lib.hid (fun f2 col2 zs2 w2 hl hk2 => by
        rw [crashTo_get hlz, ← hkp, ← htt, ← crashAt_get hlz, crashTo_put hlz] at hl
        exact LD.rounds (w := wr.drew) (show LD (grow (grow F w wr.drew) wr.drew w2) w2 db zb cap f2 col2 zs2 _ from hl) HK.out.size hk2.size)
      have HPI : Hid (keep.getD i 0 = kp ∧ tear.getD i false = tt) := Lib.hid ⟨hkp, htt⟩
      have hin : (i : Int) < (n : Int) := by omega
      have hin0 : (0 : Int) ≤ (i : Int) := by omega
      clear hq hr hk hkp htt
      go_wp2_with fail
      refine wp_region_held_drew (S := fun u => u.cell? ⟨db, 0, none⟩ = some (.slice (some ⟨zb, 0, none⟩) n cap)) (by kernel_rfl) ?_ (fun hHeld => ?_)
      · exact c0
      have hHeld0 : wr.drew.cell? ⟨db, 0, none⟩ = some (.slice (some ⟨zb, 0, none⟩) n cap) := c0
      refine wpAnyH_take (i := 0) (v := ?_) rfl (by kernel_rfl) (by kernel_rfl) (by kernel_rfl) (fun _ _ _ h => h) (Or.inl ⟨by rfl, ?_⟩) (by assumption) ?_
      rotate_left
      · intro u hSu
        try dsimp only at hSu
        go_simp
        try with_reducible rfl
      simp only [Act.put, List.setIfInBounds_toArray]
      refine wpAnyH_take (i := 1) (v := ?_) rfl (by kernel_rfl) (by kernel_rfl) (by kernel_rfl) (fun _ _ _ h => h) (Or.inl ⟨by rfl, ?_⟩) (by assumption) ?_
      rotate_left
      · intro u hSu
        try dsimp only at hSu
        go_simp
        try with_reducible rfl
      simp only [Act.put]
      refine wpAnyH_take (i := 2) (v := ?_) rfl (by kernel_rfl) (by kernel_rfl) (by kernel_rfl) (fun _ _ _ h => h) (Or.inl ⟨by rfl, ?_⟩) (by assumption) ?_
      rotate_left
      · intro u hSu
        try dsimp only at hSu
        go_simp
        try with_reducible rfl
      simp only [Act.put]
      refine wpAnyH_take (i := 3) (v := ?_) rfl (by kernel_rfl) (by kernel_rfl) (by kernel_rfl) (fun _ _ _ h => h) (Or.inl ⟨by rfl, ?_⟩) (by assumption) ?_
      rotate_left
      · intro u hSu
        try dsimp only at hSu
        go_simp
        try with_reducible rfl
      simp only [Act.put]
      refine wpAnyH_take (i := 4) (v := ?_) rfl (by kernel_rfl) (by kernel_rfl) (by kernel_rfl) (fun _ _ _ h => h) (Or.inl ⟨by rfl, ?_⟩) (by assumption) ?_
      rotate_left
      · intro u hSu
        try dsimp only at hSu
        go_simp
        try with_reducible rfl
      simp only [Act.put]
      refine wpAnyH_take (i := 5) (v := ?_) rfl (by kernel_rfl) (by kernel_rfl) (by kernel_rfl) (fun _ _ _ h => h) (Or.inl ⟨by rfl, ?_⟩) (by assumption) ?_
      rotate_left
      · intro u hSu
        try dsimp only at hSu
        go_simp
        try with_reducible rfl
      simp only [Act.put]
      refine wpAnyH_take (i := 6) (v := ?_) rfl (by kernel_rfl) (by kernel_rfl) (by kernel_rfl) (fun _ _ _ h => h) (Or.inl ⟨by rfl, ?_⟩) (by assumption) ?_
      rotate_left
      · intro u hSu
        try dsimp only at hSu
        go_simp
        try with_reducible rfl
      simp only [Act.put]
      refine wpAnyH_take (i := 7) (v := ?_) rfl (by kernel_rfl) (by kernel_rfl) (by kernel_rfl) (fun _ _ _ h => h) (Or.inl ⟨by rfl, ?_⟩) (by assumption) ?_
      rotate_left
      · intro u hSu
        try dsimp only at hSu
        go_simp
        try with_reducible rfl
      simp only [Act.put]
      refine wpAnyH_take (i := 9) (v := ?_) rfl (by kernel_rfl) (by kernel_rfl) (by kernel_rfl) (fun _ _ _ h => h) (Or.inl ⟨by rfl, ?_⟩) (by assumption) ?_
      rotate_left
      · intro u hSu
        try dsimp only at hSu
        go_simp
        try with_reducible rfl
      simp only [Act.put]
      refine wpAnyH_take (i := 10) (v := ?_) rfl (by kernel_rfl) (by kernel_rfl) (by kernel_rfl) (fun _ _ _ h => h) (Or.inl ⟨by rfl, ?_⟩) (by assumption) ?_
      rotate_left
      · intro u hSu
        try dsimp only at hSu
        go_simp
        try with_reducible rfl
      simp only [Act.put]
      refine wpAnyH_ready (rs := [8]) (by kernel_rfl) (by simp) ?_
      refine (AllReadyH.cons rfl (fun K hK => ?_) AllReadyH.nil)
      go_simp
      refine (lpickI_at HKR.out rfl).mono ?_
      rintro r u ⟨rfl, rfl⟩
      refine hK.out _ _ ?_ (fun hHeld => ?_)
      · exact hHeld0
      clear hK K
      rw [HPI.out.1]
      try simp only [Act.put, List.setIfInBounds_toArray, List.set_cons_zero, List.set_cons_succ]
      refine wpAnyH_ready (rs := [11]) (by kernel_rfl) (by simp) ?_
      refine (AllReadyH.cons rfl (fun K hK => ?_) AllReadyH.nil)
      go_simp
      refine (lpickB_at HTR.out rfl).mono ?_
      rintro r u ⟨rfl, rfl⟩
      refine hK.out _ _ ?_ (fun hHeld => ?_)
      · exact hHeld0
      clear hK K
      rw [HPI.out.2]
      try simp only [Act.put, List.setIfInBounds_toArray, List.set_cons_zero, List.set_cons_succ]
      refine wpAnyH_ready (rs := [12]) (by kernel_rfl) (by simp) ?_
      refine (AllReadyH.cons rfl (fun K hK => ?_) AllReadyH.nil)
      go_simp
      refine (llose_at i kp tt HLD.out HIS.out HWD.out).mono ?_
      rintro r w2 ⟨rfl, ⟨f2, col2, zs2, hl2⟩, hk2⟩
      have HL2 := Lib.hid hl2
      have HK2 := Lib.hid hk2
      clear hl2 hk2
      refine hK.out _ _ ?_ (fun hHeld => ?_)
      · have := HL2.out.c0
        rwa [HLEN.out] at this
      clear hK K
      try simp only [Act.put, List.setIfInBounds_toArray, List.set_cons_zero, List.set_cons_succ]
      refine wpAnyH_done (by kernel_rfl) ?_ _
      go_wp2_with fail
      go_roundg (n - (i + 1))
      case rel => exact ⟨i + 1, f2, col2, zs2, by omega, rfl, by go_num, HPUT.out _ _ _ _ HL2.out HK2.out, HK.out.drew.trans HK2.out⟩
      case measure => have := HQ.out; omega
    · obtain rfl : i = n := by omega
      have f2 := hr.dev.free 2
      have f4 := hr.dev.free 4
      have c2 := hr.c2
      have c4 := hr.c4
      have hr' := hr
      rw [← HN.out] at hr'
      have HE := Lib.hid (hr'.crashed HH.out.wf hk HH.out.fd)
      clear hq hr hk hr'
      go_wp2_with fail
      go_end0
      exact ⟨rfl, HE.out.1, HE.out.2⟩
end
end Go.Proofs.YthmpimjmajoimaaGreatDoor
