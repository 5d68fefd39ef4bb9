/-
  The document's cache in memory: Drop.
-/
import Derived.Test.YtajccmkdfmpapaaGreatDoorZmH
import Derived.Test.YtajccmkdfmpapaaGreatDoorZmH
import Derived.Test.YtajccmkdfmpapaaGreatDoorZmF
import Derived.Deep.DeepCutAuto
namespace Go.Proofs.YtajccmkdfmpapaaGreatDoor
open Go.RowKit

theorem he_ents : Tryz.prog.underlying 42 = some (.slice (Tryz.prog.elem 42)) := by kernel_rfl
theorem hz_ents (W : World) : (sizeOf (Tryz.prog.elem 42)).run Tryz.prog W = .ok 3 W := by kernel_rfl
theorem he_ints : Tryz.prog.underlying 43 = some (.slice (Tryz.prog.elem 43)) := by kernel_rfl
theorem hz_ints (W : World) : (sizeOf (Tryz.prog.elem 43)).run Tryz.prog W = .ok 1 W := by kernel_rfl
theorem slotsE_len (σ : Nat → Nat) (L : List CE) : (iCells (nats (slotsE σ L))).length = L.length := by
  rw [iCells_len, nats_len]
  simp [slotsE]
theorem slotsE_app (σ : Nat → Nat) (A B : List CE) : iCells (nats (slotsE σ (A ++ B))) = iCells (nats (slotsE σ A)) ++ iCells (nats (slotsE σ B)) := by simp [iCells, nats, slotsE]
theorem slotsE_take (σ : Nat → Nat) (L : List CE) (i : Nat) : (iCells (nats (slotsE σ L))).take i = iCells (nats (slotsE σ (L.take i))) := by simp [iCells, nats, slotsE]
theorem slotsE_drop (σ : Nat → Nat) (L : List CE) (i : Nat) : (iCells (nats (slotsE σ L))).drop i = iCells (nats (slotsE σ (L.drop i))) := by simp [iCells, nats, slotsE]
theorem cesC_take : ∀ (L : List CE) (i : Nat), (cesC L).take (i * 3) = cesC (L.take i)
  | [], _ => by simp [cesC]
  | _ :: _, 0 => by simp [cesC]
  | e :: L, i + 1 => by
    have ih := cesC_take L i
    show (ceC e ++ cesC L).take ((i + 1) * 3) = ceC e ++ cesC (L.take i)
    rw [← ih, show (i + 1) * 3 = i * 3 + 1 + 1 + 1 by omega]
    rfl
theorem cesC_drop : ∀ (L : List CE) (i : Nat), (cesC L).drop (i * 3) = cesC (L.drop i)
  | [], _ => by simp [cesC]
  | _ :: _, 0 => by simp
  | e :: L, i + 1 => by
    have ih := cesC_drop L i
    show (ceC e ++ cesC L).drop ((i + 1) * 3) = cesC (L.drop i)
    rw [← ih, show (i + 1) * 3 = i * 3 + 1 + 1 + 1 by omega]
    rfl
theorem RefM.keep2 {w w' : World} {Y : Nat → Prop} {rc rb : Nat} {v : Value} {R : RkS} (h : RefM w (fun k => k ≠ rc ∧ v.ownBlock ≠ some k ∧ Y k) rb R) (hk : Kept (fun k => k = rc) w w') (hn : rb ≠ rc) : RefM w' (fun k => k ≠ rc ∧ v.ownBlock ≠ some k ∧ Y k) rb R := h.keep hk hn (fun k e e2 => e2.1 e)
section
variable {w w1 w8 w12 : World} {Y : Nat → Prop} {rc kb : Nat} {vL vS vL' vS' : Value} {σ σ' : Nat → Nat} {S S' : CaS}
/-- New rows are laid. -/
theorem RcC.relay {N : Nat} (hb : Blk w1 rc 46 [vL, vS, .pointer (some ⟨kb, 0, none⟩), .int .i64 (N : Int)]) (hne : rc ≠ kb) (hk : RefM w1 (fun k => k ≠ rc ∧ vL.ownBlock ≠ some k ∧ Y k) kb (S'.rk.map σ')) (h8 : Below w1.heap.size w1 w8) (hl : OwnK w8 w1.heap.size 59 3 vL' S'.E.length (cesC S'.E))
    (h12 : Below (w8.setCell ⟨rc, 0, none⟩ vL').heap.size (w8.setCell ⟨rc, 0, none⟩ vL') w12) (hs : OwnK w12 (w8.setCell ⟨rc, 0, none⟩ vL').heap.size 3 1 vS' S'.E.length (iCells (nats (slotsE σ' S'.E)))) (hi : S'.Inj σ') (hw : S'.WF) (hN : N = S'.n) :
    RcC Y (w12.setCell ⟨rc, 1, none⟩ vS') rc kb vL' vS' σ' S' ∧ Kept (fun k => k = rc) w1 (w12.setCell ⟨rc, 1, none⟩ vS') ∧ ∀ j, vL'.ownBlock = some j → w1.heap.size ≤ j := by
  have hrc := lt_of_block hb
  have hkl := hk.lt
  have hown := hl.own
  have hY : ∀ k, w1.heap.size ≤ k → Y k := fun k hk2 => (hk.new k hk2).2.2
  have hol := hl.blockLt
  have k9 := kept_put w8 rc 0 vL'
  have kF := kept_put w12 rc 1 vS'
  have hz9 : (w8.setCell ⟨rc, 0, none⟩ vL').heap.size = w8.heap.size := by simp [World.setCell]
  have b9 := (hb.up h8 hrc).put 0 vL'
  have b12 := (b9.up h12 (by rw [hz9]; have := h8.size; omega)).put 1 vS'
  have hso := hs.own
  have hsl := hs.blockLt
  have hlay := hk.lay (base' := fun k => k ≠ rc ∧ vL'.ownBlock ≠ some k ∧ Y k) h8 (fun k hk hb => ⟨hb.1, (fun e => by have := hown k e; omega), hb.2.2⟩) (fun k hk => ⟨by have := h8.size; omega, (fun e => by have := hol k e; omega), hY k (by have := h8.size; omega)⟩)
  refine ⟨⟨by rw [← hN]; exact b12, ?_, ?_, ?_, hne, fun j hj => ?_, hi, hw⟩, (((Kept.of_below h8).and k9).and ((Kept.of_below h12))).and kF, fun j hj => hown j hj⟩
  · exact (((hl.keep k9 (fun g hg e => by omega)).up h12).keep kF (fun g hg e => by omega)).le (Nat.zero_le _)
  · have hf := hs.keep kF (fun g hg e => by rw [hz9] at hg; have := h8.size; omega)
    obtain ⟨A, c, rfl, hnc, _, hz⟩ := hf.form
    have hrd := hf.rd
    refine ⟨A, c, by rw [slotsE_len], by rw [slotsE_len]; exact hnc, hrd, fun hp b o x e => ?_, hz⟩
    have h1 := hf.own b (by subst e; rfl)
    rw [hz9] at h1
    have h2 := h8.size
    exact ⟨by omega, by omega, (fun e2 => by have := hol b e2; omega), hY _ (by omega)⟩
  · exact ((hlay.keep2 k9 (fun e => hne e.symm)).up h12).keep2 kF (fun e => hne e.symm)
  · have := hown j hj
    exact ⟨by omega, by omega, hY _ this⟩
set_option maxHeartbeats 8000000 in
set_option maxRecDepth 100000 in
theorem cdrop_at (x : Int) (h : RcC Y w rc kb vL vS σ S) : Calls Tryz.prog 34 #[.pointer (some ⟨rc, 0, none⟩), .int .i64 x] w (RcTo Y rc kb vL (.bool (S.has x)) (S.dropS x) w) := by
  have HF := Lib.hid (cfind_at x h)
  cases hh : S.has x with
  | false =>
    have HE : Hid (RcTo Y rc kb vL (.bool false) (S.dropS x) w (.returned (.bool false)) w) := Lib.hid (by
      have hs : S.dropS x = S := by unfold CaS.dropS; rw [hh]; rfl
      rw [hs]
      exact ⟨rfl, ⟨vL, vS, σ, h, fun j hj => .inl hj⟩, Kept.refl _ _⟩)
    rw [fz_not hh] at HF
    clear h hh
    go_enter Tryz.func34, Tryz.ntmps34
    go_wp2_with fail
    refine HF.out.mono ?_
    rintro r w' ⟨rfl, rfl⟩
    go_wp2_with fail
    go_ret
    exact HE.out
  | true =>
    obtain ⟨i, hi, hz, hb, ha⟩ := fz_has hh
    rw [hz] at HF
    obtain ⟨A, c, rfl, hnc, _, hAz⟩ := h.l.form
    have hL := h.l
    obtain ⟨b, o, rfl, hbl, hcell⟩ := h.l.rd (by rw [cesC_len]; omega)
    obtain rfl := hL.off
    obtain ⟨b2, o2, c2, rfl, hc2, hb2, hn1, hn2, hn3, hsl⟩ := h.slots (by omega)
    have s0 := hsl i hi
    obtain ⟨s, hs⟩ : ∃ s, σ S.E[i].b = s := ⟨_, rfl⟩
    have hinj : ∀ y ∈ S.rk.T ++ S.rk.K, σ y = σ S.E[i].b → y = S.E[i].b := CaS.inj_rk h.wf h.inj ⟨_, List.getElem_mem hi, rfl⟩
    have hmap := RkS.map_remS hinj
    rw [hs] at s0 hmap
    rw [hb] at hmap
    have HK : Hid (RefM w.drew (fun k => k ≠ rc ∧ (Value.slice (some ⟨b, 0, none⟩) S.E.length c).ownBlock ≠ some k ∧ Y k) kb (S.rk.map σ)) := Lib.hid (h.k.up (Below.refl _ _).drew)
    have h1 := h.cells.2.1
    have h2 := h.cells.2.2.1
    have hne := h.ne
    have hl := h.lens.1
    have HH := Lib.hid h
    have hrow : RdV w w.heap.size (some ⟨b2, o2, none⟩) (iCells (nats (slotsE σ S.E))) := fun _ => ⟨b2, o2, rfl, hb2, fun j hj => by
      rw [slotsE_len] at hj
      rw [hsl j hj]
      simp [iCells, nats, slotsE]⟩
    have HROW := Lib.hid hrow
    have hdE : (S.dropS x).E = S.E.take i ++ S.E.drop (i + 1) := by
      unfold CaS.dropS
      rw [if_pos hh, ← hb]
      exact dropE_at h.wf.asc hi
    have hdl : (S.dropS x).E.length = i + (S.E.length - (i + 1)) := by
      rw [hdE, List.length_append, List.length_take, List.length_drop]
      omega
    have HFIN : Hid (∀ w1, RefM w1 (fun k => k ≠ rc ∧ (Value.slice (some ⟨b, 0, none⟩) S.E.length c).ownBlock ≠ some k ∧ Y k) kb ((S.rk.map σ).remS (s : Int)) → Kept (fun k => k = kb) w w1 → ∀ w8 vL', Below w1.heap.size w1 w8 → OwnK w8 w1.heap.size 59 3 vL' (i + (S.E.length - (i + 1))) (cesC (S.E.take i) ++ cesC (S.E.drop (i + 1))) → ∀ w12 vS', Below (w8.setCell ⟨rc, 0, none⟩ vL').heap.size (w8.setCell ⟨rc, 0, none⟩ vL') w12 → OwnK w12 (w8.setCell ⟨rc, 0, none⟩ vL').heap.size 3 1 vS' (i + (S.E.length - (i + 1))) (iCells (nats (slotsE σ (S.E.take i))) ++ iCells (nats (slotsE σ (S.E.drop (i + 1))))) → RcTo Y rc kb (.slice (some ⟨b, 0, none⟩) S.E.length c) (.bool true) (S.dropS x) w (.returned (.bool true)) (w12.setCell ⟨rc, 1, none⟩ vS')) := Lib.hid (fun w1 hm hk w8 vL' h8 hl8 w12 vS' h12 hs12 => by
      have hS : (S.dropS x).rk.map σ = (S.rk.map σ).remS (s : Int) := by
        rw [hmap]
        have hrn := RkS.n_rem S.rk x
        unfold CaS.dropS
        rw [if_pos hh]
        unfold CaS.setR CaS.rk at *
        generalize (RkS.mk S.T S.K S.n).remS x = R at *
        cases R
        simp at hrn
        subst hrn
        rfl
      rw [← hS] at hm
      rw [← cesC_app, ← hdE, ← hdl] at hl8
      rw [← slotsE_app, ← hdE, ← hdl] at hs12
      have hr := RcC.relay (S' := S.dropS x) (σ' := σ) (hk.blk h.b hne) hne hm h8 hl8 h12 hs12 (fun y hy z hz e => by
        rw [hdE] at hy hz
        have hsub : ∀ y ∈ S.E.take i ++ S.E.drop (i + 1), y ∈ S.E := fun y hy => by
          rcases List.mem_append.1 hy with hy | hy
          · exact List.mem_of_mem_take hy
          · exact List.mem_of_mem_drop hy
        exact h.inj y (hsub y hy) z (hsub z hz) e) (CaS.drop_wf h.wf x) (CaS.drop_n x).symm
      exact ⟨rfl, ⟨_, _, _, hr.1, fun j hj => .inr (Nat.le_trans hk.size (hr.2.2 j hj))⟩, (hk.mono (fun k _ e => .inr (.inl e))).and (hr.2.1.mono (fun k _ e => .inl e))⟩)
    obtain ⟨n, hn⟩ : ∃ n, S.E.length = n := ⟨_, rfl⟩
    have HLN := Lib.hid hn
    have hkr0 := h.lt.1
    have HNE := Lib.hid (And.intro hn1 (And.intro hn2 (And.intro hn3 (h.own b rfl))))
    rw [hn] at h1 hi hl hc2 HFIN hnc
    have HSG : Hid (∀ u, Kept (fun k => k = kb) w u → u.cell? ⟨rc, 1, none⟩ = some (.slice (some ⟨b2, o2, none⟩) n c2) ∧ u.cell? ⟨rc, 2, none⟩ = some (.pointer (some ⟨kb, 0, none⟩)) ∧ u.cell? ⟨b2, o2 + i, none⟩ = some (.int .i64 (s : Int))) := Lib.hid (fun u hu => ⟨hu.cell h1 hne, hu.cell h2 hne, hu.cell s0 hn2⟩)
    rw [hn] at HK
    have hg : ¬ ((i : Int) < 0) := by omega
    have hc0 : (S.E.take i).length = i := by rw [List.length_take]; omega
    have hc1 : (S.E.drop (i + 1)).length = n - (i + 1) := by rw [List.length_drop]; omega
    have HC := Lib.hid (And.intro hc0 hc1)
    obtain ⟨S', hS'⟩ : ∃ S', S.dropS x = S' := ⟨_, rfl⟩
    rw [hS'] at HFIN ⊢
    clear hh hz hb ha hcell hn hs hinj hmap h1 h2 s0 hdE hdl hsl hn1 hn2 hn3 hAz hbl hb2 hc0 hc1 hS' hL hrow
    go_enter Tryz.func34, Tryz.ntmps34
    go_wp2_with fail
    refine HF.out.mono ?_
    rintro r w' ⟨rfl, rfl⟩
    go_wp2_with fail
    refine wp_region_held_drew (S := fun u => u.cell? ⟨rc, 1, none⟩ = some (.slice (some ⟨b2, o2, none⟩) n c2) ∧ u.cell? ⟨rc, 2, none⟩ = some (.pointer (some ⟨kb, 0, none⟩)) ∧ u.cell? ⟨b2, o2 + i, none⟩ = some (.int .i64 (s : Int))) (by kernel_rfl) (HSG.out _ (Kept.refl _ _).drew) (fun hHeld => ?_)
    show wpAnyH _ _ _ _ _ 12 _ _ _
    refine wpAnyH_take (i := 0) (v := ?_) rfl (by kernel_rfl) (by kernel_rfl) (by kernel_rfl) (fun _ _ _ h => h) (Or.inl ⟨by rfl, ?_⟩) hHeld ?_
    rotate_left
    · intro u hSu
      obtain ⟨x0, x1, x2⟩ := hSu
      go_simp
      try with_reducible rfl
    try simp only [Act.put, List.setIfInBounds_toArray, List.set_cons_zero, List.set_cons_succ, List.getElem_toArray, List.getElem_cons_zero, List.getElem_cons_succ]
    refine wpAnyH_take (i := 1) (v := ?_) rfl (by kernel_rfl) (by kernel_rfl) (by kernel_rfl) (fun _ _ _ h => h) (Or.inl ⟨by rfl, ?_⟩) hHeld ?_
    rotate_left
    · intro u hSu
      obtain ⟨x0, x1, x2⟩ := hSu
      go_simp
      try with_reducible rfl
    try simp only [Act.put, List.setIfInBounds_toArray, List.set_cons_zero, List.set_cons_succ, List.getElem_toArray, List.getElem_cons_zero, List.getElem_cons_succ]
    refine wpAnyH_take (i := 2) (v := ?_) rfl (by kernel_rfl) (by kernel_rfl) (by kernel_rfl) (fun _ _ _ h => h) (Or.inl ⟨by rfl, ?_⟩) hHeld ?_
    rotate_left
    · intro u hSu
      obtain ⟨x0, x1, x2⟩ := hSu
      go_simp
      try with_reducible rfl
    try simp only [Act.put, List.setIfInBounds_toArray, List.set_cons_zero, List.set_cons_succ, List.getElem_toArray, List.getElem_cons_zero, List.getElem_cons_succ]
    refine wpAnyH_take (i := 3) (v := ?_) rfl (by kernel_rfl) (by kernel_rfl) (by kernel_rfl) (fun _ _ _ h => h) (Or.inl ⟨by rfl, ?_⟩) hHeld ?_
    rotate_left
    · intro u hSu
      obtain ⟨x0, x1, x2⟩ := hSu
      go_simp
      try with_reducible rfl
    try simp only [Act.put, List.setIfInBounds_toArray, List.set_cons_zero, List.set_cons_succ, List.getElem_toArray, List.getElem_cons_zero, List.getElem_cons_succ]
    refine wpAnyH_take (i := 4) (v := ?_) rfl (by kernel_rfl) (by kernel_rfl) (by kernel_rfl) (fun _ _ _ h => h) (Or.inl ⟨by rfl, ?_⟩) hHeld ?_
    rotate_left
    · intro u hSu
      obtain ⟨x0, x1, x2⟩ := hSu
      go_simp
      try with_reducible rfl
    try simp only [Act.put, List.setIfInBounds_toArray, List.set_cons_zero, List.set_cons_succ, List.getElem_toArray, List.getElem_cons_zero, List.getElem_cons_succ]
    refine wpAnyH_take (i := 5) (v := ?_) rfl (by kernel_rfl) (by kernel_rfl) (by kernel_rfl) (fun _ _ _ h => h) (Or.inl ⟨by rfl, ?_⟩) hHeld ?_
    rotate_left
    · intro u hSu
      obtain ⟨x0, x1, x2⟩ := hSu
      go_simp
      try with_reducible rfl
    try simp only [Act.put, List.setIfInBounds_toArray, List.set_cons_zero, List.set_cons_succ, List.getElem_toArray, List.getElem_cons_zero, List.getElem_cons_succ]
    refine wpAnyH_take (i := 6) (v := ?_) rfl (by kernel_rfl) (by kernel_rfl) (by kernel_rfl) (fun _ _ _ h => h) (Or.inl ⟨by rfl, ?_⟩) hHeld ?_
    rotate_left
    · intro u hSu
      obtain ⟨x0, x1, x2⟩ := hSu
      go_simp
      try with_reducible rfl
    try simp only [Act.put, List.setIfInBounds_toArray, List.set_cons_zero, List.set_cons_succ, List.getElem_toArray, List.getElem_cons_zero, List.getElem_cons_succ]
    refine wpAnyH_take (i := 7) (v := ?_) rfl (by kernel_rfl) (by kernel_rfl) (by kernel_rfl) (fun _ _ _ h => h) (Or.inl ⟨by rfl, ?_⟩) hHeld ?_
    rotate_left
    · intro u hSu
      obtain ⟨x0, x1, x2⟩ := hSu
      go_simp
      try with_reducible rfl
    try simp only [Act.put, List.setIfInBounds_toArray, List.set_cons_zero, List.set_cons_succ, List.getElem_toArray, List.getElem_cons_zero, List.getElem_cons_succ]
    refine wpAnyH_take (i := 8) (v := ?_) rfl (by kernel_rfl) (by kernel_rfl) (by kernel_rfl) (fun _ _ _ h => h) (Or.inl ⟨by rfl, ?_⟩) hHeld ?_
    rotate_left
    · intro u hSu
      obtain ⟨x0, x1, x2⟩ := hSu
      go_simp
      try with_reducible rfl
    try simp only [Act.put, List.setIfInBounds_toArray, List.set_cons_zero, List.set_cons_succ, List.getElem_toArray, List.getElem_cons_zero, List.getElem_cons_succ]
    refine wpAnyH_take (i := 9) (v := ?_) rfl (by kernel_rfl) (by kernel_rfl) (by kernel_rfl) (fun _ _ _ h => h) (Or.inl ⟨by rfl, ?_⟩) hHeld ?_
    rotate_left
    · intro u hSu
      obtain ⟨x0, x1, x2⟩ := hSu
      go_simp
      try with_reducible rfl
    try simp only [Act.put, List.setIfInBounds_toArray, List.set_cons_zero, List.set_cons_succ, List.getElem_toArray, List.getElem_cons_zero, List.getElem_cons_succ]
    refine wpAnyH_take (i := 10) (v := ?_) rfl (by kernel_rfl) (by kernel_rfl) (by kernel_rfl) (fun _ _ _ h => h) (Or.inl ⟨by rfl, ?_⟩) hHeld ?_
    rotate_left
    · intro u hSu
      obtain ⟨x0, x1, x2⟩ := hSu
      go_simp
      try with_reducible rfl
    try simp only [Act.put, List.setIfInBounds_toArray, List.set_cons_zero, List.set_cons_succ, List.getElem_toArray, List.getElem_cons_zero, List.getElem_cons_succ]
    refine wpAnyH_ready (rs := [11]) (by kernel_rfl) (by simp) ?_
    refine (AllReadyH.cons rfl (fun K hK => ?_) AllReadyH.nil)
    go_simp
    refine (rremove_at (s : Int) HK.out).mono ?_
    rintro r w1 h
    obtain ⟨rfl, hm, hk⟩ := h
    have HK1 := Lib.hid ((Kept.refl _ w).drew.and hk)
    have HM1 := Lib.hid hm
    clear hm hk
    refine hK.out _ _ ?_ (fun hHeld2 => ?_)
    · exact HSG.out _ HK1.out
    clear hK K hHeld
    have hHeld := hHeld2
    clear hHeld2
    try simp only [Act.put, List.setIfInBounds_toArray, List.set_cons_zero, List.set_cons_succ, List.getElem_toArray, List.getElem_cons_zero, List.getElem_cons_succ]
    refine wpAnyH_done (by kernel_rfl) ?_ _
    have HCL : Hid (w1.cell? ⟨rc, 0, none⟩ = some (.slice (some ⟨b, 0, none⟩) n c)) := Lib.hid (by
      have := HK1.out.cell HH.out.cells.1 hne
      rw [HLN.out] at this
      exact this)
    have HRL : Hid (RdV w1 w1.heap.size (some ⟨b, 0, none⟩) (cesC S.E)) := Lib.hid (HH.out.l.rd.keep HK1.out (fun _ b' o' x' e => by have e := Option.some.inj e; injection e with e1; have := HNE.out.2.2.2.2.1; omega))
    have HRS : Hid (RdV w1 w1.heap.size (some ⟨b2, o2, none⟩) (iCells (nats (slotsE σ S.E)))) := Lib.hid (HROW.out.keep HK1.out (fun _ b' o' x' e => by have e := Option.some.inj e; injection e with e1; have := HNE.out.2.1; omega))
    have HKK := HK1
    have HSS5 : Hid (∀ u, Below w1.heap.size w1 u → u.cell? ⟨rc, 0, none⟩ = some (.slice (some ⟨b, 0, none⟩) n c)) := Lib.hid (fun u hu => (hu.cell (p := ⟨rc, 0, none⟩) (by have := HK1.out.size; show rc < _; omega)).trans HCL.out)
    have HFR : Hid (∀ u, Below w1.heap.size w1 u → u.frozen? ⟨rc, 0, none⟩ = false ∧ u.frozen? ⟨rc, 1, none⟩ = false) := Lib.hid (fun u hu => by
      have hbb := (HK1.out.blk HH.out.b hne).up hu (lt_of_block (HK1.out.blk HH.out.b hne))
      exact ⟨hbb.free 0, hbb.free 1⟩)
    obtain ⟨A1, c1, hcut1, hz1, hrd1⟩ := cut_head (w := w1) (Ts := 42) (k := 3) (n := n) (c := c) (j := i) he_ents hz_ents HRL.out (fun e => (by cases e)) hnc (by omega)
    obtain ⟨A2, c3, hcut2, hz2, hrd2⟩ := cut_tail (w := w1) (Ts := 42) (k := 3) (n := n) (c := c) (j := i + 1) he_ents hz_ents HRL.out (fun e => (by cases e)) (by rw [cesC_len, HLN.out]) (by omega) hnc (by omega)
    rw [cesC_take] at hrd1
    rw [cesC_drop] at hrd2
    have e1 : ((i + 1 : Nat) : Int) = IntKind.i64.wrap ((i : Int) + 1) := by
      rw [IntWalk.i64_in _ (by omega)]
      omega
    rw [e1] at hcut2
    obtain ⟨f1, f2⟩ := hcut1
    obtain ⟨f3, f4⟩ := hcut2
    have HP5 : Hid ((∀ u, Below w1.heap.size w1 u → RdV u u.heap.size A1 (cesC (S.E.take i))) ∧ (cesC (S.E.take i)).length = i * 3 ∧ (A1 = none → c1 = 0) ∧ ∀ u ∈ cesC (S.E.take i), u.oneCell' = true) := Lib.hid ⟨hrd1, by rw [cesC_len, HC.out.1], hz1, cesC_one _⟩
    have HQ5 : Hid ((∀ u, Below w1.heap.size w1 u → RdV u u.heap.size A2 (cesC (S.E.drop (i + 1)))) ∧ (cesC (S.E.drop (i + 1))).length = (n - (i + 1)) * 3 ∧ (A2 = none → c3 = 0) ∧ ∀ u ∈ cesC (S.E.drop (i + 1)), u.oneCell' = true) := Lib.hid ⟨hrd2, by rw [cesC_len, HC.out.2], hz2, cesC_one _⟩
    clear hrd1 hrd2 hz1 hz2 e1 HSG hHeld HK
    go_wp2_with fail
    refine wp_region_parts (S := fun u => u.cell? ⟨rc, 0, none⟩ = some (.slice (some ⟨b, 0, none⟩) n c)) 17 3 _ (by kernel_rfl) (by kernel_rfl) (by rfl) (by simp only [List.take_succ_cons, List.take_zero]; rfl) ?_ (fun hHeld => ?_)
    · exact HSS5.out _ (Below.refl _ _).drew
    refine wpAnyH_take (i := 0) (v := ?_) rfl (by kernel_rfl) (by kernel_rfl) (by kernel_rfl) (fun _ _ _ h => h) (Or.inl ⟨by rfl, ?_⟩) hHeld ?_
    rotate_left
    · intro u hSu
      obtain x0 := hSu
      go_simp
      try with_reducible rfl
    try simp only [Act.put, List.setIfInBounds_toArray, List.set_cons_zero, List.set_cons_succ, List.getElem_toArray, List.getElem_cons_zero, List.getElem_cons_succ]
    refine wpAnyH_take (i := 2) (v := ?_) rfl (by kernel_rfl) (by kernel_rfl) (by kernel_rfl) (fun _ _ _ h => h) (Or.inl ⟨by rfl, ?_⟩) hHeld ?_
    rotate_left
    · intro u hSu
      obtain x0 := hSu
      go_simp
      try with_reducible rfl
    try simp only [Act.put, List.setIfInBounds_toArray, List.set_cons_zero, List.set_cons_succ, List.getElem_toArray, List.getElem_cons_zero, List.getElem_cons_succ]
    refine wpAnyH_take (i := 3) (v := ?_) rfl (by kernel_rfl) (by kernel_rfl) (by kernel_rfl) (fun _ _ _ h => h) (Or.inl ⟨by rfl, ?_⟩) hHeld ?_
    rotate_left
    · intro u hSu
      obtain x0 := hSu
      go_simp
      try with_reducible rfl
    try simp only [Act.put, List.setIfInBounds_toArray, List.set_cons_zero, List.set_cons_succ, List.getElem_toArray, List.getElem_cons_zero, List.getElem_cons_succ]
    refine wpAnyH_take (i := 4) (v := ?_) rfl (by kernel_rfl) (by kernel_rfl) (by kernel_rfl) (fun _ _ _ h => h) (Or.inl ⟨by rfl, ?_⟩) hHeld ?_
    rotate_left
    · intro u hSu
      obtain x0 := hSu
      go_simp
      try with_reducible rfl
    try simp only [Act.put, List.setIfInBounds_toArray, List.set_cons_zero, List.set_cons_succ, List.getElem_toArray, List.getElem_cons_zero, List.getElem_cons_succ]
    refine wpAnyH_take (i := 5) (v := ?_) rfl (by kernel_rfl) (by kernel_rfl) (by kernel_rfl) (fun _ _ _ h => h) (Or.inl ⟨by rfl, ?_⟩) hHeld ?_
    rotate_left
    · intro u hSu
      obtain x0 := hSu
      go_simp
      try with_reducible rfl
    try simp only [Act.put, List.setIfInBounds_toArray, List.set_cons_zero, List.set_cons_succ, List.getElem_toArray, List.getElem_cons_zero, List.getElem_cons_succ]
    refine wpAnyH_take (i := 6) (v := ?_) rfl (by kernel_rfl) (by kernel_rfl) (by kernel_rfl) (fun _ _ _ h => h) (Or.inl ⟨by rfl, ?_⟩) hHeld ?_
    rotate_left
    · intro u hSu
      obtain x0 := hSu
      go_simp
      try with_reducible rfl
    try simp only [Act.put, List.setIfInBounds_toArray, List.set_cons_zero, List.set_cons_succ, List.getElem_toArray, List.getElem_cons_zero, List.getElem_cons_succ]
    refine wpAnyH_take (i := 7) (v := ?_) rfl (by kernel_rfl) (by kernel_rfl) (by kernel_rfl) (fun _ _ _ h => h) (Or.inl ⟨by rfl, ?_⟩) hHeld ?_
    rotate_left
    · intro u hSu
      obtain x0 := hSu
      go_simp
      try with_reducible rfl
    try simp only [Act.put, List.setIfInBounds_toArray, List.set_cons_zero, List.set_cons_succ, List.getElem_toArray, List.getElem_cons_zero, List.getElem_cons_succ]
    refine wpAnyH_take (i := 9) (v := ?_) rfl (by kernel_rfl) (by kernel_rfl) (by kernel_rfl) (fun _ _ _ h => h) (Or.inl ⟨by rfl, ?_⟩) hHeld ?_
    rotate_left
    · intro u hSu
      obtain x0 := hSu
      go_simp
      try with_reducible rfl
    try simp only [Act.put, List.setIfInBounds_toArray, List.set_cons_zero, List.set_cons_succ, List.getElem_toArray, List.getElem_cons_zero, List.getElem_cons_succ]
    refine wpAnyH_take (i := 10) (v := ?_) rfl (by kernel_rfl) (by kernel_rfl) (by kernel_rfl) (fun _ _ _ h => h) (Or.inl ⟨by rfl, ?_⟩) hHeld ?_
    rotate_left
    · intro u hSu
      obtain x0 := hSu
      go_simp
      try with_reducible rfl
    try simp only [Act.put, List.setIfInBounds_toArray, List.set_cons_zero, List.set_cons_succ, List.getElem_toArray, List.getElem_cons_zero, List.getElem_cons_succ]
    refine wpAnyH_take (i := 11) (v := ?_) rfl (by kernel_rfl) (by kernel_rfl) (by kernel_rfl) (fun _ _ _ h => h) (Or.inl ⟨by rfl, ?_⟩) hHeld ?_
    rotate_left
    · intro u hSu
      obtain x0 := hSu
      go_simp
      try with_reducible rfl
    try simp only [Act.put, List.setIfInBounds_toArray, List.set_cons_zero, List.set_cons_succ, List.getElem_toArray, List.getElem_cons_zero, List.getElem_cons_succ]
    refine wpAnyH_take (i := 12) (v := ?_) rfl (by kernel_rfl) (by kernel_rfl) (by kernel_rfl) (fun _ _ _ h => h) (Or.inl ⟨by rfl, ?_⟩) hHeld ?_
    rotate_left
    · intro u hSu
      obtain x0 := hSu
      go_simp
      try with_reducible rfl
    try simp only [Act.put, List.setIfInBounds_toArray, List.set_cons_zero, List.set_cons_succ, List.getElem_toArray, List.getElem_cons_zero, List.getElem_cons_succ]
    refine wpAnyH_take (i := 13) (v := ?_) rfl (by kernel_rfl) (by kernel_rfl) (by kernel_rfl) (fun _ _ _ h => h) (Or.inl ⟨by rfl, ?_⟩) hHeld ?_
    rotate_left
    · intro u hSu
      obtain x0 := hSu
      go_simp
      try with_reducible rfl
    try simp only [Act.put, List.setIfInBounds_toArray, List.set_cons_zero, List.set_cons_succ, List.getElem_toArray, List.getElem_cons_zero, List.getElem_cons_succ]
    refine wpAnyH_take (i := 14) (v := ?_) rfl (by kernel_rfl) (by kernel_rfl) (by kernel_rfl) (fun _ _ _ h => h) (Or.inl ⟨by rfl, ?_⟩) hHeld ?_
    rotate_left
    · intro u hSu
      obtain x0 := hSu
      go_simp
      try with_reducible rfl
    try simp only [Act.put, List.setIfInBounds_toArray, List.set_cons_zero, List.set_cons_succ, List.getElem_toArray, List.getElem_cons_zero, List.getElem_cons_succ]
    refine wpAnyH_take (i := 15) (v := ?_) rfl (by kernel_rfl) (by kernel_rfl) (by kernel_rfl) (fun _ _ _ h => h) (Or.inl ⟨by rfl, ?_⟩) hHeld ?_
    rotate_left
    · intro u hSu
      obtain x0 := hSu
      go_simp
      try with_reducible rfl
    try simp only [Act.put, List.setIfInBounds_toArray, List.set_cons_zero, List.set_cons_succ, List.getElem_toArray, List.getElem_cons_zero, List.getElem_cons_succ]
    obtain ⟨w6, hw6⟩ : ∃ w6, w1.drew = w6 := ⟨_, rfl⟩
    have HB6 : Hid (Below w1.heap.size w1 w6) := Lib.hid (by rw [← hw6]; exact (Below.refl _ _).drew)
    rw [hw6] at hHeld ⊢
    clear hw6
    obtain ⟨w7, hw7⟩ : ∃ w7, w6.alloc (.cells #[] 59) = w7 := ⟨_, rfl⟩
    have hb7 : Below w6.heap.size w6 w7 := by rw [← hw7]; exact (Below.refl _ _).alloc (Nat.le_refl _) _
    have HB7 : Hid (Below w1.heap.size w1 w7) := Lib.hid (below_all HB6.out hb7)
    have HO7 : Hid (OwnK w7 w1.heap.size 59 3 (.slice (some ⟨w6.heap.size, 0, none⟩) 0 0) 0 []) := Lib.hid (by rw [← hw7]; exact OwnK.new w6 _ _ 3 0 [] HB6.out.size rfl (by omega))
    clear hb7 HB6
    refine wpAnyH_ready (rs := [1]) (by kernel_rfl) (by simp) ?_
    refine (AllReadyH.cons rfl (fun K hK => ?_) AllReadyH.nil)
    go_simp
    try rw [hw7]
    refine hK.out _ _ ?_ (fun hHeld2 => ?_)
    · exact HSS5.out _ HB7.out
    clear hK K hHeld
    have hHeld := hHeld2
    clear hHeld2
    try simp only [Act.put, List.setIfInBounds_toArray, List.set_cons_zero, List.set_cons_succ, List.getElem_toArray, List.getElem_cons_zero, List.getElem_cons_succ]
    refine wpAnyH_ready (rs := [8]) (by kernel_rfl) (by simp) ?_
    refine (AllReadyH.cons rfl (fun K hK => ?_) AllReadyH.nil)
    (refine stepP w7 (by rfl) (.tmp 24) (.tmp 30) 42 59 (.agg #[.int .i64 0, .int .u32 0, .bool false]) 3 16 (by rfl) Tryz.underlying42 ceInfo rfl (by decide) (by decide) w1.heap.size 0 i c1 _ [] (cesC (S.E.take i)) A1 (by rfl) HO7.out (by rfl) (HP5.out.2.1) (HP5.out.1 _ HB7.out) HP5.out.2.2.1 (HP5.out.2.2.2) (by omega) HB7.out.size ?_; intro v8 w8 ho hg; rw [Nat.zero_add, List.nil_append] at ho; have HO8 := Lib.hid ho; have HB8 := Lib.hid (below_grown HB7.out hg (fun e he => HO7.out.own e he)); clear ho hg)
    refine hK.out _ _ ?_ (fun hHeld2 => ?_)
    · exact HSS5.out _ HB8.out
    clear hK K hHeld
    have hHeld := hHeld2
    clear hHeld2
    try simp only [Act.put, List.setIfInBounds_toArray, List.set_cons_zero, List.set_cons_succ, List.getElem_toArray, List.getElem_cons_zero, List.getElem_cons_succ]
    refine wpAnyH_ready (rs := [16]) (by kernel_rfl) (by simp) ?_
    refine (AllReadyH.cons rfl (fun K hK => ?_) AllReadyH.nil)
    (refine stepP w8 (by rfl) (.tmp 31) (.tmp 38) 42 59 (.agg #[.int .i64 0, .int .u32 0, .bool false]) 3 16 (by rfl) Tryz.underlying42 ceInfo rfl (by decide) (by decide) w1.heap.size i (n - (i + 1)) c3 v8 (cesC (S.E.take i)) (cesC (S.E.drop (i + 1))) A2 (by rfl) HO8.out (by rfl) (HQ5.out.2.1) (HQ5.out.1 _ HB8.out) HQ5.out.2.2.1 (HQ5.out.2.2.2) (by omega) HB8.out.size ?_; intro v9 w9 ho hg; have HO9 := Lib.hid ho; have HB9 := Lib.hid (below_grown HB8.out hg (fun e he => HO8.out.own e he)); clear ho hg)
    refine hK.out _ _ ?_ (fun hHeld2 => ?_)
    · exact HSS5.out _ HB9.out
    clear hK K hHeld
    have hHeld := hHeld2
    clear hHeld2
    try simp only [Act.put, List.setIfInBounds_toArray, List.set_cons_zero, List.set_cons_succ, List.getElem_toArray, List.getElem_cons_zero, List.getElem_cons_succ]
    refine wpAnyH_done (by kernel_rfl) ?_ _
    show wpAny _ _ _ _ 3 _ _ _
    clear hHeld
    refine wpAny_take (i := 17) (v := ?_) rfl (by kernel_rfl) (by kernel_rfl) (by kernel_rfl) (fun _ _ _ h => h) (Or.inl ⟨by rfl, ?_⟩) ?_
    rotate_left
    · intro u
      go_simp
      try with_reducible rfl
    try simp only [Act.put, List.setIfInBounds_toArray, List.set_cons_zero, List.set_cons_succ, List.getElem_toArray, List.getElem_cons_zero, List.getElem_cons_succ]
    refine wpAny_take (i := 18) (v := ?_) rfl (by kernel_rfl) (by kernel_rfl) (by kernel_rfl) (fun _ _ _ h => h) (Or.inl ⟨by rfl, ?_⟩) ?_
    rotate_left
    · intro u
      go_simp
      try with_reducible rfl
    try simp only [Act.put, List.setIfInBounds_toArray, List.set_cons_zero, List.set_cons_succ, List.getElem_toArray, List.getElem_cons_zero, List.getElem_cons_succ]
    obtain ⟨A9, c9, rfl, _, _, _⟩ := HO9.out.form
    have g0 := HSS5.out _ HB9.out
    have g1 := (HFR.out _ HB9.out).1
    obtain ⟨wA, hwA⟩ : ∃ u, w9.setCell ⟨rc, 0, none⟩ (.slice A9 (i + (n - (i + 1))) c9) = u := ⟨_, rfl⟩
    have HWA := Lib.hid hwA
    have hkA : Kept (fun k => k = rc) w1 wA := by rw [← hwA]; exact (Kept.of_below HB9.out).and (kept_put w9 rc 0 _)
    have HRA : Hid (RdV wA wA.heap.size (some ⟨b2, o2, none⟩) (iCells (nats (slotsE σ S.E)))) := Lib.hid (HRS.out.keep hkA (fun _ b' o' x' e => by have e := Option.some.inj e; injection e with e1; have := HNE.out.1; omega))
    have hbA : Blk wA rc 46 [.slice A9 (i + (n - (i + 1))) c9, .slice (some ⟨b2, o2, none⟩) S.E.length c2, .pointer (some ⟨kb, 0, none⟩), .int .i64 (S.n : Int)] := by
      rw [← hwA]
      have hb1 := HK1.out.blk HH.out.b hne
      exact (hb1.up HB9.out (lt_of_block hb1)).put 0 _
    have HBA := Lib.hid hbA
    have HSS6 : Hid (∀ u, Below wA.heap.size wA u → u.cell? ⟨rc, 1, none⟩ = some (.slice (some ⟨b2, o2, none⟩) n c2)) := Lib.hid (fun u hu => by
      have := (HBA.out.up hu (lt_of_block HBA.out)).cell 1 (by simp)
      simp only [List.getElem_cons_zero, List.getElem_cons_succ] at this
      rw [HLN.out] at this
      exact this)
    obtain ⟨A3, c4, hcut3, hz3, hrd3⟩ := cut_head (w := wA) (Ts := 43) (k := 1) (n := n) (c := c2) (j := i) he_ints hz_ints HRA.out (fun e => (by cases e)) hc2 (by omega)
    obtain ⟨A4, c5, hcut4, hz4, hrd4⟩ := cut_tail (w := wA) (Ts := 43) (k := 1) (n := n) (c := c2) (j := i + 1) he_ints hz_ints HRA.out (fun e => (by cases e)) (by rw [slotsE_len, HLN.out, Nat.mul_one]) (by omega) hc2 (by omega)
    rw [Nat.mul_one, slotsE_take] at hrd3
    rw [Nat.mul_one, slotsE_drop] at hrd4
    have e1 : ((i + 1 : Nat) : Int) = IntKind.i64.wrap ((i : Int) + 1) := by
      rw [IntWalk.i64_in _ (by omega)]
      omega
    rw [e1] at hcut4
    obtain ⟨t1, t2⟩ := hcut3
    obtain ⟨t3, t4⟩ := hcut4
    have HP6 : Hid ((∀ u, Below wA.heap.size wA u → RdV u u.heap.size A3 (iCells (nats (slotsE σ (S.E.take i))))) ∧ (iCells (nats (slotsE σ (S.E.take i)))).length = i * 1 ∧ (A3 = none → c4 = 0) ∧ ∀ u ∈ iCells (nats (slotsE σ (S.E.take i))), u.oneCell' = true) := Lib.hid ⟨hrd3, by rw [slotsE_len, HC.out.1, Nat.mul_one], hz3, iCells_one⟩
    have HQ6 : Hid ((∀ u, Below wA.heap.size wA u → RdV u u.heap.size A4 (iCells (nats (slotsE σ (S.E.drop (i + 1)))))) ∧ (iCells (nats (slotsE σ (S.E.drop (i + 1))))).length = (n - (i + 1)) * 1 ∧ (A4 = none → c5 = 0) ∧ ∀ u ∈ iCells (nats (slotsE σ (S.E.drop (i + 1)))), u.oneCell' = true) := Lib.hid ⟨hrd4, by rw [slotsE_len, HC.out.2, Nat.mul_one], hz4, iCells_one⟩
    clear hrd3 hrd4 hz3 hz4 e1 hkA hbA f1 f2 f3 f4
    refine wpAny_ready (rs := [19]) (by kernel_rfl) (by simp) ?_
    refine AllReady.cons rfl (fun K hK => ?_) AllReady.nil
    go_simp
    try rw [HWA.out]
    refine hK _ _ ?_
    clear hK K
    refine wpAny_done (by kernel_rfl) ?_ _
    clear HFR HSS5 HP5 HQ5 HRL HRS HCL HK1 g0 g1
    have HFIN2 := Lib.hid (HFIN.out _ HM1.out HKK.out _ _ HB9.out HO9.out)
    rw [HWA.out] at HFIN2
    clear HFIN HM1 HKK HB9 HO9 HO8 HB8 HO7 HB7 hw7
    go_wp2_with fail
    refine wp_region_parts (S := fun u => u.cell? ⟨rc, 1, none⟩ = some (.slice (some ⟨b2, o2, none⟩) n c2)) 17 3 _ (by kernel_rfl) (by kernel_rfl) (by rfl) (by simp only [List.take_succ_cons, List.take_zero]; rfl) ?_ (fun hHeld => ?_)
    · exact HSS6.out _ (Below.refl _ _).drew
    refine wpAnyH_take (i := 0) (v := ?_) rfl (by kernel_rfl) (by kernel_rfl) (by kernel_rfl) (fun _ _ _ h => h) (Or.inl ⟨by rfl, ?_⟩) hHeld ?_
    rotate_left
    · intro u hSu
      obtain x0 := hSu
      go_simp
      try with_reducible rfl
    try simp only [Act.put, List.setIfInBounds_toArray, List.set_cons_zero, List.set_cons_succ, List.getElem_toArray, List.getElem_cons_zero, List.getElem_cons_succ]
    refine wpAnyH_take (i := 2) (v := ?_) rfl (by kernel_rfl) (by kernel_rfl) (by kernel_rfl) (fun _ _ _ h => h) (Or.inl ⟨by rfl, ?_⟩) hHeld ?_
    rotate_left
    · intro u hSu
      obtain x0 := hSu
      go_simp
      try with_reducible rfl
    try simp only [Act.put, List.setIfInBounds_toArray, List.set_cons_zero, List.set_cons_succ, List.getElem_toArray, List.getElem_cons_zero, List.getElem_cons_succ]
    refine wpAnyH_take (i := 3) (v := ?_) rfl (by kernel_rfl) (by kernel_rfl) (by kernel_rfl) (fun _ _ _ h => h) (Or.inl ⟨by rfl, ?_⟩) hHeld ?_
    rotate_left
    · intro u hSu
      obtain x0 := hSu
      go_simp
      try with_reducible rfl
    try simp only [Act.put, List.setIfInBounds_toArray, List.set_cons_zero, List.set_cons_succ, List.getElem_toArray, List.getElem_cons_zero, List.getElem_cons_succ]
    refine wpAnyH_take (i := 4) (v := ?_) rfl (by kernel_rfl) (by kernel_rfl) (by kernel_rfl) (fun _ _ _ h => h) (Or.inl ⟨by rfl, ?_⟩) hHeld ?_
    rotate_left
    · intro u hSu
      obtain x0 := hSu
      go_simp
      try with_reducible rfl
    try simp only [Act.put, List.setIfInBounds_toArray, List.set_cons_zero, List.set_cons_succ, List.getElem_toArray, List.getElem_cons_zero, List.getElem_cons_succ]
    refine wpAnyH_take (i := 5) (v := ?_) rfl (by kernel_rfl) (by kernel_rfl) (by kernel_rfl) (fun _ _ _ h => h) (Or.inl ⟨by rfl, ?_⟩) hHeld ?_
    rotate_left
    · intro u hSu
      obtain x0 := hSu
      go_simp
      try with_reducible rfl
    try simp only [Act.put, List.setIfInBounds_toArray, List.set_cons_zero, List.set_cons_succ, List.getElem_toArray, List.getElem_cons_zero, List.getElem_cons_succ]
    refine wpAnyH_take (i := 6) (v := ?_) rfl (by kernel_rfl) (by kernel_rfl) (by kernel_rfl) (fun _ _ _ h => h) (Or.inl ⟨by rfl, ?_⟩) hHeld ?_
    rotate_left
    · intro u hSu
      obtain x0 := hSu
      go_simp
      try with_reducible rfl
    try simp only [Act.put, List.setIfInBounds_toArray, List.set_cons_zero, List.set_cons_succ, List.getElem_toArray, List.getElem_cons_zero, List.getElem_cons_succ]
    refine wpAnyH_take (i := 7) (v := ?_) rfl (by kernel_rfl) (by kernel_rfl) (by kernel_rfl) (fun _ _ _ h => h) (Or.inl ⟨by rfl, ?_⟩) hHeld ?_
    rotate_left
    · intro u hSu
      obtain x0 := hSu
      go_simp
      try with_reducible rfl
    try simp only [Act.put, List.setIfInBounds_toArray, List.set_cons_zero, List.set_cons_succ, List.getElem_toArray, List.getElem_cons_zero, List.getElem_cons_succ]
    refine wpAnyH_take (i := 9) (v := ?_) rfl (by kernel_rfl) (by kernel_rfl) (by kernel_rfl) (fun _ _ _ h => h) (Or.inl ⟨by rfl, ?_⟩) hHeld ?_
    rotate_left
    · intro u hSu
      obtain x0 := hSu
      go_simp
      try with_reducible rfl
    try simp only [Act.put, List.setIfInBounds_toArray, List.set_cons_zero, List.set_cons_succ, List.getElem_toArray, List.getElem_cons_zero, List.getElem_cons_succ]
    refine wpAnyH_take (i := 10) (v := ?_) rfl (by kernel_rfl) (by kernel_rfl) (by kernel_rfl) (fun _ _ _ h => h) (Or.inl ⟨by rfl, ?_⟩) hHeld ?_
    rotate_left
    · intro u hSu
      obtain x0 := hSu
      go_simp
      try with_reducible rfl
    try simp only [Act.put, List.setIfInBounds_toArray, List.set_cons_zero, List.set_cons_succ, List.getElem_toArray, List.getElem_cons_zero, List.getElem_cons_succ]
    refine wpAnyH_take (i := 11) (v := ?_) rfl (by kernel_rfl) (by kernel_rfl) (by kernel_rfl) (fun _ _ _ h => h) (Or.inl ⟨by rfl, ?_⟩) hHeld ?_
    rotate_left
    · intro u hSu
      obtain x0 := hSu
      go_simp
      try with_reducible rfl
    try simp only [Act.put, List.setIfInBounds_toArray, List.set_cons_zero, List.set_cons_succ, List.getElem_toArray, List.getElem_cons_zero, List.getElem_cons_succ]
    refine wpAnyH_take (i := 12) (v := ?_) rfl (by kernel_rfl) (by kernel_rfl) (by kernel_rfl) (fun _ _ _ h => h) (Or.inl ⟨by rfl, ?_⟩) hHeld ?_
    rotate_left
    · intro u hSu
      obtain x0 := hSu
      go_simp
      try with_reducible rfl
    try simp only [Act.put, List.setIfInBounds_toArray, List.set_cons_zero, List.set_cons_succ, List.getElem_toArray, List.getElem_cons_zero, List.getElem_cons_succ]
    refine wpAnyH_take (i := 13) (v := ?_) rfl (by kernel_rfl) (by kernel_rfl) (by kernel_rfl) (fun _ _ _ h => h) (Or.inl ⟨by rfl, ?_⟩) hHeld ?_
    rotate_left
    · intro u hSu
      obtain x0 := hSu
      go_simp
      try with_reducible rfl
    try simp only [Act.put, List.setIfInBounds_toArray, List.set_cons_zero, List.set_cons_succ, List.getElem_toArray, List.getElem_cons_zero, List.getElem_cons_succ]
    refine wpAnyH_take (i := 14) (v := ?_) rfl (by kernel_rfl) (by kernel_rfl) (by kernel_rfl) (fun _ _ _ h => h) (Or.inl ⟨by rfl, ?_⟩) hHeld ?_
    rotate_left
    · intro u hSu
      obtain x0 := hSu
      go_simp
      try with_reducible rfl
    try simp only [Act.put, List.setIfInBounds_toArray, List.set_cons_zero, List.set_cons_succ, List.getElem_toArray, List.getElem_cons_zero, List.getElem_cons_succ]
    refine wpAnyH_take (i := 15) (v := ?_) rfl (by kernel_rfl) (by kernel_rfl) (by kernel_rfl) (fun _ _ _ h => h) (Or.inl ⟨by rfl, ?_⟩) hHeld ?_
    rotate_left
    · intro u hSu
      obtain x0 := hSu
      go_simp
      try with_reducible rfl
    try simp only [Act.put, List.setIfInBounds_toArray, List.set_cons_zero, List.set_cons_succ, List.getElem_toArray, List.getElem_cons_zero, List.getElem_cons_succ]
    obtain ⟨w6, hw6⟩ : ∃ w6, wA.drew = w6 := ⟨_, rfl⟩
    have HB6 : Hid (Below wA.heap.size wA w6) := Lib.hid (by rw [← hw6]; exact (Below.refl _ _).drew)
    rw [hw6] at hHeld ⊢
    clear hw6
    obtain ⟨w7, hw7⟩ : ∃ w7, w6.alloc (.cells #[] 3) = w7 := ⟨_, rfl⟩
    have hb7 : Below w6.heap.size w6 w7 := by rw [← hw7]; exact (Below.refl _ _).alloc (Nat.le_refl _) _
    have HB7 : Hid (Below wA.heap.size wA w7) := Lib.hid (below_all HB6.out hb7)
    have HO7 : Hid (OwnK w7 wA.heap.size 3 1 (.slice (some ⟨w6.heap.size, 0, none⟩) 0 0) 0 []) := Lib.hid (by rw [← hw7]; exact OwnK.new w6 _ _ 1 0 [] HB6.out.size rfl (by omega))
    clear hb7 HB6
    refine wpAnyH_ready (rs := [1]) (by kernel_rfl) (by simp) ?_
    refine (AllReadyH.cons rfl (fun K hK => ?_) AllReadyH.nil)
    go_simp
    try rw [hw7]
    refine hK.out _ _ ?_ (fun hHeld2 => ?_)
    · exact HSS6.out _ HB7.out
    clear hK K hHeld
    have hHeld := hHeld2
    clear hHeld2
    try simp only [Act.put, List.setIfInBounds_toArray, List.set_cons_zero, List.set_cons_succ, List.getElem_toArray, List.getElem_cons_zero, List.getElem_cons_succ]
    refine wpAnyH_ready (rs := [8]) (by kernel_rfl) (by simp) ?_
    refine (AllReadyH.cons rfl (fun K hK => ?_) AllReadyH.nil)
    (refine stepP w7 (by rfl) (.tmp 43) (.tmp 49) 43 3 (.int .i64 0) 1 8 (by rfl) Tryz.underlying43 intInfo rfl (by decide) (by decide) wA.heap.size 0 i c4 _ [] (iCells (nats (slotsE σ (S.E.take i)))) A3 (by rfl) HO7.out (by rfl) (HP6.out.2.1) (HP6.out.1 _ HB7.out) HP6.out.2.2.1 (HP6.out.2.2.2) (by omega) HB7.out.size ?_; intro v8 w8 ho hg; rw [Nat.zero_add, List.nil_append] at ho; have HO8 := Lib.hid ho; have HB8 := Lib.hid (below_grown HB7.out hg (fun e he => HO7.out.own e he)); clear ho hg)
    refine hK.out _ _ ?_ (fun hHeld2 => ?_)
    · exact HSS6.out _ HB8.out
    clear hK K hHeld
    have hHeld := hHeld2
    clear hHeld2
    try simp only [Act.put, List.setIfInBounds_toArray, List.set_cons_zero, List.set_cons_succ, List.getElem_toArray, List.getElem_cons_zero, List.getElem_cons_succ]
    refine wpAnyH_ready (rs := [16]) (by kernel_rfl) (by simp) ?_
    refine (AllReadyH.cons rfl (fun K hK => ?_) AllReadyH.nil)
    (refine stepP w8 (by rfl) (.tmp 50) (.tmp 57) 43 3 (.int .i64 0) 1 8 (by rfl) Tryz.underlying43 intInfo rfl (by decide) (by decide) wA.heap.size i (n - (i + 1)) c5 v8 (iCells (nats (slotsE σ (S.E.take i)))) (iCells (nats (slotsE σ (S.E.drop (i + 1))))) A4 (by rfl) HO8.out (by rfl) (HQ6.out.2.1) (HQ6.out.1 _ HB8.out) HQ6.out.2.2.1 (HQ6.out.2.2.2) (by omega) HB8.out.size ?_; intro v9 w9 ho hg; have HO9 := Lib.hid ho; have HB9 := Lib.hid (below_grown HB8.out hg (fun e he => HO8.out.own e he)); clear ho hg)
    refine hK.out _ _ ?_ (fun hHeld2 => ?_)
    · exact HSS6.out _ HB9.out
    clear hK K hHeld
    have hHeld := hHeld2
    clear hHeld2
    try simp only [Act.put, List.setIfInBounds_toArray, List.set_cons_zero, List.set_cons_succ, List.getElem_toArray, List.getElem_cons_zero, List.getElem_cons_succ]
    refine wpAnyH_done (by kernel_rfl) ?_ _
    show wpAny _ _ _ _ 3 _ _ _
    clear hHeld
    refine wpAny_take (i := 17) (v := ?_) rfl (by kernel_rfl) (by kernel_rfl) (by kernel_rfl) (fun _ _ _ h => h) (Or.inl ⟨by rfl, ?_⟩) ?_
    rotate_left
    · intro u
      go_simp
      try with_reducible rfl
    try simp only [Act.put, List.setIfInBounds_toArray, List.set_cons_zero, List.set_cons_succ, List.getElem_toArray, List.getElem_cons_zero, List.getElem_cons_succ]
    refine wpAny_take (i := 18) (v := ?_) rfl (by kernel_rfl) (by kernel_rfl) (by kernel_rfl) (fun _ _ _ h => h) (Or.inl ⟨by rfl, ?_⟩) ?_
    rotate_left
    · intro u
      go_simp
      try with_reducible rfl
    try simp only [Act.put, List.setIfInBounds_toArray, List.set_cons_zero, List.set_cons_succ, List.getElem_toArray, List.getElem_cons_zero, List.getElem_cons_succ]
    obtain ⟨A13, c13, rfl, _, _, _⟩ := HO9.out.form
    have g0 := HSS6.out _ HB9.out
    have g1 := (HBA.out.up HB9.out (lt_of_block HBA.out)).free 1
    have HEND := Lib.hid (HFIN2.out _ _ HB9.out HO9.out)
    refine wpAny_ready (rs := [19]) (by kernel_rfl) (by simp) ?_
    refine AllReady.cons rfl (fun K hK => ?_) AllReady.nil
    go_simp
    refine hK _ _ ?_
    clear hK K
    refine wpAny_done (by kernel_rfl) ?_ _
    clear HFIN2 HO9 HB9 HO8 HB8 HO7 HB7 HBA HSS6 HP6 HQ6
    go_wp2_with fail
    go_ret
    exact HEND.out
end
end Go.Proofs.YtajccmkdfmpapaaGreatDoor
