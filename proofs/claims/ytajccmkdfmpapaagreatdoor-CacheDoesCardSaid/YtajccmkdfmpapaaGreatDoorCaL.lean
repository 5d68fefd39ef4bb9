/-
  The document's cache in memory: Put, where the block is there.
-/
import Derived.Test.YtajccmkdfmpapaaGreatDoorCaK
import Derived.Test.YtajccmkdfmpapaaGreatDoorZmK
import Derived.Test.YtajccmkdfmpapaaGreatDoorZmG
namespace Go.Proofs.YtajccmkdfmpapaaGreatDoor
open Go.RowKit

section
variable {w : World} {Y : Nat → Prop} {rc kb : Nat} {vL vS : Value} {σ : Nat → Nat} {S : CaS}
/-- Touch, where the block is there: what the walk of it needs. -/
structure TouT (Y : Nat → Prop) (w : World) (rc kb b o b2 o2 c c2 n i s y : Nat) (v : Value) (S' : CaS) : Prop where
  k : ∃ R, RefM w.drew (fun k => k ≠ rc ∧ (Value.slice (some ⟨b, o, none⟩) n c).ownBlock ≠ some k ∧ Y k) kb R ∧ ∀ w1, RefM w1 (fun k => k ≠ rc ∧ (Value.slice (some ⟨b, o, none⟩) n c).ownBlock ≠ some k ∧ Y k) kb (R.touS (s : Int)) → Kept (fun k => k = kb) w w1 → RcTo Y rc kb (.slice (some ⟨b, o, none⟩) n c) v S' w (.returned v) w1
  s : ∀ u, Kept (fun k => k = kb) w u → u.cell? ⟨rc, 1, none⟩ = some (.slice (some ⟨b2, o2, none⟩) n c2) ∧ u.cell? ⟨rc, 2, none⟩ = some (.pointer (some ⟨kb, 0, none⟩)) ∧ u.cell? ⟨b2, o2 + i, none⟩ = some (.int .i64 (s : Int))
  l : n ≤ c2
theorem RcTo.back {w w4 w1 : World} {v : Value} {r : Ending} (h : RcTo Y rc kb vL v S w4 r w1) (hk : Kept (fun k => vL.ownBlock = some k) w w4) : RcTo Y rc kb vL v S w r w1 := by
  obtain ⟨h1, ⟨vL', vS', σ', h2, h3⟩, h4⟩ := h
  refine ⟨h1, ⟨vL', vS', σ', h2, fun j hj => ?_⟩, (hk.mono (fun k _ e => .inr (.inr e))).and h4⟩
  rcases h3 j hj with e | e
  · exact .inl e
  · exact .inr (Nat.le_trans hk.size e)
theorem RcC.touT {b o c i : Nat} {x : Int} (v : Value) (h : RcC Y w rc kb (.slice (some ⟨b, o, none⟩) S.E.length c) vS σ S) (hh : S.has x = true) (hi : i < S.E.length) (hb : (S.E[i].b : Int) = x) :
    ∃ b2 o2 c2, TouT Y w rc kb b o b2 o2 c c2 S.E.length i (σ S.E[i].b) 0 v (S.useS x) := by
  obtain ⟨b2, o2, c2, rfl, hc2, hb2, hn1, hn2, s0⟩ := h.slot hi
  have hinj : ∀ y ∈ S.rk.T ++ S.rk.K, σ y = σ S.E[i].b → y = S.E[i].b := CaS.inj_rk h.wf h.inj ⟨_, List.getElem_mem hi, rfl⟩
  have hmap := RkS.map_touS hinj
  refine ⟨b2, o2, c2, ⟨S.rk.map σ, h.k.up (Below.refl _ _).drew, fun w1 hm hk => ?_⟩, fun u hu => ⟨hu.cell h.cells.2.1 h.ne, hu.cell h.cells.2.2.1 h.ne, hu.cell s0 hn2⟩, hc2⟩
  have hu : S.useS x = S.setR (S.rk.touS (S.E[i].b : Int)) := by unfold CaS.useS; rw [hh, hb]; rfl
  have hw := CaS.use_wf h.wf x
  rw [hu] at hw ⊢
  rw [hmap] at hm
  have hR := h.rank hk hm (touS_n _ _) hw
  exact ⟨rfl, ⟨_, _, σ, hR, fun j hj => .inl hj⟩, hk.mono (fun k _ e => .inr (.inl e))⟩
set_option maxHeartbeats 4000000 in
set_option maxRecDepth 100000 in
theorem cput_has (x : Int) (a : Nat) (d : Bool) (h : RcC Y w rc kb vL vS σ S) (hh : S.has x = true) : Calls Tryz.prog 32 #[.pointer (some ⟨rc, 0, none⟩), .int .i64 x, .int .u32 (a : Int), .bool d] w (RcTo Y rc kb vL (.bool true) (S.putS x a d) w) := by
  have HF := Lib.hid (cfind_at x h)
  obtain ⟨i, hi, hz, hb, ha⟩ := fz_has hh
  rw [hz] at HF
  obtain ⟨A, c, rfl, hnc, _, _⟩ := h.l.form
  have hL := h.l
  have g0 := h.cells.1
  have hrb : rc ≠ kb := h.ne
  obtain ⟨b, o, rfl, hbl, hcell⟩ := h.l.rd (by rw [cesC_len]; omega)
  obtain rfl := hL.off
  have hbr : b ≠ rc := (h.own b rfl).1
  obtain ⟨c0, c1, c2'⟩ := ces_cells hcell i hi
  rw [Nat.zero_add] at c1 c2'
  obtain ⟨y, hy⟩ : ∃ y, S.E[i].d = y := ⟨_, rfl⟩
  rw [hy] at c2'
  obtain ⟨w2, hw2⟩ : ∃ u, w.setCell ⟨b, i * 3 + 1, none⟩ (.int .u32 (a : Int)) = u := ⟨_, rfl⟩
  have hk2 : Kept (fun k => k = b) w w2 := by rw [← hw2]; exact kept_put w b (i * 3 + 1) _
  have hL2 : OwnK w2 0 59 3 (.slice (some ⟨b, 0, none⟩) S.E.length c) S.E.length ((cesC S.E).set (i * 3 + 1) (.int .u32 (a : Int))) := by rw [← hw2]; exact hL.set _
  have g2 : w2.cell? ⟨rc, 0, none⟩ = some (.slice (some ⟨b, 0, none⟩) S.E.length c) := hk2.cell g0 (fun e => hbr e.symm)
  have d2 : w2.cell? ⟨b, i * 3 + 2, none⟩ = some (.bool y) := by
    obtain ⟨b', o', hA, _, hcell2⟩ := hL2.rd (by rw [List.length_set, cesC_len]; omega)
    have hA := Option.some.inj hA
    injection hA with e1 e2
    subst e1 e2
    have hlt : i * 3 + 2 < ((cesC S.E).set (i * 3 + 1) (.int .u32 (a : Int))).length := by rw [List.length_set, cesC_len]; omega
    have := hcell2 (i * 3 + 2) hlt
    rw [Nat.zero_add] at this
    rw [this, List.getElem_set_ne (by omega)]
    have h5 := hcell (i * 3 + 2) (by rw [cesC_len]; omega)
    rw [Nat.zero_add] at h5
    rw [← h5, c2']
  obtain ⟨w4, hw4⟩ : ∃ u, (w2.setCell ⟨b, i * 3 + 2, none⟩ (.bool (y || d))).drew = u := ⟨_, rfl⟩
  have hE : ∃ b2 o2 c2, TouT Y w4 rc kb b 0 b2 o2 c c2 S.E.length i (σ S.E[i].b) 0 (.bool true) (S.putS x a d) ∧ Kept (fun k => (Value.slice (some ⟨b, 0, none⟩) S.E.length c).ownBlock = some k) w w4 := by
    have hdr : Below (w2.setCell ⟨b, i * 3 + 2, none⟩ (.bool (y || d))).heap.size (w2.setCell ⟨b, i * 3 + 2, none⟩ (.bool (y || d))) w4 := by rw [← hw4]; exact (Below.refl _ _).drew
    have hLu : OwnK w4 0 59 3 (.slice (some ⟨b, 0, none⟩) S.E.length c) S.E.length (((cesC S.E).set (i * 3 + 1) (.int .u32 (a : Int))).set (i * 3 + 2) (.bool (y || d))) := (hL2.set _).up hdr
    have hkk : Kept (fun k => (Value.slice (some ⟨b, 0, none⟩) S.E.length c).ownBlock = some k) w w4 := ((hk2.mono (fun k _ e => by subst e; rfl)).and ((kept_put w2 b (i * 3 + 2) _).mono (fun k _ e => by subst e; rfl))).and (Kept.of_below hdr)
    obtain ⟨L2, hL2e⟩ : ∃ L2, setE S.E x (fun e => { e with a := a, d := e.d || d }) = L2 := ⟨_, rfl⟩
    have hset : L2 = S.E.set i { S.E[i] with a := a, d := S.E[i].d || d } := by
      rw [← hL2e, ← hb]
      exact setE_at h.wf.asc hi
    have hcs : cesC L2 = ((cesC S.E).set (i * 3 + 1) (.int .u32 (a : Int))).set (i * 3 + 2) (.bool (y || d)) := by
      have h1 := cesC_set1 hi a
      have hi2 : i < (S.E.set i { S.E[i] with a := a }).length := by simpa using hi
      have h2 := cesC_set2 hi2 (y || d)
      rw [h1] at h2
      rw [hset, ← h2, List.set_set, List.getElem_set_self, hy]
    have hb2 : L2.map CE.b = S.E.map CE.b := by rw [← hL2e]; exact setE_b x (fun _ => rfl)
    have hlen : L2.length = S.E.length := by rw [← hL2e]; exact setE_len x _
    have hC := h.entries (L := L2) hkk (by rw [hcs, hlen]; exact hLu) hb2
    have hi3 : i < L2.length := by rw [hlen]; exact hi
    have hbi : L2[i].b = S.E[i].b := by
      simp only [hset, List.getElem_set_self]
    have hh2 : ({ S with E := L2 } : CaS).has x = true := by
      unfold CaS.has
      show (atE L2 x).isSome = true
      rw [← hL2e]
      unfold setE
      rw [atE_map (fun e => by split <;> rfl), ha]
      rfl
    rw [← hlen] at hC
    obtain ⟨b2, o2, c2, hT⟩ := RcC.touT (S := { S with E := L2 }) (i := i) (x := x) (.bool true) hC hh2 hi3 (by rw [hbi]; exact hb)
    refine ⟨b2, o2, c2, ?_, hkk⟩
    have he : ({ S with E := L2 } : CaS).useS x = S.putS x a d := by
      unfold CaS.putS
      rw [if_pos hh, hL2e]
    rw [he] at hT
    rw [← hlen]
    simp only [hbi] at hT
    exact hT
  have hfz := hL.free (i * 3 + 1)
  have hfz2 : w2.frozen? ⟨b, i * 3 + 2, none⟩ = false := hL2.free (i * 3 + 2)
  obtain ⟨n, hn⟩ : ∃ n, S.E.length = n := ⟨_, rfl⟩
  have hl := h.lens.1
  rw [hn] at g0 hi hl hE g2
  obtain ⟨s, hs⟩ : ∃ s, σ S.E[i].b = s := ⟨_, rfl⟩
  rw [hs] at hE
  obtain ⟨b2, o2, c2, ⟨⟨R, hRk, hRf⟩, hTs, hTl⟩, hk0⟩ := hE
  have HE := Lib.hid hRf
  have HK := Lib.hid hRk
  have HSS := Lib.hid hTs
  have HK0 := Lib.hid hk0
  generalize S.putS x a d = S' at *
  generalize S.E[i].a = y0 at *
  rw [hn]
  have hg : ¬ ((i : Int) < 0) := by omega
  clear h hh hz hb ha hcell c0 hnc hn hL hk2 hL2 hRf hRk hTs hk0 hs hy c2'
  go_enter Tryz.func32, Tryz.ntmps32
  go_wp2_with fail
  refine HF.out.mono ?_
  rintro r w' ⟨rfl, rfl⟩
  clear HF
  go_upto_region 4 with fail
  clear hw2 g0 c1 hfz
  cases y with
  | true =>
    have hw4 : (w2.setCell ⟨b, i * 3 + 2, none⟩ (.bool true)).drew = w4 := hw4
    go_region
    try rw [hw4]
    clear hw4 d2 hfz2 g2
    go_wp2_with fail
    refine wp_region_held_drew (S := fun u => u.cell? ⟨rc, 1, none⟩ = some (.slice (some ⟨b2, o2, none⟩) n c2) ∧ u.cell? ⟨rc, 2, none⟩ = some (.pointer (some ⟨kb, 0, none⟩)) ∧ u.cell? ⟨b2, o2 + i, none⟩ = some (.int .i64 (s : Int))) (by kernel_rfl) (HSS.out _ (Kept.refl _ _).drew) (fun hHeld => ?_)
    show wpAnyH _ _ _ _ _ 12 _ _ _
    refine wpAnyH_take (i := 0) (v := ?_) rfl (by kernel_rfl) (by kernel_rfl) (by kernel_rfl) (fun _ _ _ h => h) (Or.inl ⟨by rfl, ?_⟩) hHeld ?_
    rotate_left
    · intro u hSu
      obtain ⟨x0, x1, x2⟩ := hSu
      go_simp
      try with_reducible rfl
    try simp only [Act.put, List.setIfInBounds_toArray, List.set_cons_zero, List.set_cons_succ, List.getElem_toArray, List.getElem_cons_zero, List.getElem_cons_succ]
    refine wpAnyH_take (i := 1) (v := ?_) rfl (by kernel_rfl) (by kernel_rfl) (by kernel_rfl) (fun _ _ _ h => h) (Or.inl ⟨by rfl, ?_⟩) hHeld ?_
    rotate_left
    · intro u hSu
      obtain ⟨x0, x1, x2⟩ := hSu
      go_simp
      try with_reducible rfl
    try simp only [Act.put, List.setIfInBounds_toArray, List.set_cons_zero, List.set_cons_succ, List.getElem_toArray, List.getElem_cons_zero, List.getElem_cons_succ]
    refine wpAnyH_take (i := 2) (v := ?_) rfl (by kernel_rfl) (by kernel_rfl) (by kernel_rfl) (fun _ _ _ h => h) (Or.inl ⟨by rfl, ?_⟩) hHeld ?_
    rotate_left
    · intro u hSu
      obtain ⟨x0, x1, x2⟩ := hSu
      go_simp
      try with_reducible rfl
    try simp only [Act.put, List.setIfInBounds_toArray, List.set_cons_zero, List.set_cons_succ, List.getElem_toArray, List.getElem_cons_zero, List.getElem_cons_succ]
    refine wpAnyH_take (i := 3) (v := ?_) rfl (by kernel_rfl) (by kernel_rfl) (by kernel_rfl) (fun _ _ _ h => h) (Or.inl ⟨by rfl, ?_⟩) hHeld ?_
    rotate_left
    · intro u hSu
      obtain ⟨x0, x1, x2⟩ := hSu
      go_simp
      try with_reducible rfl
    try simp only [Act.put, List.setIfInBounds_toArray, List.set_cons_zero, List.set_cons_succ, List.getElem_toArray, List.getElem_cons_zero, List.getElem_cons_succ]
    refine wpAnyH_take (i := 4) (v := ?_) rfl (by kernel_rfl) (by kernel_rfl) (by kernel_rfl) (fun _ _ _ h => h) (Or.inl ⟨by rfl, ?_⟩) hHeld ?_
    rotate_left
    · intro u hSu
      obtain ⟨x0, x1, x2⟩ := hSu
      go_simp
      try with_reducible rfl
    try simp only [Act.put, List.setIfInBounds_toArray, List.set_cons_zero, List.set_cons_succ, List.getElem_toArray, List.getElem_cons_zero, List.getElem_cons_succ]
    refine wpAnyH_take (i := 5) (v := ?_) rfl (by kernel_rfl) (by kernel_rfl) (by kernel_rfl) (fun _ _ _ h => h) (Or.inl ⟨by rfl, ?_⟩) hHeld ?_
    rotate_left
    · intro u hSu
      obtain ⟨x0, x1, x2⟩ := hSu
      go_simp
      try with_reducible rfl
    try simp only [Act.put, List.setIfInBounds_toArray, List.set_cons_zero, List.set_cons_succ, List.getElem_toArray, List.getElem_cons_zero, List.getElem_cons_succ]
    refine wpAnyH_take (i := 6) (v := ?_) rfl (by kernel_rfl) (by kernel_rfl) (by kernel_rfl) (fun _ _ _ h => h) (Or.inl ⟨by rfl, ?_⟩) hHeld ?_
    rotate_left
    · intro u hSu
      obtain ⟨x0, x1, x2⟩ := hSu
      go_simp
      try with_reducible rfl
    try simp only [Act.put, List.setIfInBounds_toArray, List.set_cons_zero, List.set_cons_succ, List.getElem_toArray, List.getElem_cons_zero, List.getElem_cons_succ]
    refine wpAnyH_take (i := 7) (v := ?_) rfl (by kernel_rfl) (by kernel_rfl) (by kernel_rfl) (fun _ _ _ h => h) (Or.inl ⟨by rfl, ?_⟩) hHeld ?_
    rotate_left
    · intro u hSu
      obtain ⟨x0, x1, x2⟩ := hSu
      go_simp
      try with_reducible rfl
    try simp only [Act.put, List.setIfInBounds_toArray, List.set_cons_zero, List.set_cons_succ, List.getElem_toArray, List.getElem_cons_zero, List.getElem_cons_succ]
    refine wpAnyH_take (i := 8) (v := ?_) rfl (by kernel_rfl) (by kernel_rfl) (by kernel_rfl) (fun _ _ _ h => h) (Or.inl ⟨by rfl, ?_⟩) hHeld ?_
    rotate_left
    · intro u hSu
      obtain ⟨x0, x1, x2⟩ := hSu
      go_simp
      try with_reducible rfl
    try simp only [Act.put, List.setIfInBounds_toArray, List.set_cons_zero, List.set_cons_succ, List.getElem_toArray, List.getElem_cons_zero, List.getElem_cons_succ]
    refine wpAnyH_take (i := 9) (v := ?_) rfl (by kernel_rfl) (by kernel_rfl) (by kernel_rfl) (fun _ _ _ h => h) (Or.inl ⟨by rfl, ?_⟩) hHeld ?_
    rotate_left
    · intro u hSu
      obtain ⟨x0, x1, x2⟩ := hSu
      go_simp
      try with_reducible rfl
    try simp only [Act.put, List.setIfInBounds_toArray, List.set_cons_zero, List.set_cons_succ, List.getElem_toArray, List.getElem_cons_zero, List.getElem_cons_succ]
    refine wpAnyH_take (i := 10) (v := ?_) rfl (by kernel_rfl) (by kernel_rfl) (by kernel_rfl) (fun _ _ _ h => h) (Or.inl ⟨by rfl, ?_⟩) hHeld ?_
    rotate_left
    · intro u hSu
      obtain ⟨x0, x1, x2⟩ := hSu
      go_simp
      try with_reducible rfl
    try simp only [Act.put, List.setIfInBounds_toArray, List.set_cons_zero, List.set_cons_succ, List.getElem_toArray, List.getElem_cons_zero, List.getElem_cons_succ]
    refine wpAnyH_ready (rs := [11]) (by kernel_rfl) (by simp) ?_
    refine (AllReadyH.cons rfl (fun K hK => ?_) AllReadyH.nil)
    go_simp
    refine (rtouch_at (s : Int) HK.out).mono ?_
    rintro r w1 h
    obtain ⟨rfl, hm, hk⟩ := h
    have HK1 := Lib.hid ((Kept.refl _ w4).drew.and hk)
    have HM1 := Lib.hid hm
    clear hm hk
    refine hK.out _ _ ?_ (fun hHeld2 => ?_)
    · exact HSS.out _ HK1.out
    clear hK K hHeld
    have hHeld := hHeld2
    clear hHeld2
    try simp only [Act.put, List.setIfInBounds_toArray, List.set_cons_zero, List.set_cons_succ, List.getElem_toArray, List.getElem_cons_zero, List.getElem_cons_succ]
    refine wpAnyH_done (by kernel_rfl) ?_ _
    have HE1 := Lib.hid ((HE.out _ HM1.out HK1.out).back HK0.out)
    clear HE HM1 HK1 HSS hHeld HK
    go_wp2_with fail
    go_ret
    exact HE1.out
  | false =>
    have hw4 : (w2.setCell ⟨b, i * 3 + 2, none⟩ (.bool d)).drew = w4 := hw4
    go_region
    try rw [hw4]
    clear hw4 d2 hfz2 g2
    go_wp2_with fail
    refine wp_region_held_drew (S := fun u => u.cell? ⟨rc, 1, none⟩ = some (.slice (some ⟨b2, o2, none⟩) n c2) ∧ u.cell? ⟨rc, 2, none⟩ = some (.pointer (some ⟨kb, 0, none⟩)) ∧ u.cell? ⟨b2, o2 + i, none⟩ = some (.int .i64 (s : Int))) (by kernel_rfl) (HSS.out _ (Kept.refl _ _).drew) (fun hHeld => ?_)
    show wpAnyH _ _ _ _ _ 12 _ _ _
    refine wpAnyH_take (i := 0) (v := ?_) rfl (by kernel_rfl) (by kernel_rfl) (by kernel_rfl) (fun _ _ _ h => h) (Or.inl ⟨by rfl, ?_⟩) hHeld ?_
    rotate_left
    · intro u hSu
      obtain ⟨x0, x1, x2⟩ := hSu
      go_simp
      try with_reducible rfl
    try simp only [Act.put, List.setIfInBounds_toArray, List.set_cons_zero, List.set_cons_succ, List.getElem_toArray, List.getElem_cons_zero, List.getElem_cons_succ]
    refine wpAnyH_take (i := 1) (v := ?_) rfl (by kernel_rfl) (by kernel_rfl) (by kernel_rfl) (fun _ _ _ h => h) (Or.inl ⟨by rfl, ?_⟩) hHeld ?_
    rotate_left
    · intro u hSu
      obtain ⟨x0, x1, x2⟩ := hSu
      go_simp
      try with_reducible rfl
    try simp only [Act.put, List.setIfInBounds_toArray, List.set_cons_zero, List.set_cons_succ, List.getElem_toArray, List.getElem_cons_zero, List.getElem_cons_succ]
    refine wpAnyH_take (i := 2) (v := ?_) rfl (by kernel_rfl) (by kernel_rfl) (by kernel_rfl) (fun _ _ _ h => h) (Or.inl ⟨by rfl, ?_⟩) hHeld ?_
    rotate_left
    · intro u hSu
      obtain ⟨x0, x1, x2⟩ := hSu
      go_simp
      try with_reducible rfl
    try simp only [Act.put, List.setIfInBounds_toArray, List.set_cons_zero, List.set_cons_succ, List.getElem_toArray, List.getElem_cons_zero, List.getElem_cons_succ]
    refine wpAnyH_take (i := 3) (v := ?_) rfl (by kernel_rfl) (by kernel_rfl) (by kernel_rfl) (fun _ _ _ h => h) (Or.inl ⟨by rfl, ?_⟩) hHeld ?_
    rotate_left
    · intro u hSu
      obtain ⟨x0, x1, x2⟩ := hSu
      go_simp
      try with_reducible rfl
    try simp only [Act.put, List.setIfInBounds_toArray, List.set_cons_zero, List.set_cons_succ, List.getElem_toArray, List.getElem_cons_zero, List.getElem_cons_succ]
    refine wpAnyH_take (i := 4) (v := ?_) rfl (by kernel_rfl) (by kernel_rfl) (by kernel_rfl) (fun _ _ _ h => h) (Or.inl ⟨by rfl, ?_⟩) hHeld ?_
    rotate_left
    · intro u hSu
      obtain ⟨x0, x1, x2⟩ := hSu
      go_simp
      try with_reducible rfl
    try simp only [Act.put, List.setIfInBounds_toArray, List.set_cons_zero, List.set_cons_succ, List.getElem_toArray, List.getElem_cons_zero, List.getElem_cons_succ]
    refine wpAnyH_take (i := 5) (v := ?_) rfl (by kernel_rfl) (by kernel_rfl) (by kernel_rfl) (fun _ _ _ h => h) (Or.inl ⟨by rfl, ?_⟩) hHeld ?_
    rotate_left
    · intro u hSu
      obtain ⟨x0, x1, x2⟩ := hSu
      go_simp
      try with_reducible rfl
    try simp only [Act.put, List.setIfInBounds_toArray, List.set_cons_zero, List.set_cons_succ, List.getElem_toArray, List.getElem_cons_zero, List.getElem_cons_succ]
    refine wpAnyH_take (i := 6) (v := ?_) rfl (by kernel_rfl) (by kernel_rfl) (by kernel_rfl) (fun _ _ _ h => h) (Or.inl ⟨by rfl, ?_⟩) hHeld ?_
    rotate_left
    · intro u hSu
      obtain ⟨x0, x1, x2⟩ := hSu
      go_simp
      try with_reducible rfl
    try simp only [Act.put, List.setIfInBounds_toArray, List.set_cons_zero, List.set_cons_succ, List.getElem_toArray, List.getElem_cons_zero, List.getElem_cons_succ]
    refine wpAnyH_take (i := 7) (v := ?_) rfl (by kernel_rfl) (by kernel_rfl) (by kernel_rfl) (fun _ _ _ h => h) (Or.inl ⟨by rfl, ?_⟩) hHeld ?_
    rotate_left
    · intro u hSu
      obtain ⟨x0, x1, x2⟩ := hSu
      go_simp
      try with_reducible rfl
    try simp only [Act.put, List.setIfInBounds_toArray, List.set_cons_zero, List.set_cons_succ, List.getElem_toArray, List.getElem_cons_zero, List.getElem_cons_succ]
    refine wpAnyH_take (i := 8) (v := ?_) rfl (by kernel_rfl) (by kernel_rfl) (by kernel_rfl) (fun _ _ _ h => h) (Or.inl ⟨by rfl, ?_⟩) hHeld ?_
    rotate_left
    · intro u hSu
      obtain ⟨x0, x1, x2⟩ := hSu
      go_simp
      try with_reducible rfl
    try simp only [Act.put, List.setIfInBounds_toArray, List.set_cons_zero, List.set_cons_succ, List.getElem_toArray, List.getElem_cons_zero, List.getElem_cons_succ]
    refine wpAnyH_take (i := 9) (v := ?_) rfl (by kernel_rfl) (by kernel_rfl) (by kernel_rfl) (fun _ _ _ h => h) (Or.inl ⟨by rfl, ?_⟩) hHeld ?_
    rotate_left
    · intro u hSu
      obtain ⟨x0, x1, x2⟩ := hSu
      go_simp
      try with_reducible rfl
    try simp only [Act.put, List.setIfInBounds_toArray, List.set_cons_zero, List.set_cons_succ, List.getElem_toArray, List.getElem_cons_zero, List.getElem_cons_succ]
    refine wpAnyH_take (i := 10) (v := ?_) rfl (by kernel_rfl) (by kernel_rfl) (by kernel_rfl) (fun _ _ _ h => h) (Or.inl ⟨by rfl, ?_⟩) hHeld ?_
    rotate_left
    · intro u hSu
      obtain ⟨x0, x1, x2⟩ := hSu
      go_simp
      try with_reducible rfl
    try simp only [Act.put, List.setIfInBounds_toArray, List.set_cons_zero, List.set_cons_succ, List.getElem_toArray, List.getElem_cons_zero, List.getElem_cons_succ]
    refine wpAnyH_ready (rs := [11]) (by kernel_rfl) (by simp) ?_
    refine (AllReadyH.cons rfl (fun K hK => ?_) AllReadyH.nil)
    go_simp
    refine (rtouch_at (s : Int) HK.out).mono ?_
    rintro r w1 h
    obtain ⟨rfl, hm, hk⟩ := h
    have HK1 := Lib.hid ((Kept.refl _ w4).drew.and hk)
    have HM1 := Lib.hid hm
    clear hm hk
    refine hK.out _ _ ?_ (fun hHeld2 => ?_)
    · exact HSS.out _ HK1.out
    clear hK K hHeld
    have hHeld := hHeld2
    clear hHeld2
    try simp only [Act.put, List.setIfInBounds_toArray, List.set_cons_zero, List.set_cons_succ, List.getElem_toArray, List.getElem_cons_zero, List.getElem_cons_succ]
    refine wpAnyH_done (by kernel_rfl) ?_ _
    have HE1 := Lib.hid ((HE.out _ HM1.out HK1.out).back HK0.out)
    clear HE HM1 HK1 HSS hHeld HK
    go_wp2_with fail
    go_ret
    exact HE1.out
end
end Go.Proofs.YtajccmkdfmpapaaGreatDoor
