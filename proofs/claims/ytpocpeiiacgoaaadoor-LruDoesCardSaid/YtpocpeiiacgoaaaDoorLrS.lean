/-
  The law's own; platelayerlaw08.LruDoes answers true.
-/
import Derived.Test.YtpocpeiiacgoaaaDoorLrR
import Derived.Test.YtpocpeiiacgoaaaDoorLrH0
import Derived.Test.YtpocpeiiacgoaaaDoorCodeA
namespace Go.Proofs.YtpocpeiiacgoaaaDoor
open Go.RowKit

section
variable {w : World} {base rb : Nat} {S : RkS}
set_option maxHeartbeats 2000000 in
theorem rown_at (d x : Int) (h : RefM w base rb S) : Calls Tryd.prog 9 #[.pointer (some ⟨rb, 0, none⟩), actV d x] w (RefTo base rb (S.doB d x) (S.doS d x) w) := by
  have hb : Below w.heap.size w (w.alloc (.cells #[.int .i64 d, .int .i64 x] 35)) := (Below.refl _ _).alloc (Nat.le_refl _) _
  have HM := Lib.hid (h.up hb)
  have HK : Hid (Kept (fun k => k = rb) w (w.alloc (.cells #[.int .i64 d, .int .i64 x] 35))) := Lib.hid (Kept.of_below hb)
  clear h hb
  by_cases h0 : d = 0
  · subst h0
    have HE : Hid (S.doB 0 x = S.insB x ∧ S.doS 0 x = S.insS x) := Lib.hid ⟨rfl, rfl⟩
    rw [HE.out.1, HE.out.2]
    go_enter Tryd.func9, Tryd.ntmps9
    go_wp2_with fail
    refine (rinsert_at x HM.out).mono ?_
    rintro r w' h
    obtain ⟨rfl, hm, hk⟩ := h
    have HR := Lib.hid (And.intro hm hk)
    clear hm hk
    go_wp2_with fail
    go_ret
    exact ⟨rfl, HR.out.1, HK.out.and HR.out.2⟩
  · have q0 : (d == 0) = false := by simpa using h0
    by_cases h1 : d = 1
    · subst h1
      have HE : Hid (S.doB 1 x = S.has x ∧ S.doS 1 x = S.touS x) := Lib.hid ⟨rfl, rfl⟩
      rw [HE.out.1, HE.out.2]
      go_enter Tryd.func9, Tryd.ntmps9
      go_wp2_with fail
      refine (rtouch_at x HM.out).mono ?_
      rintro r w' h
      obtain ⟨rfl, hm, hk⟩ := h
      have HR := Lib.hid (And.intro hm hk)
      clear hm hk
      go_wp2_with fail
      go_ret
      exact ⟨rfl, HR.out.1, HK.out.and HR.out.2⟩
    · have q1 : (d == 1) = false := by simpa using h1
      by_cases h2 : d = 2
      · subst h2
        have HE : Hid (S.doB 2 x = S.has x ∧ S.doS 2 x = S.remS x) := Lib.hid ⟨rfl, rfl⟩
        rw [HE.out.1, HE.out.2]
        go_enter Tryd.func9, Tryd.ntmps9
        go_wp2_with fail
        refine (rremove_at x HM.out).mono ?_
        rintro r w' h
        obtain ⟨rfl, hm, hk⟩ := h
        have HR := Lib.hid (And.intro hm hk)
        clear hm hk
        go_wp2_with fail
        go_ret
        exact ⟨rfl, HR.out.1, HK.out.and HR.out.2⟩
      · have q2 : (d == 2) = false := by simpa using h2
        by_cases h3 : d = 3
        · subst h3
          have HE : Hid (S.doB 3 x = S.vic.isSome ∧ S.doS 3 x = if S.vic.isSome = true then S.remS (S.vicN : Int) else S) := Lib.hid ⟨rfl, rfl⟩
          rw [HE.out.1, HE.out.2]
          cases hv : S.vic.isSome with
          | true =>
            have HV := Lib.hid (RkS.vic_has hv)
            go_enter Tryd.func9, Tryd.ntmps9
            go_wp2_with fail
            refine (rvictim_at HM.out).mono ?_
            rintro r w1 ⟨rfl, hb⟩
            have HM := Lib.hid (HM.out.up hb)
            have HK := Lib.hid (HK.out.and (Kept.of_below hb))
            clear hb
            rw [hv]
            generalize S.vicN = v at *
            go_wp2_with fail
            refine (rremove_at (v : Int) HM.out).mono ?_
            rintro r w' h
            obtain ⟨rfl, hm, hk⟩ := h
            have HR := Lib.hid (And.intro hm hk)
            clear hm hk
            rw [HV.out]
            go_wp2_with fail
            go_ret
            exact ⟨rfl, HR.out.1, HK.out.and HR.out.2⟩
          | false =>
            go_enter Tryd.func9, Tryd.ntmps9
            go_wp2_with fail
            refine (rvictim_at HM.out).mono ?_
            rintro r w1 ⟨rfl, hb⟩
            have HM := Lib.hid (HM.out.up hb)
            have HK := Lib.hid (HK.out.and (Kept.of_below hb))
            clear hb
            rw [hv]
            generalize S.vicN = v at *
            go_wp2_with fail
            go_ret
            exact ⟨rfl, HM.out, HK.out⟩
        · have q3 : (d == 3) = false := by simpa using h3
          have HE : Hid (S.doB d x = false ∧ S.doS d x = S) := Lib.hid (by
            unfold RkS.doB RkS.doS
            rw [if_neg h0, if_neg h1, if_neg h2, if_neg h3, if_neg h0, if_neg h1, if_neg h2, if_neg h3]
            exact ⟨rfl, rfl⟩)
          rw [HE.out.1, HE.out.2]
          go_enter Tryd.func9, Tryd.ntmps9
          go_wp2_with fail
          go_ret
          exact ⟨rfl, HM.out, HK.out⟩
end
/-- Both rankings, and an act, of a call's own. -/
structure DS (w0 w : World) (kb rb a : Nat) (S T : RkS) (d x : Int) : Prop where
  k : RkM w kb S
  r : RefM w rb rb T
  ac : Blk w a 35 [.int .i64 d, .int .i64 x]
  lt : w0.heap.size ≤ kb ∧ kb < rb ∧ rb < a
  old : Below w0.heap.size w0 w
structure DL (w0 w : World) (kb rb : Nat) (S : RkS) : Prop where
  k : RkM w kb S
  r : RefM w rb rb S
  lt : w0.heap.size ≤ kb ∧ kb < rb
  old : Below w0.heap.size w0 w
section
variable {w0 w : World} {kb rb a : Nat} {S T : RkS} {d x : Int}
theorem DS.up {w' : World} (h : DS w0 w kb rb a S T d x) (hb : Below w.heap.size w w') : DS w0 w' kb rb a S T d x := ⟨h.k.up hb, h.r.up hb, h.ac.up hb (lt_of_block h.ac), h.lt, below_all h.old hb⟩
theorem DS.drew (h : DS w0 w kb rb a S T d x) : DS w0 w.drew kb rb a S T d x := h.up (Below.refl _ _).drew
theorem DS.cells (h : DS w0 w kb rb a S T d x) : w.cell? ⟨a, 0, none⟩ = some (.int .i64 d) ∧ w.cell? ⟨a, 1, none⟩ = some (.int .i64 x) := ⟨h.ac.cell 0 (by simp), h.ac.cell 1 (by simp)⟩
theorem DS.do {w' : World} {S' : RkS} (h : DS w0 w kb rb a S T d x) (hm : RkM w' kb S') (hk : Kept (fun k => k = kb) w w') : DS w0 w' kb rb a S' T d x := by
  have := h.lt
  obtain ⟨⟨vT, vK, hr⟩, hw⟩ := h.r
  exact ⟨hm, ⟨⟨vT, vK, hr.keep hk (fun k e => by omega)⟩, hw⟩, hk.blk h.ac (by omega), h.lt, h.old.trans (hk.below h.old.size (fun k e => by omega))⟩
theorem DS.own {w' : World} {T' : RkS} (h : DS w0 w kb rb a S T d x) (hm : RefM w' rb rb T') (hk : Kept (fun k => k = rb) w w') : DS w0 w' kb rb a S T' d x := by
  have := h.lt
  exact ⟨h.k.keep hk (by omega), hm, hk.blk h.ac (by omega), h.lt, h.old.trans (hk.below h.old.size (fun k e => by omega))⟩
theorem DS.dl (h : DS w0 w kb rb a S S d x) : DL w0 w kb rb S := ⟨h.k, h.r, ⟨h.lt.1, h.lt.2.1⟩, h.old⟩
theorem DL.up {w' : World} (h : DL w0 w kb rb S) (hb : Below w.heap.size w w') : DL w0 w' kb rb S := ⟨h.k.up hb, h.r.up hb, h.lt, below_all h.old hb⟩
theorem RefM.lt {base : Nat} (h : RefM w base rb S) : rb < w.heap.size := by
  obtain ⟨⟨vT, vK, hr⟩, hw⟩ := h
  exact lt_of_block hr.1
end
set_option maxHeartbeats 8000000 in
set_option maxRecDepth 100000 in
theorem ldoes_true {w : World} (hg : Gl w) (n : Int) (A : Option Addr) (m c : Nat) (l : List (Int × Int)) (hl : l.length = m) (hr : RdA w A l) : Calls Tryd.prog 3 #[.int .i64 n, .slice A m c] w (BoolB true w) := by
  have HG := Lib.hid hg
  have HL := Lib.hid hl
  have HR := Lib.hid hr
  clear hl hr hg
  go_enter Tryd.func3, Tryd.ntmps3
  go_wp2_with fail
  refine (lawake_true w).mono ?_
  rintro r w1 ⟨rfl, hb⟩
  have HB1 := Lib.hid hb
  clear hb
  by_cases hmm : 200 < m
  · go_wp2_with fail
    go_ret
    exact ⟨rfl, HB1.out⟩
  go_wp2_with fail
  refine (lnew_at n w1).mono ?_
  rintro r w2 h
  obtain ⟨hb, h⟩ := h
  have HB2 := Lib.hid (below_all HB1.out hb)
  by_cases hnn : 1 ≤ n ∧ n ≤ 64
  · rw [if_pos hnn] at h
    obtain ⟨rfl, hm⟩ := h
    have HM2 := Lib.hid hm
    have hs12 := HB1.out.size
    have hlt2 := hm.lt
    obtain ⟨kb, hkb⟩ : ∃ kb, w1.heap.size = kb := ⟨_, rfl⟩
    rw [hkb] at HM2 hlt2 ⊢
    clear hb hm
    go_wp2_with fail
    refine (rnew_at n w2).mono ?_
    rintro r w3 h
    obtain ⟨hb, h⟩ := h
    rw [if_pos hnn] at h
    obtain ⟨rfl, hm⟩ := h
    have HD3 : Hid (DL w w3 kb w2.heap.size ⟨[], [], n.toNat⟩) := Lib.hid ⟨HM2.out.up hb, hm, by omega, below_all HB2.out hb⟩
    obtain ⟨rb, hrb⟩ : ∃ rb, w2.heap.size = rb := ⟨_, rfl⟩
    rw [hrb] at HD3 ⊢
    clear hb hm hrb HM2 HB2 hkb hlt2 hs12 HB1
    go_wp2_with fail
    refine (code_nil _).mono ?_
    rintro r w4 ⟨rfl, hb⟩
    have HD4 := Lib.hid (HD3.out.up hb)
    clear hb HD3
    go_wp2_with fail
    go_loopg [45] m (fun q y wr => ∃ (i : Nat) (S : RkS), i ≤ m ∧ q = m - i ∧ y = .int .i64 i ∧ DL w wr kb rb S)
    case atStart => exact ⟨0, _, by omega, by omega, rfl, HD4.out⟩
    case round =>
      clear HD4
      obtain ⟨i, S, hi, hq, rfl, hd⟩ := hrel
      have HQ := Lib.hid hq
      have HD := Lib.hid hd
      clear hq hd
      by_cases hlt : i < m
      · have hll : i < l.length := by rw [HL.out]; exact hlt
        obtain ⟨b, o, rfl, hbl, hcell⟩ := (HR.out.below HD.out.old) (by omega)
        obtain ⟨c0, c1⟩ := hcell i hll
        obtain ⟨d, hd⟩ : ∃ d, l[i].1 = d := ⟨_, rfl⟩
        obtain ⟨x, hx⟩ : ∃ x, l[i].2 = x := ⟨_, rfl⟩
        rw [hd] at c0
        rw [hx] at c1
        clear hcell hd hx
        obtain ⟨a, ha⟩ : ∃ a, wr.heap.size = a := ⟨_, rfl⟩
        obtain ⟨wa, hwa⟩ : ∃ wa, wr.alloc (.cells #[.int .i64 d, .int .i64 x] 35) = wa := ⟨_, rfl⟩
        have hup := HD.out.up (show Below wr.heap.size wr wa by rw [← hwa]; exact (Below.refl _ _).alloc (Nat.le_refl _) _)
        have HA : Hid (DS w wa kb rb a S S d x) := Lib.hid ⟨hup.k, hup.r, by rw [← hwa, ← ha]; exact heap_alloc_new wr _, by have h1 := hup.lt; have h2 := HD.out.r.lt; omega, hup.old⟩
        clear hup HD
        go_wp2_with fail
        refine wp_region_held_drew (S := fun u => u.cell? ⟨a, 0, none⟩ = some (.int .i64 d) ∧ u.cell? ⟨a, 1, none⟩ = some (.int .i64 x)) (by kernel_rfl) (HA.out.drew.cells) (fun hHeld => ?_)
        show wpAnyH _ _ _ _ _ 27 _ _ _
        refine wpAnyH_take (i := 0) (v := ?_) rfl (by kernel_rfl) (by kernel_rfl) (by kernel_rfl) (fun _ _ _ h => h) (Or.inl ⟨by rfl, ?_⟩) hHeld ?_
        rotate_left
        · intro u hSu
          obtain ⟨x0, x1⟩ := hSu
          go_simp
          try with_reducible rfl
        try simp only [Act.put, List.setIfInBounds_toArray, List.set_cons_zero, List.set_cons_succ, List.getElem_toArray, List.getElem_cons_zero, List.getElem_cons_succ]
        refine wpAnyH_take (i := 1) (v := ?_) rfl (by kernel_rfl) (by kernel_rfl) (by kernel_rfl) (fun _ _ _ h => h) (Or.inl ⟨by rfl, ?_⟩) hHeld ?_
        rotate_left
        · intro u hSu
          obtain ⟨x0, x1⟩ := hSu
          go_simp
          try with_reducible rfl
        try simp only [Act.put, List.setIfInBounds_toArray, List.set_cons_zero, List.set_cons_succ, List.getElem_toArray, List.getElem_cons_zero, List.getElem_cons_succ]
        refine wpAnyH_take (i := 3) (v := ?_) rfl (by kernel_rfl) (by kernel_rfl) (by kernel_rfl) (fun _ _ _ h => h) (Or.inl ⟨by rfl, ?_⟩) hHeld ?_
        rotate_left
        · intro u hSu
          obtain ⟨x0, x1⟩ := hSu
          go_simp
          try with_reducible rfl
        try simp only [Act.put, List.setIfInBounds_toArray, List.set_cons_zero, List.set_cons_succ, List.getElem_toArray, List.getElem_cons_zero, List.getElem_cons_succ]
        refine wpAnyH_take (i := 4) (v := ?_) rfl (by kernel_rfl) (by kernel_rfl) (by kernel_rfl) (fun _ _ _ h => h) (Or.inl ⟨by rfl, ?_⟩) hHeld ?_
        rotate_left
        · intro u hSu
          obtain ⟨x0, x1⟩ := hSu
          go_simp
          try with_reducible rfl
        try simp only [Act.put, List.setIfInBounds_toArray, List.set_cons_zero, List.set_cons_succ, List.getElem_toArray, List.getElem_cons_zero, List.getElem_cons_succ]
        refine wpAnyH_ready (rs := [2]) (by kernel_rfl) (by simp) ?_
        refine (AllReadyH.cons rfl (fun K hK => ?_) AllReadyH.nil)
        go_simp
        refine (ldo_at d x HA.out.drew.k).mono ?_
        rintro r w4 h
        obtain ⟨rfl, hm, hk⟩ := h
        have HA4 := Lib.hid (HA.out.drew.do hm hk)
        clear hm hk
        refine hK.out _ _ ?_ (fun hHeld2 => ?_)
        · exact HA4.out.cells
        clear hK K hHeld
        have hHeld := hHeld2
        clear hHeld2
        try simp only [Act.put, List.setIfInBounds_toArray, List.set_cons_zero, List.set_cons_succ, List.getElem_toArray, List.getElem_cons_zero, List.getElem_cons_succ]
        refine wpAnyH_ready (rs := [5]) (by kernel_rfl) (by simp) ?_
        refine (AllReadyH.cons rfl (fun K hK => ?_) AllReadyH.nil)
        go_simp
        refine (rown_at d x HA4.out.r).mono ?_
        rintro r w5 h
        obtain ⟨rfl, hm, hk⟩ := h
        have HA5 := Lib.hid (HA4.out.own hm hk)
        clear hm hk
        refine hK.out _ _ ?_ (fun hHeld2 => ?_)
        · exact HA5.out.cells
        clear hK K hHeld
        have hHeld := hHeld2
        clear hHeld2
        try simp only [Act.put, List.setIfInBounds_toArray, List.set_cons_zero, List.set_cons_succ, List.getElem_toArray, List.getElem_cons_zero, List.getElem_cons_succ]
        obtain ⟨bb, hbb⟩ : ∃ bb, S.doB d x = bb := ⟨_, rfl⟩
        rw [hbb]
        clear hbb HA HA4
        obtain ⟨S', hS'⟩ : ∃ S', S.doS d x = S' := ⟨_, rfl⟩
        rw [hS'] at HA5
        clear hS'
        have hl := HA5.out.r.lens
        have hrr := HA5.out.r
        obtain ⟨⟨vT, vK, hrc⟩, hwf⟩ := hrr
        obtain ⟨TA, TC, KA, KC, rfl, rfl⟩ := hrc.slices
        have HRC := Lib.hid hrc
        obtain ⟨tl, htl⟩ : ∃ tl, S'.T.length = tl := ⟨_, rfl⟩
        obtain ⟨kl, hkl⟩ : ∃ kl, S'.K.length = kl := ⟨_, rfl⟩
        have HLN : Hid (S'.T.length = tl ∧ S'.K.length = kl ∧ tl ≤ 64 ∧ kl ≤ 64) := Lib.hid ⟨htl, hkl, by omega, by omega⟩
        have HSS : Hid (∀ u, Below w5.heap.size w5 u → (u.cell? ⟨a, 0, none⟩ = some (.int .i64 d) ∧ u.cell? ⟨a, 1, none⟩ = some (.int .i64 x)) ∧ u.cell? ⟨rb, 0, none⟩ = some (.slice TA tl TC) ∧ u.cell? ⟨rb, 1, none⟩ = some (.slice KA kl KC)) := Lib.hid (fun u hu => by
          have h1 := (HRC.out.up hu).cells
          rw [htl, hkl] at h1
          exact ⟨(HA5.out.up hu).cells, h1.1, h1.2.1⟩)
        clear hrc hwf htl hkl hl
        refine wpAnyH_mono (S2 := fun u => (u.cell? ⟨a, 0, none⟩ = some (.int .i64 d) ∧ u.cell? ⟨a, 1, none⟩ = some (.int .i64 x)) ∧ u.cell? ⟨rb, 0, none⟩ = some (.slice TA tl TC) ∧ u.cell? ⟨rb, 1, none⟩ = some (.slice KA kl KC)) (fun u h => h.1) ?_
        clear hHeld
        have hHeld : (fun u => (u.cell? ⟨a, 0, none⟩ = some (.int .i64 d) ∧ u.cell? ⟨a, 1, none⟩ = some (.int .i64 x)) ∧ u.cell? ⟨rb, 0, none⟩ = some (.slice TA tl TC) ∧ u.cell? ⟨rb, 1, none⟩ = some (.slice KA kl KC)) w5 := HSS.out _ (Below.refl _ _)
        refine wpAnyH_take (i := 6) (v := ?_) rfl (by kernel_rfl) (by kernel_rfl) (by kernel_rfl) (fun _ _ _ h => h) (Or.inl ⟨by rfl, ?_⟩) hHeld ?_
        rotate_left
        · intro u hSu
          obtain ⟨⟨x0, x1⟩, t0, t1⟩ := hSu
          go_simp
          try with_reducible rfl
        try simp only [Act.put, List.setIfInBounds_toArray, List.set_cons_zero, List.set_cons_succ, List.getElem_toArray, List.getElem_cons_zero, List.getElem_cons_succ]
        refine wpAnyH_take (i := 7) (v := ?_) rfl (by kernel_rfl) (by kernel_rfl) (by kernel_rfl) (fun _ _ _ h => h) (Or.inl ⟨by rfl, ?_⟩) hHeld ?_
        rotate_left
        · intro u hSu
          obtain ⟨⟨x0, x1⟩, t0, t1⟩ := hSu
          go_simp
          try with_reducible rfl
        try simp only [Act.put, List.setIfInBounds_toArray, List.set_cons_zero, List.set_cons_succ, List.getElem_toArray, List.getElem_cons_zero, List.getElem_cons_succ]
        refine wpAnyH_take (i := 8) (v := ?_) rfl (by kernel_rfl) (by kernel_rfl) (by kernel_rfl) (fun _ _ _ h => h) (Or.inl ⟨by rfl, ?_⟩) hHeld ?_
        rotate_left
        · intro u hSu
          obtain ⟨⟨x0, x1⟩, t0, t1⟩ := hSu
          go_simp
          try with_reducible rfl
        try simp only [Act.put, List.setIfInBounds_toArray, List.set_cons_zero, List.set_cons_succ, List.getElem_toArray, List.getElem_cons_zero, List.getElem_cons_succ]
        refine wpAnyH_take (i := 10) (v := ?_) rfl (by kernel_rfl) (by kernel_rfl) (by kernel_rfl) (fun _ _ _ h => h) (Or.inl ⟨by rfl, ?_⟩) hHeld ?_
        rotate_left
        · intro u hSu
          obtain ⟨⟨x0, x1⟩, t0, t1⟩ := hSu
          go_simp
          try with_reducible rfl
        try simp only [Act.put, List.setIfInBounds_toArray, List.set_cons_zero, List.set_cons_succ, List.getElem_toArray, List.getElem_cons_zero, List.getElem_cons_succ]
        refine wpAnyH_take (i := 11) (v := ?_) rfl (by kernel_rfl) (by kernel_rfl) (by kernel_rfl) (fun _ _ _ h => h) (Or.inl ⟨by rfl, ?_⟩) hHeld ?_
        rotate_left
        · intro u hSu
          obtain ⟨⟨x0, x1⟩, t0, t1⟩ := hSu
          go_simp
          try with_reducible rfl
        try simp only [Act.put, List.setIfInBounds_toArray, List.set_cons_zero, List.set_cons_succ, List.getElem_toArray, List.getElem_cons_zero, List.getElem_cons_succ]
        refine wpAnyH_take (i := 12) (v := ?_) rfl (by kernel_rfl) (by kernel_rfl) (by kernel_rfl) (fun _ _ _ h => h) (Or.inl ⟨by rfl, ?_⟩) hHeld ?_
        rotate_left
        · intro u hSu
          obtain ⟨⟨x0, x1⟩, t0, t1⟩ := hSu
          go_simp
          try with_reducible rfl
        try simp only [Act.put, List.setIfInBounds_toArray, List.set_cons_zero, List.set_cons_succ, List.getElem_toArray, List.getElem_cons_zero, List.getElem_cons_succ]
        refine wpAnyH_take (i := 13) (v := ?_) rfl (by kernel_rfl) (by kernel_rfl) (by kernel_rfl) (fun _ _ _ h => h) (Or.inl ⟨by rfl, ?_⟩) hHeld ?_
        rotate_left
        · intro u hSu
          obtain ⟨⟨x0, x1⟩, t0, t1⟩ := hSu
          go_simp
          try with_reducible rfl
        try simp only [Act.put, List.setIfInBounds_toArray, List.set_cons_zero, List.set_cons_succ, List.getElem_toArray, List.getElem_cons_zero, List.getElem_cons_succ]
        refine wpAnyH_ready (rs := [9]) (by kernel_rfl) (by simp) ?_
        refine (AllReadyH.cons rfl (fun K hK => ?_) AllReadyH.nil)
        go_simp
        refine (ltrial_at HA5.out.k).mono ?_
        rintro r w6 ⟨A6, c6, rfl, hF, hb⟩
        rw [HLN.out.1] at hF ⊢
        have HF6 := Lib.hid hF
        have HB6 := Lib.hid hb
        clear hF hb
        refine hK.out _ _ ?_ (fun hHeld2 => ?_)
        · exact HSS.out _ HB6.out
        clear hK K hHeld
        have hHeld := hHeld2
        clear hHeld2
        try simp only [Act.put, List.setIfInBounds_toArray, List.set_cons_zero, List.set_cons_succ, List.getElem_toArray, List.getElem_cons_zero, List.getElem_cons_succ]
        refine wpAnyH_ready (rs := [14]) (by kernel_rfl) (by simp) ?_
        refine (AllReadyH.cons rfl (fun K hK => ?_) AllReadyH.nil)
        go_simp
        refine (rsame_is (n := tl) (m := tl) HF6.out.rdI.1 ((HRC.out.up HB6.out).2.1).rdI.1 (by rw [nats_len]; exact HLN.out.1) (by rw [nats_len]; exact HLN.out.1) (by have := HLN.out.2.2.1; omega)).mono ?_
        rw [show decide (nats S'.T = nats S'.T) = true by simp]
        rintro r w7 ⟨rfl, hb⟩
        have HB7 := Lib.hid (below_all HB6.out hb)
        clear hb HF6 HB6
        refine hK.out _ _ ?_ (fun hHeld2 => ?_)
        · exact HSS.out _ HB7.out
        clear hK K hHeld
        have hHeld := hHeld2
        clear hHeld2
        try simp only [Act.put, List.setIfInBounds_toArray, List.set_cons_zero, List.set_cons_succ, List.getElem_toArray, List.getElem_cons_zero, List.getElem_cons_succ]
        refine wpAnyH_take (i := 15) (v := ?_) rfl (by kernel_rfl) (by kernel_rfl) (by kernel_rfl) (fun _ _ _ h => h) (Or.inl ⟨by rfl, ?_⟩) hHeld ?_
        rotate_left
        · intro u hSu
          obtain ⟨⟨x0, x1⟩, t0, t1⟩ := hSu
          go_simp
          try with_reducible rfl
        try simp only [Act.put, List.setIfInBounds_toArray, List.set_cons_zero, List.set_cons_succ, List.getElem_toArray, List.getElem_cons_zero, List.getElem_cons_succ]
        refine wpAnyH_take (i := 16) (v := ?_) rfl (by kernel_rfl) (by kernel_rfl) (by kernel_rfl) (fun _ _ _ h => h) (Or.inl ⟨by rfl, ?_⟩) hHeld ?_
        rotate_left
        · intro u hSu
          obtain ⟨⟨x0, x1⟩, t0, t1⟩ := hSu
          go_simp
          try with_reducible rfl
        try simp only [Act.put, List.setIfInBounds_toArray, List.set_cons_zero, List.set_cons_succ, List.getElem_toArray, List.getElem_cons_zero, List.getElem_cons_succ]
        refine wpAnyH_take (i := 17) (v := ?_) rfl (by kernel_rfl) (by kernel_rfl) (by kernel_rfl) (fun _ _ _ h => h) (Or.inl ⟨by rfl, ?_⟩) hHeld ?_
        rotate_left
        · intro u hSu
          obtain ⟨⟨x0, x1⟩, t0, t1⟩ := hSu
          go_simp
          try with_reducible rfl
        try simp only [Act.put, List.setIfInBounds_toArray, List.set_cons_zero, List.set_cons_succ, List.getElem_toArray, List.getElem_cons_zero, List.getElem_cons_succ]
        refine wpAnyH_take (i := 18) (v := ?_) rfl (by kernel_rfl) (by kernel_rfl) (by kernel_rfl) (fun _ _ _ h => h) (Or.inl ⟨by rfl, ?_⟩) hHeld ?_
        rotate_left
        · intro u hSu
          obtain ⟨⟨x0, x1⟩, t0, t1⟩ := hSu
          go_simp
          try with_reducible rfl
        try simp only [Act.put, List.setIfInBounds_toArray, List.set_cons_zero, List.set_cons_succ, List.getElem_toArray, List.getElem_cons_zero, List.getElem_cons_succ]
        refine wpAnyH_take (i := 20) (v := ?_) rfl (by kernel_rfl) (by kernel_rfl) (by kernel_rfl) (fun _ _ _ h => h) (Or.inl ⟨by rfl, ?_⟩) hHeld ?_
        rotate_left
        · intro u hSu
          obtain ⟨⟨x0, x1⟩, t0, t1⟩ := hSu
          go_simp
          try with_reducible rfl
        try simp only [Act.put, List.setIfInBounds_toArray, List.set_cons_zero, List.set_cons_succ, List.getElem_toArray, List.getElem_cons_zero, List.getElem_cons_succ]
        refine wpAnyH_take (i := 21) (v := ?_) rfl (by kernel_rfl) (by kernel_rfl) (by kernel_rfl) (fun _ _ _ h => h) (Or.inl ⟨by rfl, ?_⟩) hHeld ?_
        rotate_left
        · intro u hSu
          obtain ⟨⟨x0, x1⟩, t0, t1⟩ := hSu
          go_simp
          try with_reducible rfl
        try simp only [Act.put, List.setIfInBounds_toArray, List.set_cons_zero, List.set_cons_succ, List.getElem_toArray, List.getElem_cons_zero, List.getElem_cons_succ]
        refine wpAnyH_take (i := 22) (v := ?_) rfl (by kernel_rfl) (by kernel_rfl) (by kernel_rfl) (fun _ _ _ h => h) (Or.inl ⟨by rfl, ?_⟩) hHeld ?_
        rotate_left
        · intro u hSu
          obtain ⟨⟨x0, x1⟩, t0, t1⟩ := hSu
          go_simp
          try with_reducible rfl
        try simp only [Act.put, List.setIfInBounds_toArray, List.set_cons_zero, List.set_cons_succ, List.getElem_toArray, List.getElem_cons_zero, List.getElem_cons_succ]
        refine wpAnyH_take (i := 23) (v := ?_) rfl (by kernel_rfl) (by kernel_rfl) (by kernel_rfl) (fun _ _ _ h => h) (Or.inl ⟨by rfl, ?_⟩) hHeld ?_
        rotate_left
        · intro u hSu
          obtain ⟨⟨x0, x1⟩, t0, t1⟩ := hSu
          go_simp
          try with_reducible rfl
        try simp only [Act.put, List.setIfInBounds_toArray, List.set_cons_zero, List.set_cons_succ, List.getElem_toArray, List.getElem_cons_zero, List.getElem_cons_succ]
        refine wpAnyH_ready (rs := [19]) (by kernel_rfl) (by simp) ?_
        refine (AllReadyH.cons rfl (fun K hK => ?_) AllReadyH.nil)
        go_simp
        refine (lkept_at (HA5.out.up HB7.out).k).mono ?_
        rintro r w8 ⟨A8, c8, rfl, hF, hb⟩
        rw [HLN.out.2.1] at hF ⊢
        have HF8 := Lib.hid hF
        have HB8 := Lib.hid (below_all HB7.out hb)
        clear hF hb HB7
        refine hK.out _ _ ?_ (fun hHeld2 => ?_)
        · exact HSS.out _ HB8.out
        clear hK K hHeld
        have hHeld := hHeld2
        clear hHeld2
        try simp only [Act.put, List.setIfInBounds_toArray, List.set_cons_zero, List.set_cons_succ, List.getElem_toArray, List.getElem_cons_zero, List.getElem_cons_succ]
        refine wpAnyH_ready (rs := [24]) (by kernel_rfl) (by simp) ?_
        refine (AllReadyH.cons rfl (fun K hK => ?_) AllReadyH.nil)
        go_simp
        refine (rsame_is (n := kl) (m := kl) HF8.out.rdI.1 ((HRC.out.up HB8.out).2.2.1).rdI.1 (by rw [nats_len]; exact HLN.out.2.1) (by rw [nats_len]; exact HLN.out.2.1) (by have := HLN.out.2.2.2; omega)).mono ?_
        rw [show decide (nats S'.K = nats S'.K) = true by simp]
        rintro r w9 ⟨rfl, hb⟩
        have HB9 := Lib.hid (below_all HB8.out hb)
        clear hb HF8 HB8
        refine hK.out _ _ ?_ (fun hHeld2 => ?_)
        · exact HSS.out _ HB9.out
        clear hK K hHeld
        have hHeld := hHeld2
        clear hHeld2
        try simp only [Act.put, List.setIfInBounds_toArray, List.set_cons_zero, List.set_cons_succ, List.getElem_toArray, List.getElem_cons_zero, List.getElem_cons_succ]
        refine wpAnyH_take (i := 25) (v := ?_) rfl (by kernel_rfl) (by kernel_rfl) (by kernel_rfl) (fun _ _ _ h => h) (Or.inl ⟨by rfl, ?_⟩) hHeld ?_
        rotate_left
        · intro u hSu
          obtain ⟨⟨x0, x1⟩, t0, t1⟩ := hSu
          go_simp
          try with_reducible rfl
        try simp only [Act.put, List.setIfInBounds_toArray, List.set_cons_zero, List.set_cons_succ, List.getElem_toArray, List.getElem_cons_zero, List.getElem_cons_succ]
        refine wpAnyH_take (i := 26) (v := ?_) rfl (by kernel_rfl) (by kernel_rfl) (by kernel_rfl) (fun _ _ _ h => h) (Or.inl ⟨by rfl, ?_⟩) hHeld ?_
        rotate_left
        · intro u hSu
          obtain ⟨⟨x0, x1⟩, t0, t1⟩ := hSu
          go_simp
          try with_reducible rfl
        try simp only [Act.put, List.setIfInBounds_toArray, List.set_cons_zero, List.set_cons_succ, List.getElem_toArray, List.getElem_cons_zero, List.getElem_cons_succ]
        refine wpAnyH_done (by kernel_rfl) ?_ _
        have HD9 := Lib.hid ((HA5.out.up HB9.out).dl)
        clear HSS HRC HB9 HA5 hHeld
        go_wp2_with fail
        refine (lvictim_at HD9.out.k).mono ?_
        rintro r w10 ⟨rfl, rfl⟩
        go_wp2_with fail
        refine (rvictim_at HD9.out.r).mono ?_
        rintro r w11 ⟨rfl, hb⟩
        have HD11 := Lib.hid (HD9.out.up hb)
        generalize S'.vicN = v at *
        generalize S'.vic.isSome = sm at *
        clear hb HD9
        go_wp2_with fail
        go_roundg (m - (i + 1))
        case rel => exact ⟨i + 1, S', by omega, rfl, by go_num, HD11.out⟩
        case measure => have := HQ.out; omega
      · go_wp2_with fail
        go_ret
        exact ⟨rfl, HD.out.old⟩
  · rw [if_neg hnn] at h
    obtain rfl := h
    clear hb
    go_wp2_with fail
    refine (rnew_at n w2).mono ?_
    rintro r w3 h
    obtain ⟨hb, h⟩ := h
    rw [if_neg hnn] at h
    obtain rfl := h
    have HB3 := Lib.hid (below_all HB2.out hb)
    clear hb HB2 HB1
    go_wp2_with fail
    refine (code_errno 1 (HG.out.below HB3.out)).mono ?_
    rintro r w4 ⟨rfl, hb⟩
    have HB4 := Lib.hid (below_all HB3.out hb)
    clear hb HB3
    go_wp2_with fail
    go_ret
    exact ⟨rfl, HB4.out⟩
end Go.Proofs.YtpocpeiiacgoaaaDoor
