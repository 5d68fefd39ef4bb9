/-
  The document's cache in memory: Put.
-/
import Derived.Test.YtajccmkdfmpapaaGreatDoorCaL
import Derived.Deep.CutBlock
import Derived.Deep.DeepCutAuto
namespace Go.Proofs.YtajccmkdfmpapaaGreatDoor
open Go.RowKit

section
variable {w : World} {Y : Nat → Prop} {rc kb : Nat} {vL vS : Value} {σ : Nat → Nat} {S : CaS}
theorem at_not {x : Int} (hh : S.has x = false) : ∀ e ∈ S.E, (e.b : Int) ≠ x := fun e he => CaS.has_no hh e he
set_option maxHeartbeats 8000000 in
set_option maxRecDepth 100000 in
theorem cput_not (x : Int) (a : Nat) (d : Bool) (h : RcC Y w rc kb vL vS σ S) (hh : S.has x = false) : Calls Tryz.prog 32 #[.pointer (some ⟨rc, 0, none⟩), .int .i64 x, .int .u32 (a : Int), .bool d] w (RcTo Y rc kb vL (.bool (S.putB x)) (S.putS x a d) w) := by
  have HF := Lib.hid (cfind_at x h)
  rw [fz_not hh] at HF
  have HH := Lib.hid h
  have HNO := Lib.hid hh
  obtain ⟨A, c, rfl, hnc, _, hAz⟩ := h.l.form
  have g0 := h.cells.1
  have g3 := h.cells.2.2.2
  have g2 := h.cells.2.2.1
  obtain ⟨N, hN⟩ : ∃ n, S.E.length = n := ⟨_, rfl⟩
  obtain ⟨n, hn⟩ : ∃ n, S.n = n := ⟨_, rfl⟩
  have HLN := Lib.hid hN
  have HLM := Lib.hid hn
  have hl := h.lens
  rw [hN] at g0 hl hnc
  rw [hn] at g3 hl
  obtain ⟨hl1, hl2⟩ := hl
  have HAZ := Lib.hid hAz
  have HNC := Lib.hid hnc
  have HB : Hid (S.putB x = false → ∀ w', Below w.heap.size w w' → RcTo Y rc kb (.slice A S.E.length c) (.bool (S.putB x)) (S.putS x a d) w (.returned (.bool false)) w') := Lib.hid (fun hp w' hb => by
    rw [hp, CaS.put_no hh hp]
    exact ⟨rfl, ⟨_, vS, σ, h.up hb, fun j hj => .inl hj⟩, Kept.of_below hb⟩)
  rw [hN] at HB ⊢
  by_cases h1 : x < 0
  · have HPB : Hid (S.putB x = false) := Lib.hid (by unfold CaS.putB; rw [hh]; simp; omega)
    clear h hh hN hn hAz hnc
    go_enter Tryz.func32, Tryz.ntmps32
    go_wp2_with fail
    refine HF.out.mono ?_
    rintro r w' ⟨rfl, rfl⟩
    clear HF
    have qa : decide (x < 0) = true := by simp; omega
    go_upto_region 7 with fail
    go_quiet (fail)
    go_wp2_with fail
    go_ret
    exact HB.out HPB.out _ (below_drewN (Below.refl _ _) _)
  by_cases h2 : 63 < x
  · have HPB : Hid (S.putB x = false) := Lib.hid (by unfold CaS.putB; rw [hh]; simp; omega)
    clear h hh hN hn hAz hnc
    go_enter Tryz.func32, Tryz.ntmps32
    go_wp2_with fail
    refine HF.out.mono ?_
    rintro r w' ⟨rfl, rfl⟩
    clear HF
    have qa : decide (x < 0) = false := by simp; omega
    have qb : decide (63 < x) = true := by simp; omega
    go_upto_region 7 with fail
    go_quiet (fail)
    go_wp2_with fail
    go_ret
    exact HB.out HPB.out _ (below_drewN (Below.refl _ _) _)
  by_cases h3 : n ≤ N
  · have HPB : Hid (S.putB x = false) := Lib.hid (by unfold CaS.putB; rw [hh, hN, hn]; simp; omega)
    clear h hh hN hn hAz hnc
    go_enter Tryz.func32, Tryz.ntmps32
    go_wp2_with fail
    refine HF.out.mono ?_
    rintro r w' ⟨rfl, rfl⟩
    clear HF
    have qa : decide (x < 0) = false := by simp; omega
    have qb : decide (63 < x) = false := by simp; omega
    have qc : decide ((n : Int) ≤ (N : Int)) = true := by simp; omega
    go_upto_region 7 with fail
    go_quiet (fail)
    go_wp2_with fail
    go_ret
    exact HB.out HPB.out _ (below_drewN (Below.refl _ _) _)
  clear h hh hN hn hAz hnc
  go_enter Tryz.func32, Tryz.ntmps32
  go_wp2_with fail
  refine HF.out.mono ?_
  rintro r w' ⟨rfl, rfl⟩
  clear HF
  have qa : decide (x < 0) = false := by simp; omega
  have qb : decide (63 < x) = false := by simp; omega
  have qc : decide ((n : Int) ≤ (N : Int)) = false := by simp; omega
  go_upto_region 7 with fail
  go_quiet (fail)
  obtain ⟨kx, rfl⟩ : ∃ kx : Nat, x = (kx : Int) := ⟨x.toNat, by omega⟩
  have hkx : kx < 64 := by omega
  obtain ⟨w0, hw0⟩ : ∃ u, w.drewN nq = u := ⟨_, rfl⟩
  rw [hw0]
  have hb0 : Below w.heap.size w w0 := by rw [← hw0]; exact below_drewN (Below.refl _ _) _
  have HC := Lib.hid (HH.out.up hb0)
  have HB0 := Lib.hid hb0
  have g2 := HC.out.cells.2.2.1
  clear hw0 hb0 g0 g3 h1 h2 qa qb qc HB
  go_wp2_with fail
  go_loopg [10] n (fun q y wr => ∃ i : Nat, q = n - i ∧ y = .int .i64 (i : Int) ∧ i ≤ n ∧ (∀ t, t < i → (S.rk.map σ).has (t : Int) = true) ∧ wr = w0)
  case atStart => exact ⟨0, by omega, rfl, by omega, fun t ht => by omega, rfl⟩
  case round =>
    obtain ⟨s, hq, rfl, hs, hall, rfl⟩ := hrel
    have HQ := Lib.hid hq
    have HA := Lib.hid hall
    have HIN := Lib.hid (rin_at (s : Int) HC.out.k)
    clear hq hall
    cases hhs : (S.rk.map σ).has (s : Int) with
    | true =>
      rw [hhs] at HIN
      have HA2 : Hid (s + 1 ≤ n ∧ ∀ t, t < s + 1 → (S.rk.map σ).has (t : Int) = true) := Lib.hid (by
        have hA : ∀ t, t < s + 1 → (S.rk.map σ).has (t : Int) = true := fun t ht => by
          by_cases e : t = s
          · rw [e]; exact hhs
          · exact HA.out t (by omega)
        have := CaS.free_lt HC.out.wf HC.out.inj (by rw [HLN.out, HLM.out]; omega) (i := s) (fun t ht => HA.out t ht)
        rw [HLM.out] at this
        exact ⟨by omega, hA⟩)
      clear hhs HA
      go_wp2_with fail
      refine HIN.out.mono ?_
      rintro r w' ⟨rfl, rfl⟩
      clear HIN
      go_wp2_with fail
      go_roundg (n - (s + 1))
      case rel => exact ⟨s + 1, by omega, by go_num, HA2.out.1, HA2.out.2, rfl⟩
      case measure => have := HQ.out; have := HA2.out.1; omega
    | false =>
      rw [hhs] at HIN
      have hsn := CaS.free_lt HC.out.wf HC.out.inj (by rw [HLN.out, HLM.out]; omega) (i := s) HA.out
      have HIS := Lib.hid (rinsert_at (s : Int) HC.out.k)
      have hnb : ∀ e ∈ S.E, e.b ≠ kx := fun e he e2 => at_not HNO.out e he (by rw [e2])
      have hmn := CaS.map_new HC.out.wf hnb hsn hhs
      rw [hmn] at HIS
      have HNEW : Hid (S.putS (kx : Int) a d = S.newS kx a d ∧ S.putB (kx : Int) = true) := Lib.hid (CaS.put_new HNO.out hkx (by rw [HLN.out, HLM.out]; omega))
      have HWF : Hid ((S.newS kx a d).WF) := Lib.hid (by
        have := CaS.put_wf HC.out.wf (kx : Int) a d
        rw [HNEW.out.1] at this
        exact this)
      have HINJ : Hid ((S.newS kx a d).Inj (upd σ kx s)) := Lib.hid (CaS.inj_new HC.out.wf HC.out.inj hnb hhs)
      have hsl : slotsE (upd σ kx s) S.E = slotsE σ S.E := by
        unfold slotsE
        exact List.map_congr_left fun e he => upd_ne (hnb e he)
      have HSE := Lib.hid hsl
      rw [HNEW.out.1, HNEW.out.2]
      clear hnb hmn hhs HA hsn hsl
      go_wp2_with fail
      refine HIN.out.mono ?_
      rintro r w' ⟨rfl, rfl⟩
      clear HIN
      go_wp2_with fail
      refine HIS.out.mono ?_
      rintro r w1 ⟨rfl, hm1, hk1⟩
      have HM1 := Lib.hid hm1
      have HK1 := Lib.hid hk1
      obtain ⟨A2, c2, hA2, hc2, hr2, hin, hz2⟩ := HC.out.s
      rw [slotsE_len, HLN.out] at hA2 hc2
      subst hA2
      have HBK : Hid (Blk w1 rc 46 [.slice A N c, .slice A2 N c2, .pointer (some ⟨kb, 0, none⟩), .int .i64 (S.n : Int)]) := Lib.hid (by
        have h1 := hk1.blk HC.out.b HC.out.ne
        rw [HLN.out] at h1
        exact h1)
      have HRL : Hid (RdV w1 w1.heap.size A (cesC S.E)) := Lib.hid (HC.out.l.rd.keep hk1 (fun _ b' o' x' e => (HC.out.own b' (by subst e; rfl)).2.1))
      have HRS : Hid (RdV w1 w1.heap.size A2 (iCells (nats (slotsE σ S.E)))) := Lib.hid (hr2.keep hk1 (fun hp b' o' x' e => (hin hp b' o' x' e).2.1))
      have HSS : Hid (∀ u, Below w1.heap.size w1 u → u.cell? ⟨rc, 0, none⟩ = some (.slice A N c)) := Lib.hid (fun u hu => (HBK.out.up hu (lt_of_block HBK.out)).cell 0 (by simp))
      have HFR : Hid (∀ u, Below w1.heap.size w1 u → u.frozen? ⟨rc, 0, none⟩ = false) := Lib.hid (fun u hu => (HBK.out.up hu (lt_of_block HBK.out)).free 0)
      have HINN := Lib.hid hin
      have HZ2 := Lib.hid hz2
      have HNC2 := Lib.hid hc2
      clear HIS hm1 hk1 hr2 hin g2 hz2 hc2
      have l0 := HSS.out w1 (Below.refl _ _)
      go_wp2_with fail
      go_loopg [11] N (fun q y wr => ∃ i : Nat, q = N - i ∧ y = .int .i64 (i : Int) ∧ i ≤ N ∧ (∀ j (hj : j < i) (hl : j < S.E.length), S.E[j].b < kx) ∧ w1 = wr)
      case atStart => exact ⟨0, by omega, rfl, by omega, fun t ht => by omega, rfl⟩
      case round =>
        obtain ⟨i, hq, rfl, hi, hlow, rfl⟩ := hrel
        have HQ := Lib.hid hq
        have HLOW := Lib.hid hlow
        clear hq hlow
        obtain ⟨tt, htt⟩ : ∃ tt, decide (∃ h : i < S.E.length, S.E[i].b < kx) = tt := ⟨_, rfl⟩
        have HTT := Lib.hid htt
        clear htt
        obtain ⟨b, o, e, hex⟩ : ∃ b o e : Nat, i < N → A = some ⟨b, o, none⟩ ∧ w1.cell? ⟨b, o + i * 3, none⟩ = some (.int .i64 (e : Int)) ∧ ∀ h : i < S.E.length, S.E[i].b = e := by
          by_cases hlt : i < N
          · have hll : i < S.E.length := by rw [HLN.out]; exact hlt
            obtain ⟨b, o, hA, _, hcell⟩ := HRL.out (by rw [cesC_len, HLN.out]; omega)
            exact ⟨b, o, S.E[i].b, fun _ => ⟨hA, (ces_cells hcell i hll).1, fun _ => rfl⟩⟩
          · exact ⟨0, 0, 0, fun h => absurd h hlt⟩
        go_upto_region 14 with fail
        go_cut [105] from 87 to 107 (fun s105 wx => s105 = .bool tt ∧ w1 = wx)
        case first =>
          by_cases hlt : i < N
          · have hll : i < S.E.length := by rw [HLN.out]; exact hlt
            obtain ⟨hA, c0, he⟩ := hex hlt
            have he := he hll
            rw [hA] at l0
            clear hA
            have hg : ¬ ((i : Int) < 0) := by omega
            have HNC := HNC.out
            clear hex
            by_cases hb : e < kx
            · have HT : Hid (tt = true) := Lib.hid (by rw [← HTT.out]; exact decide_eq_true ⟨hll, by rw [he]; exact hb⟩)
              have qq : decide ((e : Int) < (kx : Int)) = true := decide_eq_true (by omega)
              have HBB := Lib.hid hb
              clear hb he
              go_wp2_with fail
              go_meet
              case rel => exact ⟨by rw [HT.out, decide_eq_true HBB.out], rfl⟩
            · have HT : Hid (tt = false) := Lib.hid (by rw [← HTT.out]; exact decide_eq_false (fun ⟨_, h2⟩ => hb (by rw [he] at h2; exact h2)))
              have qq : decide ((e : Int) < (kx : Int)) = false := decide_eq_false (by omega)
              have HBB := Lib.hid hb
              clear hb he
              go_wp2_with fail
              go_meet
              case rel => exact ⟨by rw [HT.out, decide_eq_false HBB.out], rfl⟩
          · have HT : Hid (tt = false) := Lib.hid (by rw [← HTT.out]; exact decide_eq_false (fun ⟨h1, _⟩ => hlt (by rw [HLN.out] at h1; exact h1)))
            have qq : decide ((i : Int) < (N : Int)) = false := decide_eq_false (by omega)
            go_wp2_with fail
            go_meet
            case rel => exact ⟨by rw [HT.out], rfl⟩
        case rest =>
        obtain ⟨rfl, rfl⟩ := hcut
        cases tt with
        | true =>
          have hnx := of_decide_eq_true HTT.out
          have HL2 : Hid (i + 1 ≤ N ∧ ∀ j (hj : j < i + 1) (hl : j < S.E.length), S.E[j].b < kx) := Lib.hid ⟨by obtain ⟨h1, _⟩ := hnx; rw [HLN.out] at h1; omega, fun j hj hl => by
            by_cases e : j = i
            · subst e
              exact hnx.2
            · exact HLOW.out j (by omega) hl⟩
          clear hnx
          go_wp2_with fail
          go_roundg (N - (i + 1))
          case rel => exact ⟨i + 1, by omega, by go_num, HL2.out.1, HL2.out.2, rfl⟩
          case measure => have := HQ.out; have := HL2.out.1; omega
        | false =>
        have hnx := of_decide_eq_false HTT.out
        have HINS : Hid (insE S.E ⟨kx, a, d⟩ = S.E.take i ++ [⟨kx, a, d⟩] ++ S.E.drop i) := Lib.hid (by
          rw [insE_split (y := ⟨kx, a, d⟩) (i := i) (by rw [HLN.out]; exact hi) (fun j hj hl => HLOW.out j hj hl) (fun h h2 => hnx ⟨h, h2⟩)]
          simp)
        clear hnx
        obtain ⟨A3, c3, hcut1, hz1, hrd1⟩ := cut_head (w := w1) (Ts := 42) (k := 3) (n := N) (c := c) (j := i) he_ents hz_ents HRL.out HAZ.out HNC.out hi
        obtain ⟨A4, c4, hcut2, hz2, hrd2⟩ := cut_tail (w := w1) (Ts := 42) (k := 3) (n := N) (c := c) (j := i) he_ents hz_ents HRL.out HAZ.out (by rw [cesC_len, HLN.out]) (by omega) HNC.out hi
        rw [cesC_take] at hrd1
        rw [cesC_drop] at hrd2
        obtain ⟨f1, f2⟩ := hcut1
        obtain ⟨f3, f4⟩ := hcut2
        have HP : Hid ((∀ u, Below w1.heap.size w1 u → RdV u u.heap.size A3 (cesC (S.E.take i))) ∧ (cesC (S.E.take i)).length = i * 3 ∧ (A3 = none → c3 = 0) ∧ ∀ u ∈ cesC (S.E.take i), u.oneCell' = true) := Lib.hid ⟨hrd1, by rw [cesC_len, List.length_take, HLN.out, Nat.min_eq_left hi], hz1, cesC_one _⟩
        have HQ : Hid ((∀ u, Below w1.heap.size w1 u → RdV u u.heap.size A4 (cesC (S.E.drop i))) ∧ (cesC (S.E.drop i)).length = (N - i) * 3 ∧ (A4 = none → c4 = 0) ∧ ∀ u ∈ cesC (S.E.drop i), u.oneCell' = true) := Lib.hid ⟨hrd2, by rw [cesC_len, List.length_drop, HLN.out], hz2, cesC_one _⟩
        have HON : Hid (∀ u ∈ cesC [(⟨kx, a, d⟩ : CE)], u.oneCell' = true) := Lib.hid (cesC_one _)
        clear hrd1 hrd2 hz1 hz2
        go_upto_region 16 with fail
        go_cut [10, 11] (fun s10 s11 wx => s10 = .int .i64 (s : Int) ∧ s11 = .int .i64 (i : Int) ∧ ∃ w8 vL', wx = w8.setCell ⟨rc, 0, none⟩ vL' ∧ Below w1.heap.size w1 w8 ∧ OwnK w8 w1.heap.size 59 3 vL' (i + 1 + (N - i)) ((cesC (S.E.take i) ++ cesC [⟨kx, a, d⟩]) ++ cesC (S.E.drop i)))
        case first =>
          refine wp_region_parts (S := fun u => u.cell? ⟨rc, 0, none⟩ = some (.slice A N c)) 22 3 _ (by kernel_rfl) (by kernel_rfl) (by rfl) (by simp only [List.take_succ_cons, List.take_zero]; rfl) ?_ (fun hHeld => ?_)
          · exact HSS.out _ (Below.refl _ _).drew
          refine wpAnyH_take (i := 0) (v := ?_) rfl (by kernel_rfl) (by kernel_rfl) (by kernel_rfl) (fun _ _ _ h => h) (Or.inl ⟨by rfl, ?_⟩) hHeld ?_
          rotate_left
          · intro u hSu
            obtain x0 := hSu
            go_simp
            try with_reducible rfl
          try simp only [Act.put, List.setIfInBounds_toArray, List.set_cons_zero, List.set_cons_succ, List.getElem_toArray, List.getElem_cons_zero, List.getElem_cons_succ]
          refine wpAnyH_take (i := 2) (v := ?_) rfl (by kernel_rfl) (by kernel_rfl) (by kernel_rfl) (fun _ _ _ h => h) (Or.inl ⟨by rfl, ?_⟩) hHeld ?_
          rotate_left
          · intro u hSu
            obtain x0 := hSu
            go_simp
            try with_reducible rfl
          try simp only [Act.put, List.setIfInBounds_toArray, List.set_cons_zero, List.set_cons_succ, List.getElem_toArray, List.getElem_cons_zero, List.getElem_cons_succ]
          refine wpAnyH_take (i := 3) (v := ?_) rfl (by kernel_rfl) (by kernel_rfl) (by kernel_rfl) (fun _ _ _ h => h) (Or.inl ⟨by rfl, ?_⟩) hHeld ?_
          rotate_left
          · intro u hSu
            obtain x0 := hSu
            go_simp
            try with_reducible rfl
          try simp only [Act.put, List.setIfInBounds_toArray, List.set_cons_zero, List.set_cons_succ, List.getElem_toArray, List.getElem_cons_zero, List.getElem_cons_succ]
          refine wpAnyH_take (i := 4) (v := ?_) rfl (by kernel_rfl) (by kernel_rfl) (by kernel_rfl) (fun _ _ _ h => h) (Or.inl ⟨by rfl, ?_⟩) hHeld ?_
          rotate_left
          · intro u hSu
            obtain x0 := hSu
            go_simp
            try with_reducible rfl
          try simp only [Act.put, List.setIfInBounds_toArray, List.set_cons_zero, List.set_cons_succ, List.getElem_toArray, List.getElem_cons_zero, List.getElem_cons_succ]
          refine wpAnyH_take (i := 5) (v := ?_) rfl (by kernel_rfl) (by kernel_rfl) (by kernel_rfl) (fun _ _ _ h => h) (Or.inl ⟨by rfl, ?_⟩) hHeld ?_
          rotate_left
          · intro u hSu
            obtain x0 := hSu
            go_simp
            try with_reducible rfl
          try simp only [Act.put, List.setIfInBounds_toArray, List.set_cons_zero, List.set_cons_succ, List.getElem_toArray, List.getElem_cons_zero, List.getElem_cons_succ]
          refine wpAnyH_take (i := 6) (v := ?_) rfl (by kernel_rfl) (by kernel_rfl) (by kernel_rfl) (fun _ _ _ h => h) (Or.inl ⟨by rfl, ?_⟩) hHeld ?_
          rotate_left
          · intro u hSu
            obtain x0 := hSu
            go_simp
            try with_reducible rfl
          try simp only [Act.put, List.setIfInBounds_toArray, List.set_cons_zero, List.set_cons_succ, List.getElem_toArray, List.getElem_cons_zero, List.getElem_cons_succ]
          refine wpAnyH_take (i := 7) (v := ?_) rfl (by kernel_rfl) (by kernel_rfl) (by kernel_rfl) (fun _ _ _ h => h) (Or.inl ⟨by rfl, ?_⟩) hHeld ?_
          rotate_left
          · intro u hSu
            obtain x0 := hSu
            go_simp
            try with_reducible rfl
          try simp only [Act.put, List.setIfInBounds_toArray, List.set_cons_zero, List.set_cons_succ, List.getElem_toArray, List.getElem_cons_zero, List.getElem_cons_succ]
          refine wpAnyH_take (i := 9) (v := ?_) rfl (by kernel_rfl) (by kernel_rfl) (by kernel_rfl) (fun _ _ _ h => h) (Or.inl ⟨by rfl, ?_⟩) hHeld ?_
          rotate_left
          · intro u hSu
            obtain x0 := hSu
            go_simp
            try with_reducible rfl
          try simp only [Act.put, List.setIfInBounds_toArray, List.set_cons_zero, List.set_cons_succ, List.getElem_toArray, List.getElem_cons_zero, List.getElem_cons_succ]
          refine wpAnyH_take (i := 10) (v := ?_) rfl (by kernel_rfl) (by kernel_rfl) (by kernel_rfl) (fun _ _ _ h => h) (Or.inl ⟨by rfl, ?_⟩) hHeld ?_
          rotate_left
          · intro u hSu
            obtain x0 := hSu
            go_simp
            try with_reducible rfl
          try simp only [Act.put, List.setIfInBounds_toArray, List.set_cons_zero, List.set_cons_succ, List.getElem_toArray, List.getElem_cons_zero, List.getElem_cons_succ]
          refine wpAnyH_take (i := 11) (v := ?_) rfl (by kernel_rfl) (by kernel_rfl) (by kernel_rfl) (fun _ _ _ h => h) (Or.inl ⟨by rfl, ?_⟩) hHeld ?_
          rotate_left
          · intro u hSu
            obtain x0 := hSu
            go_simp
            try with_reducible rfl
          try simp only [Act.put, List.setIfInBounds_toArray, List.set_cons_zero, List.set_cons_succ, List.getElem_toArray, List.getElem_cons_zero, List.getElem_cons_succ]
          refine wpAnyH_take (i := 12) (v := ?_) rfl (by kernel_rfl) (by kernel_rfl) (by kernel_rfl) (fun _ _ _ h => h) (Or.inl ⟨by rfl, ?_⟩) hHeld ?_
          rotate_left
          · intro u hSu
            obtain x0 := hSu
            go_simp
            try with_reducible rfl
          try simp only [Act.put, List.setIfInBounds_toArray, List.set_cons_zero, List.set_cons_succ, List.getElem_toArray, List.getElem_cons_zero, List.getElem_cons_succ]
          refine wpAnyH_take (i := 15) (v := ?_) rfl (by kernel_rfl) (by kernel_rfl) (by kernel_rfl) (fun _ _ _ h => h) (Or.inl ⟨by rfl, ?_⟩) hHeld ?_
          rotate_left
          · intro u hSu
            obtain x0 := hSu
            go_simp
            try with_reducible rfl
          try simp only [Act.put, List.setIfInBounds_toArray, List.set_cons_zero, List.set_cons_succ, List.getElem_toArray, List.getElem_cons_zero, List.getElem_cons_succ]
          refine wpAnyH_take (i := 16) (v := ?_) rfl (by kernel_rfl) (by kernel_rfl) (by kernel_rfl) (fun _ _ _ h => h) (Or.inl ⟨by rfl, ?_⟩) hHeld ?_
          rotate_left
          · intro u hSu
            obtain x0 := hSu
            go_simp
            try with_reducible rfl
          try simp only [Act.put, List.setIfInBounds_toArray, List.set_cons_zero, List.set_cons_succ, List.getElem_toArray, List.getElem_cons_zero, List.getElem_cons_succ]
          refine wpAnyH_take (i := 17) (v := ?_) rfl (by kernel_rfl) (by kernel_rfl) (by kernel_rfl) (fun _ _ _ h => h) (Or.inl ⟨by rfl, ?_⟩) hHeld ?_
          rotate_left
          · intro u hSu
            obtain x0 := hSu
            go_simp
            try with_reducible rfl
          try simp only [Act.put, List.setIfInBounds_toArray, List.set_cons_zero, List.set_cons_succ, List.getElem_toArray, List.getElem_cons_zero, List.getElem_cons_succ]
          refine wpAnyH_take (i := 18) (v := ?_) rfl (by kernel_rfl) (by kernel_rfl) (by kernel_rfl) (fun _ _ _ h => h) (Or.inl ⟨by rfl, ?_⟩) hHeld ?_
          rotate_left
          · intro u hSu
            obtain x0 := hSu
            go_simp
            try with_reducible rfl
          try simp only [Act.put, List.setIfInBounds_toArray, List.set_cons_zero, List.set_cons_succ, List.getElem_toArray, List.getElem_cons_zero, List.getElem_cons_succ]
          refine wpAnyH_take (i := 19) (v := ?_) rfl (by kernel_rfl) (by kernel_rfl) (by kernel_rfl) (fun _ _ _ h => h) (Or.inl ⟨by rfl, ?_⟩) hHeld ?_
          rotate_left
          · intro u hSu
            obtain x0 := hSu
            go_simp
            try with_reducible rfl
          try simp only [Act.put, List.setIfInBounds_toArray, List.set_cons_zero, List.set_cons_succ, List.getElem_toArray, List.getElem_cons_zero, List.getElem_cons_succ]
          refine wpAnyH_take (i := 20) (v := ?_) rfl (by kernel_rfl) (by kernel_rfl) (by kernel_rfl) (fun _ _ _ h => h) (Or.inl ⟨by rfl, ?_⟩) hHeld ?_
          rotate_left
          · intro u hSu
            obtain x0 := hSu
            go_simp
            try with_reducible rfl
          try simp only [Act.put, List.setIfInBounds_toArray, List.set_cons_zero, List.set_cons_succ, List.getElem_toArray, List.getElem_cons_zero, List.getElem_cons_succ]
          obtain ⟨w6, hw6⟩ : ∃ w6, w1.drew = w6 := ⟨_, rfl⟩
          have HB6 : Hid (Below w1.heap.size w1 w6) := Lib.hid (by rw [← hw6]; exact (Below.refl _ _).drew)
          rw [hw6] at hHeld ⊢
          clear hw6
          refine wpAnyH_ready (rs := [1, 13]) (by kernel_rfl) (by simp) ?_
          refine (AllReadyH.cons rfl (fun K hK => ?_) (AllReadyH.cons rfl (fun K hK => ?_) AllReadyH.nil))
          · obtain ⟨wo, hwo⟩ : ∃ u, w6.alloc (.cells #[] 59) = u := ⟨_, rfl⟩
            have hbo : Below w6.heap.size w6 wo := by rw [← hwo]; exact (Below.refl _ _).alloc (Nat.le_refl _) _
            have HBo : Hid (Below w1.heap.size w1 wo) := Lib.hid (below_all HB6.out hbo)
            have HOo : Hid (OwnK wo w1.heap.size 59 3 (.slice (some ⟨w6.heap.size, 0, none⟩) 0 0) 0 []) := Lib.hid (by rw [← hwo]; exact OwnK.new w6 _ _ 3 0 [] HB6.out.size rfl (by omega))
            go_simp
            try rw [hwo]
            refine hK.out _ _ ?_ (fun hHeld2 => ?_)
            · exact HSS.out _ HBo.out
            clear hK K hHeld
            have hHeld := hHeld2
            clear hHeld2
            try simp only [Act.put, List.setIfInBounds_toArray, List.set_cons_zero, List.set_cons_succ, List.getElem_toArray, List.getElem_cons_zero, List.getElem_cons_succ]
            refine wpAnyH_ready (rs := [8, 13]) (by kernel_rfl) (by simp) ?_
            refine (AllReadyH.cons rfl (fun K hK => ?_) (AllReadyH.cons rfl (fun K hK => ?_) AllReadyH.nil))
            · (refine stepP wo (by rfl) (.tmp 109) (.tmp 115) 42 59 (.agg #[.int .i64 0, .int .u32 0, .bool false]) 3 16 (by rfl) Tryz.underlying42 ceInfo rfl (by decide) (by decide) w1.heap.size 0 i c3 _ [] (cesC (S.E.take i)) A3 (by rfl) HOo.out (by rfl) (HP.out.2.1) (HP.out.1 _ HBo.out) HP.out.2.2.1 (HP.out.2.2.2) (by omega) HBo.out.size ?_; intro v8 w8 ho hg; rw [Nat.zero_add, List.nil_append] at ho; have HO8 := Lib.hid ho; have HB8 := Lib.hid (below_grown HBo.out hg (fun e he => HOo.out.own e he)); clear ho hg)
              refine hK.out _ _ ?_ (fun hHeld2 => ?_)
              · exact HSS.out _ HB8.out
              clear hK K hHeld
              have hHeld := hHeld2
              clear hHeld2
              try simp only [Act.put, List.setIfInBounds_toArray, List.set_cons_zero, List.set_cons_succ, List.getElem_toArray, List.getElem_cons_zero, List.getElem_cons_succ]
              obtain ⟨wx, hwx⟩ : ∃ u, w8.alloc (.cells #[.int .i64 (kx : Int), .int .u32 (a : Int), .bool d] 59) = u := ⟨_, rfl⟩
              have hbx : Below w8.heap.size w8 wx := by rw [← hwx]; exact (Below.refl _ _).alloc (Nat.le_refl _) _
              have HBx : Hid (Below w1.heap.size w1 wx) := Lib.hid (below_all HB8.out hbx)
              have HXx : Hid (RdV wx wx.heap.size (some ⟨w8.heap.size, 0, none⟩) (cesC [⟨kx, a, d⟩])) := Lib.hid (by
                rw [← hwx]
                exact fun _ => ⟨w8.heap.size, 0, rfl, by simp, fun i hi => by rw [Nat.zero_add]; exact Blk.cell (T := 59) (cs := [.int .i64 (kx : Int), .int .u32 (a : Int), .bool d]) (heap_alloc_new w8 _) i hi⟩)
              have HO8x := Lib.hid (HO8.out.up hbx)
              clear hbx
              refine wpAnyH_ready (rs := [13]) (by kernel_rfl) (by simp) ?_
              refine (AllReadyH.cons rfl (fun K hK => ?_) AllReadyH.nil)
              go_simp
              try rw [hwx]
              refine hK.out _ _ ?_ (fun hHeld2 => ?_)
              · exact HSS.out _ HBx.out
              clear hK K hHeld
              have hHeld := hHeld2
              clear hHeld2
              try simp only [Act.put, List.setIfInBounds_toArray, List.set_cons_zero, List.set_cons_succ, List.getElem_toArray, List.getElem_cons_zero, List.getElem_cons_succ]
              refine wpAnyH_ready (rs := [14]) (by kernel_rfl) (by simp) ?_
              refine (AllReadyH.cons rfl (fun K hK => ?_) AllReadyH.nil)
              (refine stepP wx (by rfl) (.tmp 116) (.tmp 121) 42 59 (.agg #[.int .i64 0, .int .u32 0, .bool false]) 3 16 (by rfl) Tryz.underlying42 ceInfo rfl (by decide) (by decide) w1.heap.size i 1 1 v8 (cesC (S.E.take i)) (cesC [⟨kx, a, d⟩]) (some ⟨w8.heap.size, 0, none⟩) (by rfl) HO8x.out (by rfl) (by rfl) HXx.out (fun e => (by cases e)) HON.out (by omega) HBx.out.size ?_; intro v9 w9 ho hg; have HO9 := Lib.hid ho; have HB9 := Lib.hid (below_grown HBx.out hg (fun e he => HO8x.out.own e he)); clear ho hg)
              refine hK.out _ _ ?_ (fun hHeld2 => ?_)
              · exact HSS.out _ HB9.out
              clear hK K hHeld
              have hHeld := hHeld2
              clear hHeld2
              try simp only [Act.put, List.setIfInBounds_toArray, List.set_cons_zero, List.set_cons_succ, List.getElem_toArray, List.getElem_cons_zero, List.getElem_cons_succ]
              refine wpAnyH_ready (rs := [21]) (by kernel_rfl) (by simp) ?_
              refine (AllReadyH.cons rfl (fun K hK => ?_) AllReadyH.nil)
              (refine stepP w9 (by rfl) (.tmp 122) (.tmp 128) 42 59 (.agg #[.int .i64 0, .int .u32 0, .bool false]) 3 16 (by rfl) Tryz.underlying42 ceInfo rfl (by decide) (by decide) w1.heap.size (i + 1) (N - i) c4 v9 ((cesC (S.E.take i)) ++ (cesC [⟨kx, a, d⟩])) (cesC (S.E.drop i)) A4 (by rfl) HO9.out (by rfl) (HQ.out.2.1) (HQ.out.1 _ HB9.out) HQ.out.2.2.1 (HQ.out.2.2.2) (by omega) HB9.out.size ?_; intro vT wT ho hg; have HOT := Lib.hid ho; have HBT := Lib.hid (below_grown HB9.out hg (fun e he => HO9.out.own e he)); clear ho hg)
              refine hK.out _ _ ?_ (fun hHeld2 => ?_)
              · exact HSS.out _ HBT.out
              clear hK K hHeld
              have hHeld := hHeld2
              clear hHeld2
              try simp only [Act.put, List.setIfInBounds_toArray, List.set_cons_zero, List.set_cons_succ, List.getElem_toArray, List.getElem_cons_zero, List.getElem_cons_succ]
              refine wpAnyH_done (by kernel_rfl) ?_ _
              show wpAny _ _ _ _ 3 _ _ _
              clear hHeld
              refine wpAny_take (i := 22) (v := ?_) rfl (by kernel_rfl) (by kernel_rfl) (by kernel_rfl) (fun _ _ _ h => h) (Or.inl ⟨by rfl, ?_⟩) ?_
              rotate_left
              · intro u
                go_simp
                try with_reducible rfl
              try simp only [Act.put, List.setIfInBounds_toArray, List.set_cons_zero, List.set_cons_succ, List.getElem_toArray, List.getElem_cons_zero, List.getElem_cons_succ]
              refine wpAny_take (i := 23) (v := ?_) rfl (by kernel_rfl) (by kernel_rfl) (by kernel_rfl) (fun _ _ _ h => h) (Or.inl ⟨by rfl, ?_⟩) ?_
              rotate_left
              · intro u
                go_simp
                try with_reducible rfl
              try simp only [Act.put, List.setIfInBounds_toArray, List.set_cons_zero, List.set_cons_succ, List.getElem_toArray, List.getElem_cons_zero, List.getElem_cons_succ]
              obtain ⟨AT, cT, rfl, _, _, _⟩ := HOT.out.form
              have g0 := HSS.out _ HBT.out
              have g1 := HFR.out _ HBT.out
              refine wpAny_ready (rs := [24]) (by kernel_rfl) (by simp) ?_
              refine AllReady.cons rfl (fun K hK => ?_) AllReady.nil
              go_simp
              refine hK _ _ ?_
              clear hK K
              refine wpAny_done (by kernel_rfl) ?_ _
              go_wp2_with fail
              go_meet
              case rel => exact ⟨rfl, rfl, wT, _, rfl, HBT.out, HOT.out⟩
            · obtain ⟨wx, hwx⟩ : ∃ u, wo.alloc (.cells #[.int .i64 (kx : Int), .int .u32 (a : Int), .bool d] 59) = u := ⟨_, rfl⟩
              have hbx : Below wo.heap.size wo wx := by rw [← hwx]; exact (Below.refl _ _).alloc (Nat.le_refl _) _
              have HBx : Hid (Below w1.heap.size w1 wx) := Lib.hid (below_all HBo.out hbx)
              have HXx : Hid (RdV wx wx.heap.size (some ⟨wo.heap.size, 0, none⟩) (cesC [⟨kx, a, d⟩])) := Lib.hid (by
                rw [← hwx]
                exact fun _ => ⟨wo.heap.size, 0, rfl, by simp, fun i hi => by rw [Nat.zero_add]; exact Blk.cell (T := 59) (cs := [.int .i64 (kx : Int), .int .u32 (a : Int), .bool d]) (heap_alloc_new wo _) i hi⟩)
              have HOx := Lib.hid (HOo.out.up hbx)
              clear hbx
              go_simp
              try rw [hwx]
              refine hK.out _ _ ?_ (fun hHeld2 => ?_)
              · exact HSS.out _ HBx.out
              clear hK K hHeld
              have hHeld := hHeld2
              clear hHeld2
              try simp only [Act.put, List.setIfInBounds_toArray, List.set_cons_zero, List.set_cons_succ, List.getElem_toArray, List.getElem_cons_zero, List.getElem_cons_succ]
              refine wpAnyH_ready (rs := [8]) (by kernel_rfl) (by simp) ?_
              refine (AllReadyH.cons rfl (fun K hK => ?_) AllReadyH.nil)
              (refine stepP wx (by rfl) (.tmp 109) (.tmp 115) 42 59 (.agg #[.int .i64 0, .int .u32 0, .bool false]) 3 16 (by rfl) Tryz.underlying42 ceInfo rfl (by decide) (by decide) w1.heap.size 0 i c3 _ [] (cesC (S.E.take i)) A3 (by rfl) HOx.out (by rfl) (HP.out.2.1) (HP.out.1 _ HBx.out) HP.out.2.2.1 (HP.out.2.2.2) (by omega) HBx.out.size ?_; intro v8 w8 ho hg; rw [Nat.zero_add, List.nil_append] at ho; have HO8 := Lib.hid ho; have HB8 := Lib.hid (below_grown HBx.out hg (fun e he => HOx.out.own e he)); have HX8 : Hid (RdV w8 w8.heap.size (some ⟨wo.heap.size, 0, none⟩) (cesC [⟨kx, a, d⟩])) := Lib.hid (HXx.out.keep (F := fun k => k = w6.heap.size) ((Kept.refl _ wx).grown hg (fun k e => .inl (Option.some.inj e).symm)) (fun _ b' o' x' e => by have e := Option.some.inj e; injection e with e1; have h5 : wo.heap.size = w6.heap.size + 1 := (by rw [← hwo]; simp); show ¬ (b' = _); omega)); clear ho hg)
              refine hK.out _ _ ?_ (fun hHeld2 => ?_)
              · exact HSS.out _ HB8.out
              clear hK K hHeld
              have hHeld := hHeld2
              clear hHeld2
              try simp only [Act.put, List.setIfInBounds_toArray, List.set_cons_zero, List.set_cons_succ, List.getElem_toArray, List.getElem_cons_zero, List.getElem_cons_succ]
              refine wpAnyH_ready (rs := [14]) (by kernel_rfl) (by simp) ?_
              refine (AllReadyH.cons rfl (fun K hK => ?_) AllReadyH.nil)
              (refine stepP w8 (by rfl) (.tmp 116) (.tmp 121) 42 59 (.agg #[.int .i64 0, .int .u32 0, .bool false]) 3 16 (by rfl) Tryz.underlying42 ceInfo rfl (by decide) (by decide) w1.heap.size i 1 1 v8 (cesC (S.E.take i)) (cesC [⟨kx, a, d⟩]) (some ⟨wo.heap.size, 0, none⟩) (by rfl) HO8.out (by rfl) (by rfl) HX8.out (fun e => (by cases e)) HON.out (by omega) HB8.out.size ?_; intro v9 w9 ho hg; have HO9 := Lib.hid ho; have HB9 := Lib.hid (below_grown HB8.out hg (fun e he => HO8.out.own e he)); clear ho hg)
              refine hK.out _ _ ?_ (fun hHeld2 => ?_)
              · exact HSS.out _ HB9.out
              clear hK K hHeld
              have hHeld := hHeld2
              clear hHeld2
              try simp only [Act.put, List.setIfInBounds_toArray, List.set_cons_zero, List.set_cons_succ, List.getElem_toArray, List.getElem_cons_zero, List.getElem_cons_succ]
              refine wpAnyH_ready (rs := [21]) (by kernel_rfl) (by simp) ?_
              refine (AllReadyH.cons rfl (fun K hK => ?_) AllReadyH.nil)
              (refine stepP w9 (by rfl) (.tmp 122) (.tmp 128) 42 59 (.agg #[.int .i64 0, .int .u32 0, .bool false]) 3 16 (by rfl) Tryz.underlying42 ceInfo rfl (by decide) (by decide) w1.heap.size (i + 1) (N - i) c4 v9 ((cesC (S.E.take i)) ++ (cesC [⟨kx, a, d⟩])) (cesC (S.E.drop i)) A4 (by rfl) HO9.out (by rfl) (HQ.out.2.1) (HQ.out.1 _ HB9.out) HQ.out.2.2.1 (HQ.out.2.2.2) (by omega) HB9.out.size ?_; intro vT wT ho hg; have HOT := Lib.hid ho; have HBT := Lib.hid (below_grown HB9.out hg (fun e he => HO9.out.own e he)); clear ho hg)
              refine hK.out _ _ ?_ (fun hHeld2 => ?_)
              · exact HSS.out _ HBT.out
              clear hK K hHeld
              have hHeld := hHeld2
              clear hHeld2
              try simp only [Act.put, List.setIfInBounds_toArray, List.set_cons_zero, List.set_cons_succ, List.getElem_toArray, List.getElem_cons_zero, List.getElem_cons_succ]
              refine wpAnyH_done (by kernel_rfl) ?_ _
              show wpAny _ _ _ _ 3 _ _ _
              clear hHeld
              refine wpAny_take (i := 22) (v := ?_) rfl (by kernel_rfl) (by kernel_rfl) (by kernel_rfl) (fun _ _ _ h => h) (Or.inl ⟨by rfl, ?_⟩) ?_
              rotate_left
              · intro u
                go_simp
                try with_reducible rfl
              try simp only [Act.put, List.setIfInBounds_toArray, List.set_cons_zero, List.set_cons_succ, List.getElem_toArray, List.getElem_cons_zero, List.getElem_cons_succ]
              refine wpAny_take (i := 23) (v := ?_) rfl (by kernel_rfl) (by kernel_rfl) (by kernel_rfl) (fun _ _ _ h => h) (Or.inl ⟨by rfl, ?_⟩) ?_
              rotate_left
              · intro u
                go_simp
                try with_reducible rfl
              try simp only [Act.put, List.setIfInBounds_toArray, List.set_cons_zero, List.set_cons_succ, List.getElem_toArray, List.getElem_cons_zero, List.getElem_cons_succ]
              obtain ⟨AT, cT, rfl, _, _, _⟩ := HOT.out.form
              have g0 := HSS.out _ HBT.out
              have g1 := HFR.out _ HBT.out
              refine wpAny_ready (rs := [24]) (by kernel_rfl) (by simp) ?_
              refine AllReady.cons rfl (fun K hK => ?_) AllReady.nil
              go_simp
              refine hK _ _ ?_
              clear hK K
              refine wpAny_done (by kernel_rfl) ?_ _
              go_wp2_with fail
              go_meet
              case rel => exact ⟨rfl, rfl, wT, _, rfl, HBT.out, HOT.out⟩
          · obtain ⟨wx, hwx⟩ : ∃ u, w6.alloc (.cells #[.int .i64 (kx : Int), .int .u32 (a : Int), .bool d] 59) = u := ⟨_, rfl⟩
            have hbx : Below w6.heap.size w6 wx := by rw [← hwx]; exact (Below.refl _ _).alloc (Nat.le_refl _) _
            have HBx : Hid (Below w1.heap.size w1 wx) := Lib.hid (below_all HB6.out hbx)
            have HXx : Hid (RdV wx wx.heap.size (some ⟨w6.heap.size, 0, none⟩) (cesC [⟨kx, a, d⟩])) := Lib.hid (by
              rw [← hwx]
              exact fun _ => ⟨w6.heap.size, 0, rfl, by simp, fun i hi => by rw [Nat.zero_add]; exact Blk.cell (T := 59) (cs := [.int .i64 (kx : Int), .int .u32 (a : Int), .bool d]) (heap_alloc_new w6 _) i hi⟩)
            go_simp
            try rw [hwx]
            refine hK.out _ _ ?_ (fun hHeld2 => ?_)
            · exact HSS.out _ HBx.out
            clear hK K hHeld
            have hHeld := hHeld2
            clear hHeld2
            try simp only [Act.put, List.setIfInBounds_toArray, List.set_cons_zero, List.set_cons_succ, List.getElem_toArray, List.getElem_cons_zero, List.getElem_cons_succ]
            obtain ⟨wo, hwo⟩ : ∃ u, wx.alloc (.cells #[] 59) = u := ⟨_, rfl⟩
            have hbo : Below wx.heap.size wx wo := by rw [← hwo]; exact (Below.refl _ _).alloc (Nat.le_refl _) _
            have HBo : Hid (Below w1.heap.size w1 wo) := Lib.hid (below_all HBx.out hbo)
            have HOo : Hid (OwnK wo w1.heap.size 59 3 (.slice (some ⟨wx.heap.size, 0, none⟩) 0 0) 0 []) := Lib.hid (by rw [← hwo]; exact OwnK.new wx _ _ 3 0 [] HBx.out.size rfl (by omega))
            have HXo := Lib.hid (HXx.out.up hbo)
            refine wpAnyH_ready (rs := [1]) (by kernel_rfl) (by simp) ?_
            refine (AllReadyH.cons rfl (fun K hK => ?_) AllReadyH.nil)
            go_simp
            try rw [hwo]
            refine hK.out _ _ ?_ (fun hHeld2 => ?_)
            · exact HSS.out _ HBo.out
            clear hK K hHeld
            have hHeld := hHeld2
            clear hHeld2
            try simp only [Act.put, List.setIfInBounds_toArray, List.set_cons_zero, List.set_cons_succ, List.getElem_toArray, List.getElem_cons_zero, List.getElem_cons_succ]
            refine wpAnyH_ready (rs := [8]) (by kernel_rfl) (by simp) ?_
            refine (AllReadyH.cons rfl (fun K hK => ?_) AllReadyH.nil)
            (refine stepP wo (by rfl) (.tmp 109) (.tmp 115) 42 59 (.agg #[.int .i64 0, .int .u32 0, .bool false]) 3 16 (by rfl) Tryz.underlying42 ceInfo rfl (by decide) (by decide) w1.heap.size 0 i c3 _ [] (cesC (S.E.take i)) A3 (by rfl) HOo.out (by rfl) (HP.out.2.1) (HP.out.1 _ HBo.out) HP.out.2.2.1 (HP.out.2.2.2) (by omega) HBo.out.size ?_; intro v8 w8 ho hg; rw [Nat.zero_add, List.nil_append] at ho; have HO8 := Lib.hid ho; have HB8 := Lib.hid (below_grown HBo.out hg (fun e he => HOo.out.own e he)); have HX8 : Hid (RdV w8 w8.heap.size (some ⟨w6.heap.size, 0, none⟩) (cesC [⟨kx, a, d⟩])) := Lib.hid (HXo.out.keep (F := fun k => k = wx.heap.size) ((Kept.refl _ wo).grown hg (fun k e => .inl (Option.some.inj e).symm)) (fun _ b' o' x' e => by have e := Option.some.inj e; injection e with e1; have h5 : wx.heap.size = w6.heap.size + 1 := (by rw [← hwx]; simp); show ¬ (b' = _); omega)); clear ho hg)
            refine hK.out _ _ ?_ (fun hHeld2 => ?_)
            · exact HSS.out _ HB8.out
            clear hK K hHeld
            have hHeld := hHeld2
            clear hHeld2
            try simp only [Act.put, List.setIfInBounds_toArray, List.set_cons_zero, List.set_cons_succ, List.getElem_toArray, List.getElem_cons_zero, List.getElem_cons_succ]
            refine wpAnyH_ready (rs := [14]) (by kernel_rfl) (by simp) ?_
            refine (AllReadyH.cons rfl (fun K hK => ?_) AllReadyH.nil)
            (refine stepP w8 (by rfl) (.tmp 116) (.tmp 121) 42 59 (.agg #[.int .i64 0, .int .u32 0, .bool false]) 3 16 (by rfl) Tryz.underlying42 ceInfo rfl (by decide) (by decide) w1.heap.size i 1 1 v8 (cesC (S.E.take i)) (cesC [⟨kx, a, d⟩]) (some ⟨w6.heap.size, 0, none⟩) (by rfl) HO8.out (by rfl) (by rfl) HX8.out (fun e => (by cases e)) HON.out (by omega) HB8.out.size ?_; intro v9 w9 ho hg; have HO9 := Lib.hid ho; have HB9 := Lib.hid (below_grown HB8.out hg (fun e he => HO8.out.own e he)); clear ho hg)
            refine hK.out _ _ ?_ (fun hHeld2 => ?_)
            · exact HSS.out _ HB9.out
            clear hK K hHeld
            have hHeld := hHeld2
            clear hHeld2
            try simp only [Act.put, List.setIfInBounds_toArray, List.set_cons_zero, List.set_cons_succ, List.getElem_toArray, List.getElem_cons_zero, List.getElem_cons_succ]
            refine wpAnyH_ready (rs := [21]) (by kernel_rfl) (by simp) ?_
            refine (AllReadyH.cons rfl (fun K hK => ?_) AllReadyH.nil)
            (refine stepP w9 (by rfl) (.tmp 122) (.tmp 128) 42 59 (.agg #[.int .i64 0, .int .u32 0, .bool false]) 3 16 (by rfl) Tryz.underlying42 ceInfo rfl (by decide) (by decide) w1.heap.size (i + 1) (N - i) c4 v9 ((cesC (S.E.take i)) ++ (cesC [⟨kx, a, d⟩])) (cesC (S.E.drop i)) A4 (by rfl) HO9.out (by rfl) (HQ.out.2.1) (HQ.out.1 _ HB9.out) HQ.out.2.2.1 (HQ.out.2.2.2) (by omega) HB9.out.size ?_; intro vT wT ho hg; have HOT := Lib.hid ho; have HBT := Lib.hid (below_grown HB9.out hg (fun e he => HO9.out.own e he)); clear ho hg)
            refine hK.out _ _ ?_ (fun hHeld2 => ?_)
            · exact HSS.out _ HBT.out
            clear hK K hHeld
            have hHeld := hHeld2
            clear hHeld2
            try simp only [Act.put, List.setIfInBounds_toArray, List.set_cons_zero, List.set_cons_succ, List.getElem_toArray, List.getElem_cons_zero, List.getElem_cons_succ]
            refine wpAnyH_done (by kernel_rfl) ?_ _
            show wpAny _ _ _ _ 3 _ _ _
            clear hHeld
            refine wpAny_take (i := 22) (v := ?_) rfl (by kernel_rfl) (by kernel_rfl) (by kernel_rfl) (fun _ _ _ h => h) (Or.inl ⟨by rfl, ?_⟩) ?_
            rotate_left
            · intro u
              go_simp
              try with_reducible rfl
            try simp only [Act.put, List.setIfInBounds_toArray, List.set_cons_zero, List.set_cons_succ, List.getElem_toArray, List.getElem_cons_zero, List.getElem_cons_succ]
            refine wpAny_take (i := 23) (v := ?_) rfl (by kernel_rfl) (by kernel_rfl) (by kernel_rfl) (fun _ _ _ h => h) (Or.inl ⟨by rfl, ?_⟩) ?_
            rotate_left
            · intro u
              go_simp
              try with_reducible rfl
            try simp only [Act.put, List.setIfInBounds_toArray, List.set_cons_zero, List.set_cons_succ, List.getElem_toArray, List.getElem_cons_zero, List.getElem_cons_succ]
            obtain ⟨AT, cT, rfl, _, _, _⟩ := HOT.out.form
            have g0 := HSS.out _ HBT.out
            have g1 := HFR.out _ HBT.out
            refine wpAny_ready (rs := [24]) (by kernel_rfl) (by simp) ?_
            refine AllReady.cons rfl (fun K hK => ?_) AllReady.nil
            go_simp
            refine hK _ _ ?_
            clear hK K
            refine wpAny_done (by kernel_rfl) ?_ _
            go_wp2_with fail
            go_meet
            case rel => exact ⟨rfl, rfl, wT, _, rfl, HBT.out, HOT.out⟩
        case rest =>
        obtain ⟨rfl, rfl, w8, vL', hwA, hb8, ho8⟩ := hcut
        obtain ⟨wA, hwc⟩ : ∃ u, u = wc := ⟨_, rfl⟩
        subst hwc
        have HWA := Lib.hid hwA
        have HB8 := Lib.hid hb8
        have HO8 := Lib.hid ho8
        have hkA : Kept (fun k => k = rc) w1 wA := by rw [hwA]; exact (Kept.of_below hb8).and (kept_put w8 rc 0 _)
        have HRA : Hid (RdV wA wA.heap.size A2 (iCells (nats (slotsE σ S.E)))) := Lib.hid (HRS.out.keep hkA (fun hp b' o' x' e => (HINN.out hp b' o' x' e).1))
        have hbA : Blk wA rc 46 [vL', .slice A2 N c2, .pointer (some ⟨kb, 0, none⟩), .int .i64 (S.n : Int)] := by
          rw [hwA]
          exact (HBK.out.up hb8 (lt_of_block HBK.out)).put 0 _
        have HBA := Lib.hid hbA
        clear HSS HFR HP HQ HON f1 f2 f3 f4 hwA hb8 ho8 hkA hbA
        have HSS : Hid (∀ u, Below wA.heap.size wA u → u.cell? ⟨rc, 1, none⟩ = some (.slice A2 N c2)) := Lib.hid (fun u hu => (HBA.out.up hu (lt_of_block HBA.out)).cell 1 (by simp))
        have HFR : Hid (∀ u, Below wA.heap.size wA u → u.frozen? ⟨rc, 1, none⟩ = false) := Lib.hid (fun u hu => (HBA.out.up hu (lt_of_block HBA.out)).free 1)
        obtain ⟨A3, c3, hcut1, hz1, hrd1⟩ := cut_head (w := wA) (Ts := 43) (k := 1) (n := N) (c := c2) (j := i) he_ints hz_ints HRA.out HZ2.out HNC2.out hi
        obtain ⟨A4, c4, hcut2, hz2, hrd2⟩ := cut_tail (w := wA) (Ts := 43) (k := 1) (n := N) (c := c2) (j := i) he_ints hz_ints HRA.out HZ2.out (by rw [slotsE_len, HLN.out, Nat.mul_one]) (by omega) HNC2.out hi
        rw [Nat.mul_one, slotsE_take] at hrd1
        rw [Nat.mul_one, slotsE_drop] at hrd2
        obtain ⟨f1, f2⟩ := hcut1
        obtain ⟨f3, f4⟩ := hcut2
        have HP : Hid ((∀ u, Below wA.heap.size wA u → RdV u u.heap.size A3 (iCells (nats (slotsE σ (S.E.take i))))) ∧ (iCells (nats (slotsE σ (S.E.take i)))).length = i * 1 ∧ (A3 = none → c3 = 0) ∧ ∀ u ∈ iCells (nats (slotsE σ (S.E.take i))), u.oneCell' = true) := Lib.hid ⟨hrd1, by rw [slotsE_len, List.length_take, HLN.out, Nat.min_eq_left hi, Nat.mul_one], hz1, iCells_one⟩
        have HQ : Hid ((∀ u, Below wA.heap.size wA u → RdV u u.heap.size A4 (iCells (nats (slotsE σ (S.E.drop i))))) ∧ (iCells (nats (slotsE σ (S.E.drop i)))).length = (N - i) * 1 ∧ (A4 = none → c4 = 0) ∧ ∀ u ∈ iCells (nats (slotsE σ (S.E.drop i))), u.oneCell' = true) := Lib.hid ⟨hrd2, by rw [slotsE_len, List.length_drop, HLN.out, Nat.mul_one], hz2, iCells_one⟩
        have HON : Hid (∀ u ∈ [Value.int .i64 (s : Int)], u.oneCell' = true) := Lib.hid (by simp [Value.oneCell'])
        clear hrd1 hrd2 hz1 hz2
        go_upto_region 17 with fail
        go_cut [10, 11] (fun s10 s11 wx => s10 = .int .i64 (s : Int) ∧ s11 = .int .i64 (i : Int) ∧ ∃ w12 vS', wx = w12.setCell ⟨rc, 1, none⟩ vS' ∧ Below wA.heap.size wA w12 ∧ OwnK w12 wA.heap.size 3 1 vS' (i + 1 + (N - i)) ((iCells (nats (slotsE σ (S.E.take i))) ++ [.int .i64 (s : Int)]) ++ iCells (nats (slotsE σ (S.E.drop i)))))
        case first =>
          refine wp_region_parts (S := fun u => u.cell? ⟨rc, 1, none⟩ = some (.slice A2 N c2)) 19 3 _ (by kernel_rfl) (by kernel_rfl) (by rfl) (by simp only [List.take_succ_cons, List.take_zero]; rfl) ?_ (fun hHeld => ?_)
          · exact HSS.out _ (Below.refl _ _).drew
          refine wpAnyH_take (i := 0) (v := ?_) rfl (by kernel_rfl) (by kernel_rfl) (by kernel_rfl) (fun _ _ _ h => h) (Or.inl ⟨by rfl, ?_⟩) hHeld ?_
          rotate_left
          · intro u hSu
            obtain x0 := hSu
            go_simp
            try with_reducible rfl
          try simp only [Act.put, List.setIfInBounds_toArray, List.set_cons_zero, List.set_cons_succ, List.getElem_toArray, List.getElem_cons_zero, List.getElem_cons_succ]
          refine wpAnyH_take (i := 2) (v := ?_) rfl (by kernel_rfl) (by kernel_rfl) (by kernel_rfl) (fun _ _ _ h => h) (Or.inl ⟨by rfl, ?_⟩) hHeld ?_
          rotate_left
          · intro u hSu
            obtain x0 := hSu
            go_simp
            try with_reducible rfl
          try simp only [Act.put, List.setIfInBounds_toArray, List.set_cons_zero, List.set_cons_succ, List.getElem_toArray, List.getElem_cons_zero, List.getElem_cons_succ]
          refine wpAnyH_take (i := 3) (v := ?_) rfl (by kernel_rfl) (by kernel_rfl) (by kernel_rfl) (fun _ _ _ h => h) (Or.inl ⟨by rfl, ?_⟩) hHeld ?_
          rotate_left
          · intro u hSu
            obtain x0 := hSu
            go_simp
            try with_reducible rfl
          try simp only [Act.put, List.setIfInBounds_toArray, List.set_cons_zero, List.set_cons_succ, List.getElem_toArray, List.getElem_cons_zero, List.getElem_cons_succ]
          refine wpAnyH_take (i := 4) (v := ?_) rfl (by kernel_rfl) (by kernel_rfl) (by kernel_rfl) (fun _ _ _ h => h) (Or.inl ⟨by rfl, ?_⟩) hHeld ?_
          rotate_left
          · intro u hSu
            obtain x0 := hSu
            go_simp
            try with_reducible rfl
          try simp only [Act.put, List.setIfInBounds_toArray, List.set_cons_zero, List.set_cons_succ, List.getElem_toArray, List.getElem_cons_zero, List.getElem_cons_succ]
          refine wpAnyH_take (i := 5) (v := ?_) rfl (by kernel_rfl) (by kernel_rfl) (by kernel_rfl) (fun _ _ _ h => h) (Or.inl ⟨by rfl, ?_⟩) hHeld ?_
          rotate_left
          · intro u hSu
            obtain x0 := hSu
            go_simp
            try with_reducible rfl
          try simp only [Act.put, List.setIfInBounds_toArray, List.set_cons_zero, List.set_cons_succ, List.getElem_toArray, List.getElem_cons_zero, List.getElem_cons_succ]
          refine wpAnyH_take (i := 6) (v := ?_) rfl (by kernel_rfl) (by kernel_rfl) (by kernel_rfl) (fun _ _ _ h => h) (Or.inl ⟨by rfl, ?_⟩) hHeld ?_
          rotate_left
          · intro u hSu
            obtain x0 := hSu
            go_simp
            try with_reducible rfl
          try simp only [Act.put, List.setIfInBounds_toArray, List.set_cons_zero, List.set_cons_succ, List.getElem_toArray, List.getElem_cons_zero, List.getElem_cons_succ]
          refine wpAnyH_take (i := 7) (v := ?_) rfl (by kernel_rfl) (by kernel_rfl) (by kernel_rfl) (fun _ _ _ h => h) (Or.inl ⟨by rfl, ?_⟩) hHeld ?_
          rotate_left
          · intro u hSu
            obtain x0 := hSu
            go_simp
            try with_reducible rfl
          try simp only [Act.put, List.setIfInBounds_toArray, List.set_cons_zero, List.set_cons_succ, List.getElem_toArray, List.getElem_cons_zero, List.getElem_cons_succ]
          refine wpAnyH_take (i := 9) (v := ?_) rfl (by kernel_rfl) (by kernel_rfl) (by kernel_rfl) (fun _ _ _ h => h) (Or.inl ⟨by rfl, ?_⟩) hHeld ?_
          rotate_left
          · intro u hSu
            obtain x0 := hSu
            go_simp
            try with_reducible rfl
          try simp only [Act.put, List.setIfInBounds_toArray, List.set_cons_zero, List.set_cons_succ, List.getElem_toArray, List.getElem_cons_zero, List.getElem_cons_succ]
          refine wpAnyH_take (i := 12) (v := ?_) rfl (by kernel_rfl) (by kernel_rfl) (by kernel_rfl) (fun _ _ _ h => h) (Or.inl ⟨by rfl, ?_⟩) hHeld ?_
          rotate_left
          · intro u hSu
            obtain x0 := hSu
            go_simp
            try with_reducible rfl
          try simp only [Act.put, List.setIfInBounds_toArray, List.set_cons_zero, List.set_cons_succ, List.getElem_toArray, List.getElem_cons_zero, List.getElem_cons_succ]
          refine wpAnyH_take (i := 13) (v := ?_) rfl (by kernel_rfl) (by kernel_rfl) (by kernel_rfl) (fun _ _ _ h => h) (Or.inl ⟨by rfl, ?_⟩) hHeld ?_
          rotate_left
          · intro u hSu
            obtain x0 := hSu
            go_simp
            try with_reducible rfl
          try simp only [Act.put, List.setIfInBounds_toArray, List.set_cons_zero, List.set_cons_succ, List.getElem_toArray, List.getElem_cons_zero, List.getElem_cons_succ]
          refine wpAnyH_take (i := 14) (v := ?_) rfl (by kernel_rfl) (by kernel_rfl) (by kernel_rfl) (fun _ _ _ h => h) (Or.inl ⟨by rfl, ?_⟩) hHeld ?_
          rotate_left
          · intro u hSu
            obtain x0 := hSu
            go_simp
            try with_reducible rfl
          try simp only [Act.put, List.setIfInBounds_toArray, List.set_cons_zero, List.set_cons_succ, List.getElem_toArray, List.getElem_cons_zero, List.getElem_cons_succ]
          refine wpAnyH_take (i := 15) (v := ?_) rfl (by kernel_rfl) (by kernel_rfl) (by kernel_rfl) (fun _ _ _ h => h) (Or.inl ⟨by rfl, ?_⟩) hHeld ?_
          rotate_left
          · intro u hSu
            obtain x0 := hSu
            go_simp
            try with_reducible rfl
          try simp only [Act.put, List.setIfInBounds_toArray, List.set_cons_zero, List.set_cons_succ, List.getElem_toArray, List.getElem_cons_zero, List.getElem_cons_succ]
          refine wpAnyH_take (i := 16) (v := ?_) rfl (by kernel_rfl) (by kernel_rfl) (by kernel_rfl) (fun _ _ _ h => h) (Or.inl ⟨by rfl, ?_⟩) hHeld ?_
          rotate_left
          · intro u hSu
            obtain x0 := hSu
            go_simp
            try with_reducible rfl
          try simp only [Act.put, List.setIfInBounds_toArray, List.set_cons_zero, List.set_cons_succ, List.getElem_toArray, List.getElem_cons_zero, List.getElem_cons_succ]
          refine wpAnyH_take (i := 17) (v := ?_) rfl (by kernel_rfl) (by kernel_rfl) (by kernel_rfl) (fun _ _ _ h => h) (Or.inl ⟨by rfl, ?_⟩) hHeld ?_
          rotate_left
          · intro u hSu
            obtain x0 := hSu
            go_simp
            try with_reducible rfl
          try simp only [Act.put, List.setIfInBounds_toArray, List.set_cons_zero, List.set_cons_succ, List.getElem_toArray, List.getElem_cons_zero, List.getElem_cons_succ]
          obtain ⟨w6, hw6⟩ : ∃ w6, wA.drew = w6 := ⟨_, rfl⟩
          have HB6 : Hid (Below wA.heap.size wA w6) := Lib.hid (by rw [← hw6]; exact (Below.refl _ _).drew)
          rw [hw6] at hHeld ⊢
          clear hw6
          refine wpAnyH_ready (rs := [1, 10]) (by kernel_rfl) (by simp) ?_
          refine (AllReadyH.cons rfl (fun K hK => ?_) (AllReadyH.cons rfl (fun K hK => ?_) AllReadyH.nil))
          · obtain ⟨wo, hwo⟩ : ∃ u, w6.alloc (.cells #[] 3) = u := ⟨_, rfl⟩
            have hbo : Below w6.heap.size w6 wo := by rw [← hwo]; exact (Below.refl _ _).alloc (Nat.le_refl _) _
            have HBo : Hid (Below wA.heap.size wA wo) := Lib.hid (below_all HB6.out hbo)
            have HOo : Hid (OwnK wo wA.heap.size 3 1 (.slice (some ⟨w6.heap.size, 0, none⟩) 0 0) 0 []) := Lib.hid (by rw [← hwo]; exact OwnK.new w6 _ _ 1 0 [] HB6.out.size rfl (by omega))
            go_simp
            try rw [hwo]
            refine hK.out _ _ ?_ (fun hHeld2 => ?_)
            · exact HSS.out _ HBo.out
            clear hK K hHeld
            have hHeld := hHeld2
            clear hHeld2
            try simp only [Act.put, List.setIfInBounds_toArray, List.set_cons_zero, List.set_cons_succ, List.getElem_toArray, List.getElem_cons_zero, List.getElem_cons_succ]
            refine wpAnyH_ready (rs := [8, 10]) (by kernel_rfl) (by simp) ?_
            refine (AllReadyH.cons rfl (fun K hK => ?_) (AllReadyH.cons rfl (fun K hK => ?_) AllReadyH.nil))
            · (refine stepP wo (by rfl) (.tmp 133) (.tmp 139) 43 3 (.int .i64 0) 1 8 (by rfl) Tryz.underlying43 intInfo rfl (by decide) (by decide) wA.heap.size 0 i c3 _ [] (iCells (nats (slotsE σ (S.E.take i)))) A3 (by rfl) HOo.out (by rfl) (HP.out.2.1) (HP.out.1 _ HBo.out) HP.out.2.2.1 (HP.out.2.2.2) (by omega) HBo.out.size ?_; intro v8 w8 ho hg; rw [Nat.zero_add, List.nil_append] at ho; have HO8 := Lib.hid ho; have HB8 := Lib.hid (below_grown HBo.out hg (fun e he => HOo.out.own e he)); clear ho hg)
              refine hK.out _ _ ?_ (fun hHeld2 => ?_)
              · exact HSS.out _ HB8.out
              clear hK K hHeld
              have hHeld := hHeld2
              clear hHeld2
              try simp only [Act.put, List.setIfInBounds_toArray, List.set_cons_zero, List.set_cons_succ, List.getElem_toArray, List.getElem_cons_zero, List.getElem_cons_succ]
              obtain ⟨wx, hwx⟩ : ∃ u, w8.alloc (.cells #[.int .i64 (s : Int)] 3) = u := ⟨_, rfl⟩
              have hbx : Below w8.heap.size w8 wx := by rw [← hwx]; exact (Below.refl _ _).alloc (Nat.le_refl _) _
              have HBx : Hid (Below wA.heap.size wA wx) := Lib.hid (below_all HB8.out hbx)
              have HXx : Hid (RdV wx wx.heap.size (some ⟨w8.heap.size, 0, none⟩) ([.int .i64 (s : Int)])) := Lib.hid (by
                rw [← hwx]
                exact fun _ => ⟨w8.heap.size, 0, rfl, by simp, fun i hi => by rw [Nat.zero_add]; exact Blk.cell (T := 3) (cs := [.int .i64 (s : Int)]) (heap_alloc_new w8 _) i hi⟩)
              have HO8x := Lib.hid (HO8.out.up hbx)
              clear hbx
              refine wpAnyH_ready (rs := [10]) (by kernel_rfl) (by simp) ?_
              refine (AllReadyH.cons rfl (fun K hK => ?_) AllReadyH.nil)
              go_simp
              try rw [hwx]
              refine hK.out _ _ ?_ (fun hHeld2 => ?_)
              · exact HSS.out _ HBx.out
              clear hK K hHeld
              have hHeld := hHeld2
              clear hHeld2
              try simp only [Act.put, List.setIfInBounds_toArray, List.set_cons_zero, List.set_cons_succ, List.getElem_toArray, List.getElem_cons_zero, List.getElem_cons_succ]
              refine wpAnyH_ready (rs := [11]) (by kernel_rfl) (by simp) ?_
              refine (AllReadyH.cons rfl (fun K hK => ?_) AllReadyH.nil)
              (refine stepP wx (by rfl) (.tmp 140) (.tmp 142) 43 3 (.int .i64 0) 1 8 (by rfl) Tryz.underlying43 intInfo rfl (by decide) (by decide) wA.heap.size i 1 1 v8 (iCells (nats (slotsE σ (S.E.take i)))) ([.int .i64 (s : Int)]) (some ⟨w8.heap.size, 0, none⟩) (by rfl) HO8x.out (by rfl) (by rfl) HXx.out (fun e => (by cases e)) HON.out (by omega) HBx.out.size ?_; intro v9 w9 ho hg; have HO9 := Lib.hid ho; have HB9 := Lib.hid (below_grown HBx.out hg (fun e he => HO8x.out.own e he)); clear ho hg)
              refine hK.out _ _ ?_ (fun hHeld2 => ?_)
              · exact HSS.out _ HB9.out
              clear hK K hHeld
              have hHeld := hHeld2
              clear hHeld2
              try simp only [Act.put, List.setIfInBounds_toArray, List.set_cons_zero, List.set_cons_succ, List.getElem_toArray, List.getElem_cons_zero, List.getElem_cons_succ]
              refine wpAnyH_ready (rs := [18]) (by kernel_rfl) (by simp) ?_
              refine (AllReadyH.cons rfl (fun K hK => ?_) AllReadyH.nil)
              (refine stepP w9 (by rfl) (.tmp 143) (.tmp 149) 43 3 (.int .i64 0) 1 8 (by rfl) Tryz.underlying43 intInfo rfl (by decide) (by decide) wA.heap.size (i + 1) (N - i) c4 v9 ((iCells (nats (slotsE σ (S.E.take i)))) ++ ([.int .i64 (s : Int)])) (iCells (nats (slotsE σ (S.E.drop i)))) A4 (by rfl) HO9.out (by rfl) (HQ.out.2.1) (HQ.out.1 _ HB9.out) HQ.out.2.2.1 (HQ.out.2.2.2) (by omega) HB9.out.size ?_; intro vT wT ho hg; have HOT := Lib.hid ho; have HBT := Lib.hid (below_grown HB9.out hg (fun e he => HO9.out.own e he)); clear ho hg)
              refine hK.out _ _ ?_ (fun hHeld2 => ?_)
              · exact HSS.out _ HBT.out
              clear hK K hHeld
              have hHeld := hHeld2
              clear hHeld2
              try simp only [Act.put, List.setIfInBounds_toArray, List.set_cons_zero, List.set_cons_succ, List.getElem_toArray, List.getElem_cons_zero, List.getElem_cons_succ]
              refine wpAnyH_done (by kernel_rfl) ?_ _
              show wpAny _ _ _ _ 3 _ _ _
              clear hHeld
              refine wpAny_take (i := 19) (v := ?_) rfl (by kernel_rfl) (by kernel_rfl) (by kernel_rfl) (fun _ _ _ h => h) (Or.inl ⟨by rfl, ?_⟩) ?_
              rotate_left
              · intro u
                go_simp
                try with_reducible rfl
              try simp only [Act.put, List.setIfInBounds_toArray, List.set_cons_zero, List.set_cons_succ, List.getElem_toArray, List.getElem_cons_zero, List.getElem_cons_succ]
              refine wpAny_take (i := 20) (v := ?_) rfl (by kernel_rfl) (by kernel_rfl) (by kernel_rfl) (fun _ _ _ h => h) (Or.inl ⟨by rfl, ?_⟩) ?_
              rotate_left
              · intro u
                go_simp
                try with_reducible rfl
              try simp only [Act.put, List.setIfInBounds_toArray, List.set_cons_zero, List.set_cons_succ, List.getElem_toArray, List.getElem_cons_zero, List.getElem_cons_succ]
              obtain ⟨AT, cT, rfl, _, _, _⟩ := HOT.out.form
              have g0 := HSS.out _ HBT.out
              have g1 := HFR.out _ HBT.out
              refine wpAny_ready (rs := [21]) (by kernel_rfl) (by simp) ?_
              refine AllReady.cons rfl (fun K hK => ?_) AllReady.nil
              go_simp
              refine hK _ _ ?_
              clear hK K
              refine wpAny_done (by kernel_rfl) ?_ _
              go_wp2_with fail
              go_meet
              case rel => exact ⟨rfl, rfl, wT, _, rfl, HBT.out, HOT.out⟩
            · obtain ⟨wx, hwx⟩ : ∃ u, wo.alloc (.cells #[.int .i64 (s : Int)] 3) = u := ⟨_, rfl⟩
              have hbx : Below wo.heap.size wo wx := by rw [← hwx]; exact (Below.refl _ _).alloc (Nat.le_refl _) _
              have HBx : Hid (Below wA.heap.size wA wx) := Lib.hid (below_all HBo.out hbx)
              have HXx : Hid (RdV wx wx.heap.size (some ⟨wo.heap.size, 0, none⟩) ([.int .i64 (s : Int)])) := Lib.hid (by
                rw [← hwx]
                exact fun _ => ⟨wo.heap.size, 0, rfl, by simp, fun i hi => by rw [Nat.zero_add]; exact Blk.cell (T := 3) (cs := [.int .i64 (s : Int)]) (heap_alloc_new wo _) i hi⟩)
              have HOx := Lib.hid (HOo.out.up hbx)
              clear hbx
              go_simp
              try rw [hwx]
              refine hK.out _ _ ?_ (fun hHeld2 => ?_)
              · exact HSS.out _ HBx.out
              clear hK K hHeld
              have hHeld := hHeld2
              clear hHeld2
              try simp only [Act.put, List.setIfInBounds_toArray, List.set_cons_zero, List.set_cons_succ, List.getElem_toArray, List.getElem_cons_zero, List.getElem_cons_succ]
              refine wpAnyH_ready (rs := [8]) (by kernel_rfl) (by simp) ?_
              refine (AllReadyH.cons rfl (fun K hK => ?_) AllReadyH.nil)
              (refine stepP wx (by rfl) (.tmp 133) (.tmp 139) 43 3 (.int .i64 0) 1 8 (by rfl) Tryz.underlying43 intInfo rfl (by decide) (by decide) wA.heap.size 0 i c3 _ [] (iCells (nats (slotsE σ (S.E.take i)))) A3 (by rfl) HOx.out (by rfl) (HP.out.2.1) (HP.out.1 _ HBx.out) HP.out.2.2.1 (HP.out.2.2.2) (by omega) HBx.out.size ?_; intro v8 w8 ho hg; rw [Nat.zero_add, List.nil_append] at ho; have HO8 := Lib.hid ho; have HB8 := Lib.hid (below_grown HBx.out hg (fun e he => HOx.out.own e he)); have HX8 : Hid (RdV w8 w8.heap.size (some ⟨wo.heap.size, 0, none⟩) ([.int .i64 (s : Int)])) := Lib.hid (HXx.out.keep (F := fun k => k = w6.heap.size) ((Kept.refl _ wx).grown hg (fun k e => .inl (Option.some.inj e).symm)) (fun _ b' o' x' e => by have e := Option.some.inj e; injection e with e1; have h5 : wo.heap.size = w6.heap.size + 1 := (by rw [← hwo]; simp); show ¬ (b' = _); omega)); clear ho hg)
              refine hK.out _ _ ?_ (fun hHeld2 => ?_)
              · exact HSS.out _ HB8.out
              clear hK K hHeld
              have hHeld := hHeld2
              clear hHeld2
              try simp only [Act.put, List.setIfInBounds_toArray, List.set_cons_zero, List.set_cons_succ, List.getElem_toArray, List.getElem_cons_zero, List.getElem_cons_succ]
              refine wpAnyH_ready (rs := [11]) (by kernel_rfl) (by simp) ?_
              refine (AllReadyH.cons rfl (fun K hK => ?_) AllReadyH.nil)
              (refine stepP w8 (by rfl) (.tmp 140) (.tmp 142) 43 3 (.int .i64 0) 1 8 (by rfl) Tryz.underlying43 intInfo rfl (by decide) (by decide) wA.heap.size i 1 1 v8 (iCells (nats (slotsE σ (S.E.take i)))) ([.int .i64 (s : Int)]) (some ⟨wo.heap.size, 0, none⟩) (by rfl) HO8.out (by rfl) (by rfl) HX8.out (fun e => (by cases e)) HON.out (by omega) HB8.out.size ?_; intro v9 w9 ho hg; have HO9 := Lib.hid ho; have HB9 := Lib.hid (below_grown HB8.out hg (fun e he => HO8.out.own e he)); clear ho hg)
              refine hK.out _ _ ?_ (fun hHeld2 => ?_)
              · exact HSS.out _ HB9.out
              clear hK K hHeld
              have hHeld := hHeld2
              clear hHeld2
              try simp only [Act.put, List.setIfInBounds_toArray, List.set_cons_zero, List.set_cons_succ, List.getElem_toArray, List.getElem_cons_zero, List.getElem_cons_succ]
              refine wpAnyH_ready (rs := [18]) (by kernel_rfl) (by simp) ?_
              refine (AllReadyH.cons rfl (fun K hK => ?_) AllReadyH.nil)
              (refine stepP w9 (by rfl) (.tmp 143) (.tmp 149) 43 3 (.int .i64 0) 1 8 (by rfl) Tryz.underlying43 intInfo rfl (by decide) (by decide) wA.heap.size (i + 1) (N - i) c4 v9 ((iCells (nats (slotsE σ (S.E.take i)))) ++ ([.int .i64 (s : Int)])) (iCells (nats (slotsE σ (S.E.drop i)))) A4 (by rfl) HO9.out (by rfl) (HQ.out.2.1) (HQ.out.1 _ HB9.out) HQ.out.2.2.1 (HQ.out.2.2.2) (by omega) HB9.out.size ?_; intro vT wT ho hg; have HOT := Lib.hid ho; have HBT := Lib.hid (below_grown HB9.out hg (fun e he => HO9.out.own e he)); clear ho hg)
              refine hK.out _ _ ?_ (fun hHeld2 => ?_)
              · exact HSS.out _ HBT.out
              clear hK K hHeld
              have hHeld := hHeld2
              clear hHeld2
              try simp only [Act.put, List.setIfInBounds_toArray, List.set_cons_zero, List.set_cons_succ, List.getElem_toArray, List.getElem_cons_zero, List.getElem_cons_succ]
              refine wpAnyH_done (by kernel_rfl) ?_ _
              show wpAny _ _ _ _ 3 _ _ _
              clear hHeld
              refine wpAny_take (i := 19) (v := ?_) rfl (by kernel_rfl) (by kernel_rfl) (by kernel_rfl) (fun _ _ _ h => h) (Or.inl ⟨by rfl, ?_⟩) ?_
              rotate_left
              · intro u
                go_simp
                try with_reducible rfl
              try simp only [Act.put, List.setIfInBounds_toArray, List.set_cons_zero, List.set_cons_succ, List.getElem_toArray, List.getElem_cons_zero, List.getElem_cons_succ]
              refine wpAny_take (i := 20) (v := ?_) rfl (by kernel_rfl) (by kernel_rfl) (by kernel_rfl) (fun _ _ _ h => h) (Or.inl ⟨by rfl, ?_⟩) ?_
              rotate_left
              · intro u
                go_simp
                try with_reducible rfl
              try simp only [Act.put, List.setIfInBounds_toArray, List.set_cons_zero, List.set_cons_succ, List.getElem_toArray, List.getElem_cons_zero, List.getElem_cons_succ]
              obtain ⟨AT, cT, rfl, _, _, _⟩ := HOT.out.form
              have g0 := HSS.out _ HBT.out
              have g1 := HFR.out _ HBT.out
              refine wpAny_ready (rs := [21]) (by kernel_rfl) (by simp) ?_
              refine AllReady.cons rfl (fun K hK => ?_) AllReady.nil
              go_simp
              refine hK _ _ ?_
              clear hK K
              refine wpAny_done (by kernel_rfl) ?_ _
              go_wp2_with fail
              go_meet
              case rel => exact ⟨rfl, rfl, wT, _, rfl, HBT.out, HOT.out⟩
          · obtain ⟨wx, hwx⟩ : ∃ u, w6.alloc (.cells #[.int .i64 (s : Int)] 3) = u := ⟨_, rfl⟩
            have hbx : Below w6.heap.size w6 wx := by rw [← hwx]; exact (Below.refl _ _).alloc (Nat.le_refl _) _
            have HBx : Hid (Below wA.heap.size wA wx) := Lib.hid (below_all HB6.out hbx)
            have HXx : Hid (RdV wx wx.heap.size (some ⟨w6.heap.size, 0, none⟩) ([.int .i64 (s : Int)])) := Lib.hid (by
              rw [← hwx]
              exact fun _ => ⟨w6.heap.size, 0, rfl, by simp, fun i hi => by rw [Nat.zero_add]; exact Blk.cell (T := 3) (cs := [.int .i64 (s : Int)]) (heap_alloc_new w6 _) i hi⟩)
            go_simp
            try rw [hwx]
            refine hK.out _ _ ?_ (fun hHeld2 => ?_)
            · exact HSS.out _ HBx.out
            clear hK K hHeld
            have hHeld := hHeld2
            clear hHeld2
            try simp only [Act.put, List.setIfInBounds_toArray, List.set_cons_zero, List.set_cons_succ, List.getElem_toArray, List.getElem_cons_zero, List.getElem_cons_succ]
            obtain ⟨wo, hwo⟩ : ∃ u, wx.alloc (.cells #[] 3) = u := ⟨_, rfl⟩
            have hbo : Below wx.heap.size wx wo := by rw [← hwo]; exact (Below.refl _ _).alloc (Nat.le_refl _) _
            have HBo : Hid (Below wA.heap.size wA wo) := Lib.hid (below_all HBx.out hbo)
            have HOo : Hid (OwnK wo wA.heap.size 3 1 (.slice (some ⟨wx.heap.size, 0, none⟩) 0 0) 0 []) := Lib.hid (by rw [← hwo]; exact OwnK.new wx _ _ 1 0 [] HBx.out.size rfl (by omega))
            have HXo := Lib.hid (HXx.out.up hbo)
            refine wpAnyH_ready (rs := [1]) (by kernel_rfl) (by simp) ?_
            refine (AllReadyH.cons rfl (fun K hK => ?_) AllReadyH.nil)
            go_simp
            try rw [hwo]
            refine hK.out _ _ ?_ (fun hHeld2 => ?_)
            · exact HSS.out _ HBo.out
            clear hK K hHeld
            have hHeld := hHeld2
            clear hHeld2
            try simp only [Act.put, List.setIfInBounds_toArray, List.set_cons_zero, List.set_cons_succ, List.getElem_toArray, List.getElem_cons_zero, List.getElem_cons_succ]
            refine wpAnyH_ready (rs := [8]) (by kernel_rfl) (by simp) ?_
            refine (AllReadyH.cons rfl (fun K hK => ?_) AllReadyH.nil)
            (refine stepP wo (by rfl) (.tmp 133) (.tmp 139) 43 3 (.int .i64 0) 1 8 (by rfl) Tryz.underlying43 intInfo rfl (by decide) (by decide) wA.heap.size 0 i c3 _ [] (iCells (nats (slotsE σ (S.E.take i)))) A3 (by rfl) HOo.out (by rfl) (HP.out.2.1) (HP.out.1 _ HBo.out) HP.out.2.2.1 (HP.out.2.2.2) (by omega) HBo.out.size ?_; intro v8 w8 ho hg; rw [Nat.zero_add, List.nil_append] at ho; have HO8 := Lib.hid ho; have HB8 := Lib.hid (below_grown HBo.out hg (fun e he => HOo.out.own e he)); have HX8 : Hid (RdV w8 w8.heap.size (some ⟨w6.heap.size, 0, none⟩) ([.int .i64 (s : Int)])) := Lib.hid (HXo.out.keep (F := fun k => k = wx.heap.size) ((Kept.refl _ wo).grown hg (fun k e => .inl (Option.some.inj e).symm)) (fun _ b' o' x' e => by have e := Option.some.inj e; injection e with e1; have h5 : wx.heap.size = w6.heap.size + 1 := (by rw [← hwx]; simp); show ¬ (b' = _); omega)); clear ho hg)
            refine hK.out _ _ ?_ (fun hHeld2 => ?_)
            · exact HSS.out _ HB8.out
            clear hK K hHeld
            have hHeld := hHeld2
            clear hHeld2
            try simp only [Act.put, List.setIfInBounds_toArray, List.set_cons_zero, List.set_cons_succ, List.getElem_toArray, List.getElem_cons_zero, List.getElem_cons_succ]
            refine wpAnyH_ready (rs := [11]) (by kernel_rfl) (by simp) ?_
            refine (AllReadyH.cons rfl (fun K hK => ?_) AllReadyH.nil)
            (refine stepP w8 (by rfl) (.tmp 140) (.tmp 142) 43 3 (.int .i64 0) 1 8 (by rfl) Tryz.underlying43 intInfo rfl (by decide) (by decide) wA.heap.size i 1 1 v8 (iCells (nats (slotsE σ (S.E.take i)))) ([.int .i64 (s : Int)]) (some ⟨w6.heap.size, 0, none⟩) (by rfl) HO8.out (by rfl) (by rfl) HX8.out (fun e => (by cases e)) HON.out (by omega) HB8.out.size ?_; intro v9 w9 ho hg; have HO9 := Lib.hid ho; have HB9 := Lib.hid (below_grown HB8.out hg (fun e he => HO8.out.own e he)); clear ho hg)
            refine hK.out _ _ ?_ (fun hHeld2 => ?_)
            · exact HSS.out _ HB9.out
            clear hK K hHeld
            have hHeld := hHeld2
            clear hHeld2
            try simp only [Act.put, List.setIfInBounds_toArray, List.set_cons_zero, List.set_cons_succ, List.getElem_toArray, List.getElem_cons_zero, List.getElem_cons_succ]
            refine wpAnyH_ready (rs := [18]) (by kernel_rfl) (by simp) ?_
            refine (AllReadyH.cons rfl (fun K hK => ?_) AllReadyH.nil)
            (refine stepP w9 (by rfl) (.tmp 143) (.tmp 149) 43 3 (.int .i64 0) 1 8 (by rfl) Tryz.underlying43 intInfo rfl (by decide) (by decide) wA.heap.size (i + 1) (N - i) c4 v9 ((iCells (nats (slotsE σ (S.E.take i)))) ++ ([.int .i64 (s : Int)])) (iCells (nats (slotsE σ (S.E.drop i)))) A4 (by rfl) HO9.out (by rfl) (HQ.out.2.1) (HQ.out.1 _ HB9.out) HQ.out.2.2.1 (HQ.out.2.2.2) (by omega) HB9.out.size ?_; intro vT wT ho hg; have HOT := Lib.hid ho; have HBT := Lib.hid (below_grown HB9.out hg (fun e he => HO9.out.own e he)); clear ho hg)
            refine hK.out _ _ ?_ (fun hHeld2 => ?_)
            · exact HSS.out _ HBT.out
            clear hK K hHeld
            have hHeld := hHeld2
            clear hHeld2
            try simp only [Act.put, List.setIfInBounds_toArray, List.set_cons_zero, List.set_cons_succ, List.getElem_toArray, List.getElem_cons_zero, List.getElem_cons_succ]
            refine wpAnyH_done (by kernel_rfl) ?_ _
            show wpAny _ _ _ _ 3 _ _ _
            clear hHeld
            refine wpAny_take (i := 19) (v := ?_) rfl (by kernel_rfl) (by kernel_rfl) (by kernel_rfl) (fun _ _ _ h => h) (Or.inl ⟨by rfl, ?_⟩) ?_
            rotate_left
            · intro u
              go_simp
              try with_reducible rfl
            try simp only [Act.put, List.setIfInBounds_toArray, List.set_cons_zero, List.set_cons_succ, List.getElem_toArray, List.getElem_cons_zero, List.getElem_cons_succ]
            refine wpAny_take (i := 20) (v := ?_) rfl (by kernel_rfl) (by kernel_rfl) (by kernel_rfl) (fun _ _ _ h => h) (Or.inl ⟨by rfl, ?_⟩) ?_
            rotate_left
            · intro u
              go_simp
              try with_reducible rfl
            try simp only [Act.put, List.setIfInBounds_toArray, List.set_cons_zero, List.set_cons_succ, List.getElem_toArray, List.getElem_cons_zero, List.getElem_cons_succ]
            obtain ⟨AT, cT, rfl, _, _, _⟩ := HOT.out.form
            have g0 := HSS.out _ HBT.out
            have g1 := HFR.out _ HBT.out
            refine wpAny_ready (rs := [21]) (by kernel_rfl) (by simp) ?_
            refine AllReady.cons rfl (fun K hK => ?_) AllReady.nil
            go_simp
            refine hK _ _ ?_
            clear hK K
            refine wpAny_done (by kernel_rfl) ?_ _
            go_wp2_with fail
            go_meet
            case rel => exact ⟨rfl, rfl, wT, _, rfl, HBT.out, HOT.out⟩
        case rest =>
        obtain ⟨rfl, rfl, w12, vS', hwB, hb12, ho12⟩ := hcut
        have HEND : Hid (RcTo Y rc kb (.slice A N c) (.bool true) (S.newS kx a d) w (.returned (.bool true)) wc) := Lib.hid (by
          have hlen : (S.newS kx a d).E.length = i + 1 + (N - i) := by
            show (insE S.E ⟨kx, a, d⟩).length = _
            rw [HINS.out, List.length_append, List.length_append, List.length_take, List.length_drop, HLN.out, Nat.min_eq_left hi]
            rfl
          have hc1 : (cesC (S.E.take i) ++ cesC [⟨kx, a, d⟩]) ++ cesC (S.E.drop i) = cesC (S.newS kx a d).E := by
            show _ = cesC (insE S.E ⟨kx, a, d⟩)
            rw [HINS.out, cesC_app, cesC_app]
          have hc2 : (iCells (nats (slotsE σ (S.E.take i))) ++ [Value.int .i64 (s : Int)]) ++ iCells (nats (slotsE σ (S.E.drop i))) = iCells (nats (slotsE (upd σ kx s) (S.newS kx a d).E)) := by
            show _ = iCells (nats (slotsE (upd σ kx s) (insE S.E ⟨kx, a, d⟩)))
            rw [HINS.out, slotsE_app, slotsE_app, ← slotsE_take, ← slotsE_drop, ← slotsE_take (upd σ kx s), ← slotsE_drop (upd σ kx s), HSE.out]
            congr 2
            simp [slotsE, nats, iCells, upd_same]
          have h8 := HO8.out
          rw [hc1, ← hlen] at h8
          rw [hc2, ← hlen] at ho12
          rw [HWA.out] at hb12 ho12
          have hm := HM1.out
          rw [HLN.out] at hm
          have hr := RcC.relay (S' := S.newS kx a d) (σ' := upd σ kx s) HBK.out HC.out.ne hm HB8.out h8 hb12 ho12 HINJ.out HWF.out rfl
          rw [hwB]
          have hz := HB0.out.size
          have hz1 := HK1.out.size
          exact ⟨rfl, ⟨_, _, _, hr.1, fun j hj => .inr (by have := hr.2.2 j hj; omega)⟩, ((Kept.of_below HB0.out).and (HK1.out.mono (fun k _ e => .inr (.inl e)))).and (hr.2.1.mono (fun k _ e => .inl e))⟩)
        clear hwB hb12 ho12 HSS HFR HP HQ HON f1 f2 f3 f4
        go_wp2_with fail
        go_ret
        rw [HNEW.out.1, HNEW.out.2]
        exact HEND.out
theorem cput_at (x : Int) (a : Nat) (d : Bool) (h : RcC Y w rc kb vL vS σ S) : Calls Tryz.prog 32 #[.pointer (some ⟨rc, 0, none⟩), .int .i64 x, .int .u32 (a : Int), .bool d] w (RcTo Y rc kb vL (.bool (S.putB x)) (S.putS x a d) w) := by
  cases hh : S.has x with
  | true =>
    have hp : S.putB x = true := by unfold CaS.putB; rw [hh]; rfl
    rw [hp]
    exact cput_has x a d h hh
  | false => exact cput_not x a d h hh
end
end Go.Proofs.YtajccmkdfmpapaaGreatDoor
