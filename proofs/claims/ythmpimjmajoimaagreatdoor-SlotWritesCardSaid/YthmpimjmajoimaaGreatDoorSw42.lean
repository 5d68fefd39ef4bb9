/-
  The document's Read of a slot, where the device has its power and the zone is a slot.
-/
import Derived.Test.YthmpimjmajoimaaGreatDoorSw40
namespace Go.Proofs.YthmpimjmajoimaaGreatDoor
open Go.RowKit

set_option maxHeartbeats 2000000 in
set_option maxRecDepth 100000 in
theorem rsread_but {F : Nat → Prop} {w : World} {db zb cap : Nat} {zs : List Value} {S : DevS} (k : Nat) (h : RD F w db zb cap zs S) (hg2 : S.gone = false) (hk9 : k + 2 = S.zones.length ∧ 2 ≤ S.zones.length) : Calls Tryz.prog 19 #[.pointer (some ⟨db, 0, none⟩), .int .i64 (k : Int)] w (RChkN (S.slC (k : Int)) (S.slE (k : Int)) w) := by
  obtain ⟨wA, hwA⟩ : ∃ u, w.alloc (.cells #[.int .u32 0, .int .u32 0, .int .u32 0, .int .i64 0, .int .i64 0, .int .i64 0, .slice none 0 0] 46) = u := ⟨_, rfl⟩
  obtain ⟨wB, hwB⟩ : ∃ u, wA.alloc (.cells #[.int .u32 0, .int .u32 0, .int .u32 0, .int .i64 0, .int .i64 0, .int .i64 0, .slice none 0 0] 46) = u := ⟨_, rfl⟩
  have hA : Below w.heap.size w wA := by rw [← hwA]; exact (Below.refl _ _).alloc (Nat.le_refl _) _
  have hB : Below wA.heap.size wA wB := by rw [← hwB]; exact (Below.refl _ _).alloc (Nat.le_refl _) _
  have zA : wA.heap.size = w.heap.size + 1 := by rw [← hwA]; simp
  have h1 : Blk wB w.heap.size 46 zList := by
    have h : Blk wA w.heap.size 46 zList := by rw [← hwA]; exact heap_alloc_new w _
    exact h.up hB (by omega)
  have h2 : Blk wB wA.heap.size 46 zList := by rw [← hwB]; exact heap_alloc_new wA _
  obtain ⟨rb, hrb⟩ : ∃ x, w.heap.size = x := ⟨_, rfl⟩
  obtain ⟨nb, hnb⟩ : ∃ x, wA.heap.size = x := ⟨_, rfl⟩
  have HRB := Lib.hid hrb
  have HNB := Lib.hid hnb
  have HNB2 : Hid (nb = w.heap.size + 1) := Lib.hid (by omega)
  obtain ⟨wC, hwC⟩ : ∃ u, (((((((wB.setCell ⟨nb, 0, none⟩ (.int .u32 0)).setCell ⟨nb, 1, none⟩ (.int .u32 0)).setCell ⟨nb, 2, none⟩ (.int .u32 0)).setCell ⟨nb, 3, none⟩ (.int .i64 0)).setCell ⟨nb, 4, none⟩ (.int .i64 0)).setCell ⟨nb, 5, none⟩ (.int .i64 0)).setCell ⟨nb, 6, none⟩ (.slice none 0 0)) = u := ⟨_, rfl⟩
  have HBB : Hid (Below w.heap.size w wB) := Lib.hid (wbelow hA hB)
  have HZC : Hid (Zer w wC) := Lib.hid (by
    rw [hnb] at h2
    have hk := ((((((((Kept.refl (fun k => k = nb) wB).put (g := nb) (.inl rfl) 0 (.int .u32 0)).put (g := nb) (.inl rfl) 1 (.int .u32 0)).put (g := nb) (.inl rfl) 2 (.int .u32 0)).put (g := nb) (.inl rfl) 3 (.int .i64 0)).put (g := nb) (.inl rfl) 4 (.int .i64 0)).put (g := nb) (.inl rfl) 5 (.int .i64 0)).put (g := nb) (.inl rfl) 6 (.slice none 0 0))
    have hz := (((((((h2.put 0 (.int .u32 0)).put 1 (.int .u32 0)).put 2 (.int .u32 0)).put 3 (.int .i64 0)).put 4 (.int .i64 0)).put 5 (.int .i64 0)).put 6 (.slice none 0 0))
    rw [hwC] at hk hz
    refine ⟨HBB.out.trans (hk.below HBB.out.size (fun k e => by omega)), hk.blk h1 (by omega), ?_⟩
    rw [← HNB2.out]
    exact hz)
  have HH := Lib.hid (h.up HZC.out.old)
  rw [hrb] at h1
  rw [hnb] at h2
  have n0 := h2.cell 0 (by simp)
  have n1 := h2.cell 1 (by simp)
  have n2 := h2.cell 2 (by simp)
  have n3 := h2.cell 3 (by simp)
  have n4 := h2.cell 4 (by simp)
  have n5 := h2.cell 5 (by simp)
  have n6 := h2.cell 6 (by simp)
  simp only [List.getElem_cons_zero, List.getElem_cons_succ] at n0 n1 n2 n3 n4 n5 n6
  have nf := fun k => h2.free k
  have c4 := HH.out.c4
  have c0 := HH.out.c0
  have hz1 := h.wf.z1
  obtain ⟨n, hn⟩ : ∃ n, S.zones.length = n := ⟨_, rfl⟩
  have HN := Lib.hid hn
  rw [hn] at c0 hz1
  clear h hA hB hn zA h1 h2
  have d0 : wC.cell? ⟨rb, 0, none⟩ = some (.int .u32 0) := by rw [← HRB.out]; exact HZC.out.r.cell 0 (by simp)
  have e0 : wC.cell? ⟨nb, 0, none⟩ = some (.int .u32 0) := by rw [HNB2.out]; exact HZC.out.z.cell 0 (by simp)
  have d1 : wC.cell? ⟨rb, 1, none⟩ = some (.int .u32 0) := by rw [← HRB.out]; exact HZC.out.r.cell 1 (by simp)
  have e1 : wC.cell? ⟨nb, 1, none⟩ = some (.int .u32 0) := by rw [HNB2.out]; exact HZC.out.z.cell 1 (by simp)
  have d2 : wC.cell? ⟨rb, 2, none⟩ = some (.int .u32 0) := by rw [← HRB.out]; exact HZC.out.r.cell 2 (by simp)
  have e2 : wC.cell? ⟨nb, 2, none⟩ = some (.int .u32 0) := by rw [HNB2.out]; exact HZC.out.z.cell 2 (by simp)
  have d3 : wC.cell? ⟨rb, 3, none⟩ = some (.int .i64 0) := by rw [← HRB.out]; exact HZC.out.r.cell 3 (by simp)
  have e3 : wC.cell? ⟨nb, 3, none⟩ = some (.int .i64 0) := by rw [HNB2.out]; exact HZC.out.z.cell 3 (by simp)
  have d4 : wC.cell? ⟨rb, 4, none⟩ = some (.int .i64 0) := by rw [← HRB.out]; exact HZC.out.r.cell 4 (by simp)
  have e4 : wC.cell? ⟨nb, 4, none⟩ = some (.int .i64 0) := by rw [HNB2.out]; exact HZC.out.z.cell 4 (by simp)
  have d5 : wC.cell? ⟨rb, 5, none⟩ = some (.int .i64 0) := by rw [← HRB.out]; exact HZC.out.r.cell 5 (by simp)
  have e5 : wC.cell? ⟨nb, 5, none⟩ = some (.int .i64 0) := by rw [HNB2.out]; exact HZC.out.z.cell 5 (by simp)
  have d6 : wC.cell? ⟨rb, 6, none⟩ = some (.slice none 0 0) := by rw [← HRB.out]; exact HZC.out.r.cell 6 (by simp)
  have e6 : wC.cell? ⟨nb, 6, none⟩ = some (.slice none 0 0) := by rw [HNB2.out]; exact HZC.out.z.cell 6 (by simp)
  have df : ∀ k, wC.frozen? ⟨rb, k, none⟩ = false := fun k => by rw [← HRB.out]; exact HZC.out.r.free k
  rw [hg2] at c4
  have HG := Lib.hid hg2
  have hk3 : k < S.zones.length ∧ S.zones.length ≤ k + 2 ∧ 2 ≤ S.zones.length := by omega
  rw [HN.out] at hk3 hk9
  have HK : Hid (k < n ∧ n ≤ k + 2 ∧ 2 ≤ n) := Lib.hid hk3
  have g1 : ¬ (n : Int) < 2 := by omega
  have hb0 : (0 : Int) ≤ (k : Int) := by omega
  have hb1 : (k : Int) < (n : Int) := by omega
  obtain ⟨v, y0, y1, y2, hrow, hzl, hzn, _⟩ := HH.out.zone k (DevS.is_iff.2 (by rw [HN.out]; omega))
  have HROW := Lib.hid hrow
  have HKN := Lib.hid hk3
  have HLB : Hid ((S.zone (k : Int)).pages.length ≤ 16) := Lib.hid (by
    have hkl := hk3.1
    rw [← HN.out] at hkl
    have hz := HH.out.wf.pages (S.zone (k : Int)) (by rw [DevS.zone_out (DevS.is_iff.2 (by omega))]; exact List.getElem_mem hkl)
    have := HH.out.wf.p1
    omega)
  obtain ⟨l, hll⟩ : ∃ x, (S.zone (k : Int)).pages = x := ⟨_, rfl⟩
  have HLL := Lib.hid hll
  rw [hll] at hrow HLB
  obtain ⟨PA, pc, ps, rfl, hpc, hpr, _, _, hpl, hpx⟩ := hrow.out
  obtain ⟨m, hm⟩ : ∃ x, l.length = x := ⟨_, rfl⟩
  have HM := Lib.hid hm
  have HPR := Lib.hid hpr
  have HPL := Lib.hid hpl
  have HPX := Lib.hid hpx
  have HY0 := Lib.hid y0
  rw [hm] at y0 hpc HY0
  clear y1 y2 hpr hpx hpl hrow hm hll
  have HF := Lib.hid (And.intro HH.out.fd HH.out.fz)
  have hk := hk9.1
  · have q1 : ((k : Int) != (n : Int) - 1) = true := by simp; omega
    have q2 : ((k : Int) != (n : Int) - 2) = false := by simp; omega
    go_enter Tryz.func19, Tryz.ntmps19
    go_wp2_with fail
    clear hk q1 q2
    have HA0 : Hid (RAcc wC (wC.alloc (.cells #[] 61)) l 0 (.slice (some ⟨wC.heap.size, 0, none⟩) 0 0) []) := Lib.hid ⟨(Below.refl _ _).alloc (Nat.le_refl _) _, RowV.new wC wC.heap.size 61 (Nat.le_refl _), rfl, fun j h _ => absurd h (by simp), fun j _ h => absurd h (by omega)⟩
    go_loopg [7, 8, 9, 10] m (fun q x7 x8 x9 x10 wr => ∃ (i : Nat) (A : Option Addr) (c : Nat) (vs : List Value) (se sq : Int), i ≤ m ∧ q = m - i ∧ x7 = .slice A i c ∧ x8 = .int .u32 se ∧ x9 = .int .u32 sq ∧ x10 = .int .i64 (i : Int) ∧ RAcc wC wr l i (.slice A i c) vs ∧ (i = 0 → se = 0 ∧ sq = 0) ∧ (0 < i → se = bk (l.getD 0 []) 1 ∧ sq = bk (l.getD 0 []) 9))
    case atStart => exact ⟨0, _, _, [], 0, 0, by omega, by omega, rfl, rfl, rfl, rfl, HA0.out, fun _ => ⟨rfl, rfl⟩, fun h => by omega⟩
    case round =>
      clear HA0
      obtain ⟨i, A, cc, vs, se, sq, hi, hq, rfl, rfl, rfl, rfl, hac, hs0, hs1⟩ := hrel
      have HS0 := Lib.hid hs0
      have HS1 := Lib.hid hs1
      clear hs0 hs1
      have HQ := Lib.hid hq
      have HAC := Lib.hid hac
      have HR := Lib.hid (HH.out.up hac.old)
      have HZR := Lib.hid (HZC.out.up hac.old)
      have c0 := HR.out.c0
      rw [HN.out] at c0
      have y0 := (hac.old.cell (p := ⟨zb, k * 3, none⟩) (HH.out.lt zb HF.out.2)).trans HY0.out
      clear hq hac
      by_cases hlt : i < m
      · have hil : i < l.length := by rw [HM.out]; exact hlt
        have hip : i < ps.length := by rw [HPL.out]; exact hil
        obtain ⟨b, po, rfl, hbl, hbc⟩ := HPR.out (by omega)
        have z0 := (HAC.out.old.cell (p := ⟨b, po + i, none⟩) hbl).trans (hbc i hip)
        obtain ⟨XA, xc, hxe, hxc, hxr, _, _⟩ := HPX.out i hip hil
        rw [hxe] at z0
        obtain ⟨pg, hpg⟩ : ∃ x, l[i] = x := ⟨_, rfl⟩
        obtain ⟨pn, hpn⟩ : ∃ x, pg.length = x := ⟨_, rfl⟩
        rw [hpg, hpn] at z0
        rw [hpg] at hxr hxc
        rw [hpn] at hxc
        have HXR := Lib.hid (rd_up hxr HAC.out.old)
        have HPG := Lib.hid hpg
        have HPN := Lib.hid hpn
        have HXC := Lib.hid hxc
        clear hbc hxe hpg hpn hxr hxc
        have HBAD : Hid (pgB (l.getD 0 []) i pg ≠ true → S.slC (k : Int) = ChkS.zero ∧ S.slE (k : Int) = 10) := Lib.hid (fun h => by
          refine slot_ten HG.out ?_ (hold_bad ?_)
          · unfold DevS.slotB
            rw [HN.out]
            have := HKN.out
            simp
            omega
          · rw [HLL.out]
            refine okP_no (by rw [HM.out]; exact hlt) (k := i) ?_
            rw [HPG.out]
            cases hq : pgB (l.getD 0 []) i pg with
            | true => exact absurd hq h
            | false => rfl)
        have HBY : Hid (Byt pg) := Lib.hid (by
          have hz := HH.out.wf.pages (S.zone (k : Int)) (by
            have hkl := HKN.out.1
            rw [← HN.out] at hkl
            rw [DevS.zone_out (DevS.is_iff.2 (by omega))]
            exact List.getElem_mem hkl)
          rw [HLL.out] at hz
          exact (hz.2.2 pg (by rw [← HPG.out]; exact List.getElem_mem _)).2)
        go_wp2_with fail
        refine (rpage_at HXR.out HBY.out HPN.out HXC.out).mono ?_
        rintro r w5 (⟨pe, g, cap, rfl, ho, hb⟩ | ⟨pe, rfl, hb⟩)
        · have HPE := Lib.hid pe
          obtain ⟨t0, ht0⟩ : ∃ x, pg.getD 0 0 = x := ⟨_, rfl⟩
          obtain ⟨t1, ht1⟩ : ∃ x, bk pg 1 = x := ⟨_, rfl⟩
          obtain ⟨t2, ht2⟩ : ∃ x, bk pg 5 = x := ⟨_, rfl⟩
          obtain ⟨t3, ht3⟩ : ∃ x, bk pg 9 = x := ⟨_, rfl⟩
          rw [ht0, ht1, ht2, ht3]
          have HT := Lib.hid (And.intro ht0 (And.intro ht1 (And.intro ht2 ht3)))
          obtain ⟨w6, hw6⟩ : ∃ u, w5.alloc (.cells #[.int .u8 t0, .int .u32 t1, .int .u32 t2, .int .u32 t3] 97) = u := ⟨_, rfl⟩
          have hb6 : Below w5.heap.size w5 w6 := by rw [← hw6]; exact (Below.refl _ _).alloc (Nat.le_refl _) _
          have hx6 : Blk w6 w5.heap.size 97 [.int .u8 t0, .int .u32 t1, .int .u32 t2, .int .u32 t3] := by rw [← hw6]; exact heap_alloc_new w5 _
          have HAC6 := Lib.hid (HAC.out.rise (wbelow hb hb6))
          have HZ6 := Lib.hid (HZR.out.up (wbelow hb hb6))
          have HO6 := Lib.hid ((ho.rise hb6).le HAC.out.old.size)
          have x0 := hx6.cell 0 (by simp)
          have x1 := hx6.cell 1 (by simp)
          have x2 := hx6.cell 2 (by simp)
          have x3 := hx6.cell 3 (by simp)
          simp only [List.getElem_cons_zero, List.getElem_cons_succ] at x0 x1 x2 x3
          have hwi : IntKind.u32.wrap (i : Int) = (i : Int) := IntWalk.u32_in _ (by have h1 := HM.out; have h2 := HLB.out; omega)
          clear pe ht0 ht1 ht2 ht3 ho hb hb6 hx6
          by_cases hi0 : i = 0
          · subst hi0
            by_cases ca : t0 = 5
            · have ka : (t0 != 5) = false := by simpa using ca
              have HCa := Lib.hid ca
              clear ca
              by_cases cb : t2 = 0
              · have kb : (t2 != 0) = false := by simpa using cb
                have HCb := Lib.hid cb
                clear cb
                have HFP : Hid (l.getD 0 [] = pg) := Lib.hid (by
                  rw [List.getD_eq_getElem?_getD, List.getElem?_eq_getElem (by rw [HM.out]; exact hlt), Option.getD_some]
                  exact HPG.out)
                have HPB : Hid (pgB (l.getD 0 []) 0 pg = true) := Lib.hid (pgB_iff.2 ⟨HPE.out, HT.out.1.trans HCa.out, HT.out.2.2.1.trans HCb.out, by rw [HFP.out], by rw [HFP.out]⟩)
                have HAC7 := Lib.hid (HAC6.out.rise (Below.alloc (Below.refl _ _) (Nat.le_refl _) (.cells #[.slice (some ⟨g, 0, none⟩) 16 cap] 61)))
                have HO7 := Lib.hid (HO6.out.rise (Below.alloc (Below.refl _ _) (Nat.le_refl _) (.cells #[.slice (some ⟨g, 0, none⟩) 16 cap] 61)))
                have HVL : Hid (vs.length = 0) := Lib.hid HAC6.out.len
                go_wp2_with (first
                  | (at_builtin; refine appR _ rfl (.tmp 112) (.tmp 114) 60 61 (.slice none 0 0) 24 rfl Tryz.underlying60 infoRow rfl (by decide) wC.heap.size 0 1 1 (.slice A 0 cc) vs [.slice (some ⟨g, 0, none⟩) 16 cap] (some ⟨w6.heap.size, 0, none⟩) rfl HAC7.out.row HVL.out rfl rfl (rdv_one w6 _ _) (fun e => by cases e) (fun u hu => by simp at hu; subst hu; rfl) ?h1 ?h2 ?_; (case h1 => have := HLB.out; have := HM.out; omega); (case h2 => exact HAC7.out.old.size); intro v7 w7 ho hg; obtain ⟨A7, c7, rfl⟩ : ∃ X c, v7 = .slice X (0 + 1) c := (by obtain ⟨X, c, e, _⟩ := ho.out; exact ⟨X, c, by rw [e, app_one_len HVL.out]⟩); have HN7 := Lib.hid (HAC7.out.step (by rw [HM.out]; exact hlt) hg ho (by rw [HPG.out]; exact HO7.out) (by rw [HPG.out]; exact HPB.out)); clear ho hg)
                  | fail)
                go_roundg (m - (0 + 1))
                case rel =>
                  refine ⟨0 + 1, A7, c7, _, t1, t3, by omega, rfl, rfl, rfl, rfl, rfl, HN7.out, fun h => by omega, fun _ => by rw [HFP.out]; exact ⟨HT.out.2.1.symm, HT.out.2.2.2.symm⟩⟩
                case measure => have := HQ.out; omega
              · have kb : (t2 != 0) = true := by simpa using cb
                have HCb := Lib.hid cb
                clear cb
                have HE : Hid (S.slC (k : Int) = ChkS.zero ∧ S.slE (k : Int) = 10) := Lib.hid (HBAD.out (fun h => by
                  have h := pgB_iff.1 h
                  have ht := HT.out
                  have hs := HS1.out
                  exact HCb.out (ht.2.2.1.symm.trans h.2.2.1)))
                have d0 : w6.cell? ⟨rb, 0, none⟩ = some (.int .u32 0) := by rw [← HRB.out]; exact HZ6.out.r.cell 0 (by simp)
                have e0 : w6.cell? ⟨nb, 0, none⟩ = some (.int .u32 0) := by rw [HNB2.out]; exact HZ6.out.z.cell 0 (by simp)
                have d1 : w6.cell? ⟨rb, 1, none⟩ = some (.int .u32 0) := by rw [← HRB.out]; exact HZ6.out.r.cell 1 (by simp)
                have e1 : w6.cell? ⟨nb, 1, none⟩ = some (.int .u32 0) := by rw [HNB2.out]; exact HZ6.out.z.cell 1 (by simp)
                have d2 : w6.cell? ⟨rb, 2, none⟩ = some (.int .u32 0) := by rw [← HRB.out]; exact HZ6.out.r.cell 2 (by simp)
                have e2 : w6.cell? ⟨nb, 2, none⟩ = some (.int .u32 0) := by rw [HNB2.out]; exact HZ6.out.z.cell 2 (by simp)
                have d3 : w6.cell? ⟨rb, 3, none⟩ = some (.int .i64 0) := by rw [← HRB.out]; exact HZ6.out.r.cell 3 (by simp)
                have e3 : w6.cell? ⟨nb, 3, none⟩ = some (.int .i64 0) := by rw [HNB2.out]; exact HZ6.out.z.cell 3 (by simp)
                have d4 : w6.cell? ⟨rb, 4, none⟩ = some (.int .i64 0) := by rw [← HRB.out]; exact HZ6.out.r.cell 4 (by simp)
                have e4 : w6.cell? ⟨nb, 4, none⟩ = some (.int .i64 0) := by rw [HNB2.out]; exact HZ6.out.z.cell 4 (by simp)
                have d5 : w6.cell? ⟨rb, 5, none⟩ = some (.int .i64 0) := by rw [← HRB.out]; exact HZ6.out.r.cell 5 (by simp)
                have e5 : w6.cell? ⟨nb, 5, none⟩ = some (.int .i64 0) := by rw [HNB2.out]; exact HZ6.out.z.cell 5 (by simp)
                have d6 : w6.cell? ⟨rb, 6, none⟩ = some (.slice none 0 0) := by rw [← HRB.out]; exact HZ6.out.r.cell 6 (by simp)
                have e6 : w6.cell? ⟨nb, 6, none⟩ = some (.slice none 0 0) := by rw [HNB2.out]; exact HZ6.out.z.cell 6 (by simp)
                have df : ∀ k, w6.frozen? ⟨rb, k, none⟩ = false := fun k => by rw [← HRB.out]; exact HZ6.out.r.free k
                obtain ⟨wD, hwD⟩ : ∃ u, (((((((w6.setCell ⟨rb, 0, none⟩ (.int .u32 0)).setCell ⟨rb, 1, none⟩ (.int .u32 0)).setCell ⟨rb, 2, none⟩ (.int .u32 0)).setCell ⟨rb, 3, none⟩ (.int .i64 0)).setCell ⟨rb, 4, none⟩ (.int .i64 0)).setCell ⟨rb, 5, none⟩ (.int .i64 0)).setCell ⟨rb, 6, none⟩ (.slice none 0 0)) = u := ⟨_, rfl⟩
                have HD : Hid (RChkTold ChkS.zero 10 w (.returned (.tuple #[ckV ChkS.zero (.slice none 0 0), .int .i64 10])) wD ∧ Blk wD rb 46 zList) := Lib.hid (by
                  have h := HZ6.out.no 10 (.int .u32 0) (.int .u32 0) (.int .u32 0) (.int .i64 0) (.int .i64 0) (.int .i64 0) (.slice none 0 0)
                  have hb := (((((((HZ6.out.r.put 0 (.int .u32 0)).put 1 (.int .u32 0)).put 2 (.int .u32 0)).put 3 (.int .i64 0)).put 4 (.int .i64 0)).put 5 (.int .i64 0)).put 6 (.slice none 0 0))
                  rw [HRB.out, hwD] at h hb
                  exact ⟨h, hb⟩)
                go_wp2_with fail
                clear hwD
                have q0 := HD.out.2.cell 0 (by simp)
                have q1 := HD.out.2.cell 1 (by simp)
                have q2 := HD.out.2.cell 2 (by simp)
                have q3 := HD.out.2.cell 3 (by simp)
                have q4 := HD.out.2.cell 4 (by simp)
                have q5 := HD.out.2.cell 5 (by simp)
                have q6 := HD.out.2.cell 6 (by simp)
                simp only [List.getElem_cons_zero, List.getElem_cons_succ] at q0 q1 q2 q3 q4 q5 q6
                refine bodyPost_ret (v := .tuple #[kV 0 0 0 0 0 0 (.slice none 0 0), .int .i64 10]) (by simp [results, Tryz.results19, go_sem, q0, q1, q2, q3, q4, q5, q6]) rfl ?_
                rw [HE.out.1, HE.out.2]
                exact RChkN.zero (by obtain ⟨_, _, _, h⟩ := HD.out.1; exact h)
            · have ka : (t0 != 5) = true := by simpa using ca
              have HCa := Lib.hid ca
              clear ca
              have HE : Hid (S.slC (k : Int) = ChkS.zero ∧ S.slE (k : Int) = 10) := Lib.hid (HBAD.out (fun h => by
                have h := pgB_iff.1 h
                have ht := HT.out
                have hs := HS1.out
                exact HCa.out (ht.1.symm.trans h.2.1)))
              have d0 : w6.cell? ⟨rb, 0, none⟩ = some (.int .u32 0) := by rw [← HRB.out]; exact HZ6.out.r.cell 0 (by simp)
              have e0 : w6.cell? ⟨nb, 0, none⟩ = some (.int .u32 0) := by rw [HNB2.out]; exact HZ6.out.z.cell 0 (by simp)
              have d1 : w6.cell? ⟨rb, 1, none⟩ = some (.int .u32 0) := by rw [← HRB.out]; exact HZ6.out.r.cell 1 (by simp)
              have e1 : w6.cell? ⟨nb, 1, none⟩ = some (.int .u32 0) := by rw [HNB2.out]; exact HZ6.out.z.cell 1 (by simp)
              have d2 : w6.cell? ⟨rb, 2, none⟩ = some (.int .u32 0) := by rw [← HRB.out]; exact HZ6.out.r.cell 2 (by simp)
              have e2 : w6.cell? ⟨nb, 2, none⟩ = some (.int .u32 0) := by rw [HNB2.out]; exact HZ6.out.z.cell 2 (by simp)
              have d3 : w6.cell? ⟨rb, 3, none⟩ = some (.int .i64 0) := by rw [← HRB.out]; exact HZ6.out.r.cell 3 (by simp)
              have e3 : w6.cell? ⟨nb, 3, none⟩ = some (.int .i64 0) := by rw [HNB2.out]; exact HZ6.out.z.cell 3 (by simp)
              have d4 : w6.cell? ⟨rb, 4, none⟩ = some (.int .i64 0) := by rw [← HRB.out]; exact HZ6.out.r.cell 4 (by simp)
              have e4 : w6.cell? ⟨nb, 4, none⟩ = some (.int .i64 0) := by rw [HNB2.out]; exact HZ6.out.z.cell 4 (by simp)
              have d5 : w6.cell? ⟨rb, 5, none⟩ = some (.int .i64 0) := by rw [← HRB.out]; exact HZ6.out.r.cell 5 (by simp)
              have e5 : w6.cell? ⟨nb, 5, none⟩ = some (.int .i64 0) := by rw [HNB2.out]; exact HZ6.out.z.cell 5 (by simp)
              have d6 : w6.cell? ⟨rb, 6, none⟩ = some (.slice none 0 0) := by rw [← HRB.out]; exact HZ6.out.r.cell 6 (by simp)
              have e6 : w6.cell? ⟨nb, 6, none⟩ = some (.slice none 0 0) := by rw [HNB2.out]; exact HZ6.out.z.cell 6 (by simp)
              have df : ∀ k, w6.frozen? ⟨rb, k, none⟩ = false := fun k => by rw [← HRB.out]; exact HZ6.out.r.free k
              obtain ⟨wD, hwD⟩ : ∃ u, (((((((w6.setCell ⟨rb, 0, none⟩ (.int .u32 0)).setCell ⟨rb, 1, none⟩ (.int .u32 0)).setCell ⟨rb, 2, none⟩ (.int .u32 0)).setCell ⟨rb, 3, none⟩ (.int .i64 0)).setCell ⟨rb, 4, none⟩ (.int .i64 0)).setCell ⟨rb, 5, none⟩ (.int .i64 0)).setCell ⟨rb, 6, none⟩ (.slice none 0 0)) = u := ⟨_, rfl⟩
              have HD : Hid (RChkTold ChkS.zero 10 w (.returned (.tuple #[ckV ChkS.zero (.slice none 0 0), .int .i64 10])) wD ∧ Blk wD rb 46 zList) := Lib.hid (by
                have h := HZ6.out.no 10 (.int .u32 0) (.int .u32 0) (.int .u32 0) (.int .i64 0) (.int .i64 0) (.int .i64 0) (.slice none 0 0)
                have hb := (((((((HZ6.out.r.put 0 (.int .u32 0)).put 1 (.int .u32 0)).put 2 (.int .u32 0)).put 3 (.int .i64 0)).put 4 (.int .i64 0)).put 5 (.int .i64 0)).put 6 (.slice none 0 0))
                rw [HRB.out, hwD] at h hb
                exact ⟨h, hb⟩)
              go_wp2_with fail
              clear hwD
              have q0 := HD.out.2.cell 0 (by simp)
              have q1 := HD.out.2.cell 1 (by simp)
              have q2 := HD.out.2.cell 2 (by simp)
              have q3 := HD.out.2.cell 3 (by simp)
              have q4 := HD.out.2.cell 4 (by simp)
              have q5 := HD.out.2.cell 5 (by simp)
              have q6 := HD.out.2.cell 6 (by simp)
              simp only [List.getElem_cons_zero, List.getElem_cons_succ] at q0 q1 q2 q3 q4 q5 q6
              refine bodyPost_ret (v := .tuple #[kV 0 0 0 0 0 0 (.slice none 0 0), .int .i64 10]) (by simp [results, Tryz.results19, go_sem, q0, q1, q2, q3, q4, q5, q6]) rfl ?_
              rw [HE.out.1, HE.out.2]
              exact RChkN.zero (by obtain ⟨_, _, _, h⟩ := HD.out.1; exact h)
          · have hip : 0 < i := by omega
            by_cases ca : t0 = 5
            · have ka : (t0 != 5) = false := by simpa using ca
              have HCa := Lib.hid ca
              clear ca
              by_cases cb : t2 = (i : Int)
              · have kb : (t2 != (i : Int)) = false := by simpa using cb
                have HCb := Lib.hid cb
                clear cb
                by_cases cc : t1 = se
                · have kc : (t1 != se) = false := by simpa using cc
                  have HCc := Lib.hid cc
                  clear cc
                  by_cases cd : t3 = sq
                  · have kd : (t3 != sq) = false := by simpa using cd
                    have HCd := Lib.hid cd
                    clear cd
                    have HPB : Hid (pgB (l.getD 0 []) i pg = true) := Lib.hid (pgB_iff.2 ⟨HPE.out, HT.out.1.trans HCa.out, HT.out.2.2.1.trans HCb.out, HT.out.2.1.trans (HCc.out.trans (HS1.out hip).1), HT.out.2.2.2.trans (HCd.out.trans (HS1.out hip).2)⟩)
                    have HAC7 := Lib.hid (HAC6.out.rise (Below.alloc (Below.refl _ _) (Nat.le_refl _) (.cells #[.slice (some ⟨g, 0, none⟩) 16 cap] 61)))
                    have HO7 := Lib.hid (HO6.out.rise (Below.alloc (Below.refl _ _) (Nat.le_refl _) (.cells #[.slice (some ⟨g, 0, none⟩) 16 cap] 61)))
                    have HVL : Hid (vs.length = i) := Lib.hid HAC6.out.len
                    go_wp2_with (first
                      | (at_builtin; refine appR _ rfl (.tmp 112) (.tmp 114) 60 61 (.slice none 0 0) 24 rfl Tryz.underlying60 infoRow rfl (by decide) wC.heap.size i 1 1 (.slice A i cc) vs [.slice (some ⟨g, 0, none⟩) 16 cap] (some ⟨w6.heap.size, 0, none⟩) rfl HAC7.out.row HVL.out rfl rfl (rdv_one w6 _ _) (fun e => by cases e) (fun u hu => by simp at hu; subst hu; rfl) ?h1 ?h2 ?_; (case h1 => have := HLB.out; have := HM.out; omega); (case h2 => exact HAC7.out.old.size); intro v7 w7 ho hg; obtain ⟨A7, c7, rfl⟩ : ∃ X c, v7 = .slice X (i + 1) c := (by obtain ⟨X, c, e, _⟩ := ho.out; exact ⟨X, c, by rw [e, app_one_len HVL.out]⟩); have HN7 := Lib.hid (HAC7.out.step (by rw [HM.out]; exact hlt) hg ho (by rw [HPG.out]; exact HO7.out) (by rw [HPG.out]; exact HPB.out)); clear ho hg)
                      | fail)
                    go_roundg (m - (i + 1))
                    case rel =>
                      refine ⟨i + 1, A7, c7, _, se, sq, by omega, rfl, rfl, rfl, rfl, ?_, HN7.out, fun h => by omega, fun _ => HS1.out hip⟩
                      rw [show wrap64 ((i : Int) + 1) = ((i + 1 : Nat) : Int) from by have h1 := HLB.out; have h2 := HM.out; unfold RowKit.wrap64; omega]
                    case measure => have := HQ.out; omega
                  · have kd : (t3 != sq) = true := by simpa using cd
                    have HCd := Lib.hid cd
                    clear cd
                    have HE : Hid (S.slC (k : Int) = ChkS.zero ∧ S.slE (k : Int) = 10) := Lib.hid (HBAD.out (fun h => by
                      have h := pgB_iff.1 h
                      have ht := HT.out
                      have hs := HS1.out
                      exact HCd.out (ht.2.2.2.symm.trans (h.2.2.2.2.trans (hs (by omega)).2.symm))))
                    have d0 : w6.cell? ⟨rb, 0, none⟩ = some (.int .u32 0) := by rw [← HRB.out]; exact HZ6.out.r.cell 0 (by simp)
                    have e0 : w6.cell? ⟨nb, 0, none⟩ = some (.int .u32 0) := by rw [HNB2.out]; exact HZ6.out.z.cell 0 (by simp)
                    have d1 : w6.cell? ⟨rb, 1, none⟩ = some (.int .u32 0) := by rw [← HRB.out]; exact HZ6.out.r.cell 1 (by simp)
                    have e1 : w6.cell? ⟨nb, 1, none⟩ = some (.int .u32 0) := by rw [HNB2.out]; exact HZ6.out.z.cell 1 (by simp)
                    have d2 : w6.cell? ⟨rb, 2, none⟩ = some (.int .u32 0) := by rw [← HRB.out]; exact HZ6.out.r.cell 2 (by simp)
                    have e2 : w6.cell? ⟨nb, 2, none⟩ = some (.int .u32 0) := by rw [HNB2.out]; exact HZ6.out.z.cell 2 (by simp)
                    have d3 : w6.cell? ⟨rb, 3, none⟩ = some (.int .i64 0) := by rw [← HRB.out]; exact HZ6.out.r.cell 3 (by simp)
                    have e3 : w6.cell? ⟨nb, 3, none⟩ = some (.int .i64 0) := by rw [HNB2.out]; exact HZ6.out.z.cell 3 (by simp)
                    have d4 : w6.cell? ⟨rb, 4, none⟩ = some (.int .i64 0) := by rw [← HRB.out]; exact HZ6.out.r.cell 4 (by simp)
                    have e4 : w6.cell? ⟨nb, 4, none⟩ = some (.int .i64 0) := by rw [HNB2.out]; exact HZ6.out.z.cell 4 (by simp)
                    have d5 : w6.cell? ⟨rb, 5, none⟩ = some (.int .i64 0) := by rw [← HRB.out]; exact HZ6.out.r.cell 5 (by simp)
                    have e5 : w6.cell? ⟨nb, 5, none⟩ = some (.int .i64 0) := by rw [HNB2.out]; exact HZ6.out.z.cell 5 (by simp)
                    have d6 : w6.cell? ⟨rb, 6, none⟩ = some (.slice none 0 0) := by rw [← HRB.out]; exact HZ6.out.r.cell 6 (by simp)
                    have e6 : w6.cell? ⟨nb, 6, none⟩ = some (.slice none 0 0) := by rw [HNB2.out]; exact HZ6.out.z.cell 6 (by simp)
                    have df : ∀ k, w6.frozen? ⟨rb, k, none⟩ = false := fun k => by rw [← HRB.out]; exact HZ6.out.r.free k
                    obtain ⟨wD, hwD⟩ : ∃ u, (((((((w6.setCell ⟨rb, 0, none⟩ (.int .u32 0)).setCell ⟨rb, 1, none⟩ (.int .u32 0)).setCell ⟨rb, 2, none⟩ (.int .u32 0)).setCell ⟨rb, 3, none⟩ (.int .i64 0)).setCell ⟨rb, 4, none⟩ (.int .i64 0)).setCell ⟨rb, 5, none⟩ (.int .i64 0)).setCell ⟨rb, 6, none⟩ (.slice none 0 0)) = u := ⟨_, rfl⟩
                    have HD : Hid (RChkTold ChkS.zero 10 w (.returned (.tuple #[ckV ChkS.zero (.slice none 0 0), .int .i64 10])) wD ∧ Blk wD rb 46 zList) := Lib.hid (by
                      have h := HZ6.out.no 10 (.int .u32 0) (.int .u32 0) (.int .u32 0) (.int .i64 0) (.int .i64 0) (.int .i64 0) (.slice none 0 0)
                      have hb := (((((((HZ6.out.r.put 0 (.int .u32 0)).put 1 (.int .u32 0)).put 2 (.int .u32 0)).put 3 (.int .i64 0)).put 4 (.int .i64 0)).put 5 (.int .i64 0)).put 6 (.slice none 0 0))
                      rw [HRB.out, hwD] at h hb
                      exact ⟨h, hb⟩)
                    go_wp2_with fail
                    clear hwD
                    have q0 := HD.out.2.cell 0 (by simp)
                    have q1 := HD.out.2.cell 1 (by simp)
                    have q2 := HD.out.2.cell 2 (by simp)
                    have q3 := HD.out.2.cell 3 (by simp)
                    have q4 := HD.out.2.cell 4 (by simp)
                    have q5 := HD.out.2.cell 5 (by simp)
                    have q6 := HD.out.2.cell 6 (by simp)
                    simp only [List.getElem_cons_zero, List.getElem_cons_succ] at q0 q1 q2 q3 q4 q5 q6
                    refine bodyPost_ret (v := .tuple #[kV 0 0 0 0 0 0 (.slice none 0 0), .int .i64 10]) (by simp [results, Tryz.results19, go_sem, q0, q1, q2, q3, q4, q5, q6]) rfl ?_
                    rw [HE.out.1, HE.out.2]
                    exact RChkN.zero (by obtain ⟨_, _, _, h⟩ := HD.out.1; exact h)
                · have kc : (t1 != se) = true := by simpa using cc
                  have HCc := Lib.hid cc
                  clear cc
                  have HE : Hid (S.slC (k : Int) = ChkS.zero ∧ S.slE (k : Int) = 10) := Lib.hid (HBAD.out (fun h => by
                    have h := pgB_iff.1 h
                    have ht := HT.out
                    have hs := HS1.out
                    exact HCc.out (ht.2.1.symm.trans (h.2.2.2.1.trans (hs (by omega)).1.symm))))
                  have d0 : w6.cell? ⟨rb, 0, none⟩ = some (.int .u32 0) := by rw [← HRB.out]; exact HZ6.out.r.cell 0 (by simp)
                  have e0 : w6.cell? ⟨nb, 0, none⟩ = some (.int .u32 0) := by rw [HNB2.out]; exact HZ6.out.z.cell 0 (by simp)
                  have d1 : w6.cell? ⟨rb, 1, none⟩ = some (.int .u32 0) := by rw [← HRB.out]; exact HZ6.out.r.cell 1 (by simp)
                  have e1 : w6.cell? ⟨nb, 1, none⟩ = some (.int .u32 0) := by rw [HNB2.out]; exact HZ6.out.z.cell 1 (by simp)
                  have d2 : w6.cell? ⟨rb, 2, none⟩ = some (.int .u32 0) := by rw [← HRB.out]; exact HZ6.out.r.cell 2 (by simp)
                  have e2 : w6.cell? ⟨nb, 2, none⟩ = some (.int .u32 0) := by rw [HNB2.out]; exact HZ6.out.z.cell 2 (by simp)
                  have d3 : w6.cell? ⟨rb, 3, none⟩ = some (.int .i64 0) := by rw [← HRB.out]; exact HZ6.out.r.cell 3 (by simp)
                  have e3 : w6.cell? ⟨nb, 3, none⟩ = some (.int .i64 0) := by rw [HNB2.out]; exact HZ6.out.z.cell 3 (by simp)
                  have d4 : w6.cell? ⟨rb, 4, none⟩ = some (.int .i64 0) := by rw [← HRB.out]; exact HZ6.out.r.cell 4 (by simp)
                  have e4 : w6.cell? ⟨nb, 4, none⟩ = some (.int .i64 0) := by rw [HNB2.out]; exact HZ6.out.z.cell 4 (by simp)
                  have d5 : w6.cell? ⟨rb, 5, none⟩ = some (.int .i64 0) := by rw [← HRB.out]; exact HZ6.out.r.cell 5 (by simp)
                  have e5 : w6.cell? ⟨nb, 5, none⟩ = some (.int .i64 0) := by rw [HNB2.out]; exact HZ6.out.z.cell 5 (by simp)
                  have d6 : w6.cell? ⟨rb, 6, none⟩ = some (.slice none 0 0) := by rw [← HRB.out]; exact HZ6.out.r.cell 6 (by simp)
                  have e6 : w6.cell? ⟨nb, 6, none⟩ = some (.slice none 0 0) := by rw [HNB2.out]; exact HZ6.out.z.cell 6 (by simp)
                  have df : ∀ k, w6.frozen? ⟨rb, k, none⟩ = false := fun k => by rw [← HRB.out]; exact HZ6.out.r.free k
                  obtain ⟨wD, hwD⟩ : ∃ u, (((((((w6.setCell ⟨rb, 0, none⟩ (.int .u32 0)).setCell ⟨rb, 1, none⟩ (.int .u32 0)).setCell ⟨rb, 2, none⟩ (.int .u32 0)).setCell ⟨rb, 3, none⟩ (.int .i64 0)).setCell ⟨rb, 4, none⟩ (.int .i64 0)).setCell ⟨rb, 5, none⟩ (.int .i64 0)).setCell ⟨rb, 6, none⟩ (.slice none 0 0)) = u := ⟨_, rfl⟩
                  have HD : Hid (RChkTold ChkS.zero 10 w (.returned (.tuple #[ckV ChkS.zero (.slice none 0 0), .int .i64 10])) wD ∧ Blk wD rb 46 zList) := Lib.hid (by
                    have h := HZ6.out.no 10 (.int .u32 0) (.int .u32 0) (.int .u32 0) (.int .i64 0) (.int .i64 0) (.int .i64 0) (.slice none 0 0)
                    have hb := (((((((HZ6.out.r.put 0 (.int .u32 0)).put 1 (.int .u32 0)).put 2 (.int .u32 0)).put 3 (.int .i64 0)).put 4 (.int .i64 0)).put 5 (.int .i64 0)).put 6 (.slice none 0 0))
                    rw [HRB.out, hwD] at h hb
                    exact ⟨h, hb⟩)
                  go_wp2_with fail
                  clear hwD
                  have q0 := HD.out.2.cell 0 (by simp)
                  have q1 := HD.out.2.cell 1 (by simp)
                  have q2 := HD.out.2.cell 2 (by simp)
                  have q3 := HD.out.2.cell 3 (by simp)
                  have q4 := HD.out.2.cell 4 (by simp)
                  have q5 := HD.out.2.cell 5 (by simp)
                  have q6 := HD.out.2.cell 6 (by simp)
                  simp only [List.getElem_cons_zero, List.getElem_cons_succ] at q0 q1 q2 q3 q4 q5 q6
                  refine bodyPost_ret (v := .tuple #[kV 0 0 0 0 0 0 (.slice none 0 0), .int .i64 10]) (by simp [results, Tryz.results19, go_sem, q0, q1, q2, q3, q4, q5, q6]) rfl ?_
                  rw [HE.out.1, HE.out.2]
                  exact RChkN.zero (by obtain ⟨_, _, _, h⟩ := HD.out.1; exact h)
              · have kb : (t2 != (i : Int)) = true := by simpa using cb
                have HCb := Lib.hid cb
                clear cb
                have HE : Hid (S.slC (k : Int) = ChkS.zero ∧ S.slE (k : Int) = 10) := Lib.hid (HBAD.out (fun h => by
                  have h := pgB_iff.1 h
                  have ht := HT.out
                  have hs := HS1.out
                  exact HCb.out (ht.2.2.1.symm.trans h.2.2.1)))
                have d0 : w6.cell? ⟨rb, 0, none⟩ = some (.int .u32 0) := by rw [← HRB.out]; exact HZ6.out.r.cell 0 (by simp)
                have e0 : w6.cell? ⟨nb, 0, none⟩ = some (.int .u32 0) := by rw [HNB2.out]; exact HZ6.out.z.cell 0 (by simp)
                have d1 : w6.cell? ⟨rb, 1, none⟩ = some (.int .u32 0) := by rw [← HRB.out]; exact HZ6.out.r.cell 1 (by simp)
                have e1 : w6.cell? ⟨nb, 1, none⟩ = some (.int .u32 0) := by rw [HNB2.out]; exact HZ6.out.z.cell 1 (by simp)
                have d2 : w6.cell? ⟨rb, 2, none⟩ = some (.int .u32 0) := by rw [← HRB.out]; exact HZ6.out.r.cell 2 (by simp)
                have e2 : w6.cell? ⟨nb, 2, none⟩ = some (.int .u32 0) := by rw [HNB2.out]; exact HZ6.out.z.cell 2 (by simp)
                have d3 : w6.cell? ⟨rb, 3, none⟩ = some (.int .i64 0) := by rw [← HRB.out]; exact HZ6.out.r.cell 3 (by simp)
                have e3 : w6.cell? ⟨nb, 3, none⟩ = some (.int .i64 0) := by rw [HNB2.out]; exact HZ6.out.z.cell 3 (by simp)
                have d4 : w6.cell? ⟨rb, 4, none⟩ = some (.int .i64 0) := by rw [← HRB.out]; exact HZ6.out.r.cell 4 (by simp)
                have e4 : w6.cell? ⟨nb, 4, none⟩ = some (.int .i64 0) := by rw [HNB2.out]; exact HZ6.out.z.cell 4 (by simp)
                have d5 : w6.cell? ⟨rb, 5, none⟩ = some (.int .i64 0) := by rw [← HRB.out]; exact HZ6.out.r.cell 5 (by simp)
                have e5 : w6.cell? ⟨nb, 5, none⟩ = some (.int .i64 0) := by rw [HNB2.out]; exact HZ6.out.z.cell 5 (by simp)
                have d6 : w6.cell? ⟨rb, 6, none⟩ = some (.slice none 0 0) := by rw [← HRB.out]; exact HZ6.out.r.cell 6 (by simp)
                have e6 : w6.cell? ⟨nb, 6, none⟩ = some (.slice none 0 0) := by rw [HNB2.out]; exact HZ6.out.z.cell 6 (by simp)
                have df : ∀ k, w6.frozen? ⟨rb, k, none⟩ = false := fun k => by rw [← HRB.out]; exact HZ6.out.r.free k
                obtain ⟨wD, hwD⟩ : ∃ u, (((((((w6.setCell ⟨rb, 0, none⟩ (.int .u32 0)).setCell ⟨rb, 1, none⟩ (.int .u32 0)).setCell ⟨rb, 2, none⟩ (.int .u32 0)).setCell ⟨rb, 3, none⟩ (.int .i64 0)).setCell ⟨rb, 4, none⟩ (.int .i64 0)).setCell ⟨rb, 5, none⟩ (.int .i64 0)).setCell ⟨rb, 6, none⟩ (.slice none 0 0)) = u := ⟨_, rfl⟩
                have HD : Hid (RChkTold ChkS.zero 10 w (.returned (.tuple #[ckV ChkS.zero (.slice none 0 0), .int .i64 10])) wD ∧ Blk wD rb 46 zList) := Lib.hid (by
                  have h := HZ6.out.no 10 (.int .u32 0) (.int .u32 0) (.int .u32 0) (.int .i64 0) (.int .i64 0) (.int .i64 0) (.slice none 0 0)
                  have hb := (((((((HZ6.out.r.put 0 (.int .u32 0)).put 1 (.int .u32 0)).put 2 (.int .u32 0)).put 3 (.int .i64 0)).put 4 (.int .i64 0)).put 5 (.int .i64 0)).put 6 (.slice none 0 0))
                  rw [HRB.out, hwD] at h hb
                  exact ⟨h, hb⟩)
                go_wp2_with fail
                clear hwD
                have q0 := HD.out.2.cell 0 (by simp)
                have q1 := HD.out.2.cell 1 (by simp)
                have q2 := HD.out.2.cell 2 (by simp)
                have q3 := HD.out.2.cell 3 (by simp)
                have q4 := HD.out.2.cell 4 (by simp)
                have q5 := HD.out.2.cell 5 (by simp)
                have q6 := HD.out.2.cell 6 (by simp)
                simp only [List.getElem_cons_zero, List.getElem_cons_succ] at q0 q1 q2 q3 q4 q5 q6
                refine bodyPost_ret (v := .tuple #[kV 0 0 0 0 0 0 (.slice none 0 0), .int .i64 10]) (by simp [results, Tryz.results19, go_sem, q0, q1, q2, q3, q4, q5, q6]) rfl ?_
                rw [HE.out.1, HE.out.2]
                exact RChkN.zero (by obtain ⟨_, _, _, h⟩ := HD.out.1; exact h)
            · have ka : (t0 != 5) = true := by simpa using ca
              have HCa := Lib.hid ca
              clear ca
              have HE : Hid (S.slC (k : Int) = ChkS.zero ∧ S.slE (k : Int) = 10) := Lib.hid (HBAD.out (fun h => by
                have h := pgB_iff.1 h
                have ht := HT.out
                have hs := HS1.out
                exact HCa.out (ht.1.symm.trans h.2.1)))
              have d0 : w6.cell? ⟨rb, 0, none⟩ = some (.int .u32 0) := by rw [← HRB.out]; exact HZ6.out.r.cell 0 (by simp)
              have e0 : w6.cell? ⟨nb, 0, none⟩ = some (.int .u32 0) := by rw [HNB2.out]; exact HZ6.out.z.cell 0 (by simp)
              have d1 : w6.cell? ⟨rb, 1, none⟩ = some (.int .u32 0) := by rw [← HRB.out]; exact HZ6.out.r.cell 1 (by simp)
              have e1 : w6.cell? ⟨nb, 1, none⟩ = some (.int .u32 0) := by rw [HNB2.out]; exact HZ6.out.z.cell 1 (by simp)
              have d2 : w6.cell? ⟨rb, 2, none⟩ = some (.int .u32 0) := by rw [← HRB.out]; exact HZ6.out.r.cell 2 (by simp)
              have e2 : w6.cell? ⟨nb, 2, none⟩ = some (.int .u32 0) := by rw [HNB2.out]; exact HZ6.out.z.cell 2 (by simp)
              have d3 : w6.cell? ⟨rb, 3, none⟩ = some (.int .i64 0) := by rw [← HRB.out]; exact HZ6.out.r.cell 3 (by simp)
              have e3 : w6.cell? ⟨nb, 3, none⟩ = some (.int .i64 0) := by rw [HNB2.out]; exact HZ6.out.z.cell 3 (by simp)
              have d4 : w6.cell? ⟨rb, 4, none⟩ = some (.int .i64 0) := by rw [← HRB.out]; exact HZ6.out.r.cell 4 (by simp)
              have e4 : w6.cell? ⟨nb, 4, none⟩ = some (.int .i64 0) := by rw [HNB2.out]; exact HZ6.out.z.cell 4 (by simp)
              have d5 : w6.cell? ⟨rb, 5, none⟩ = some (.int .i64 0) := by rw [← HRB.out]; exact HZ6.out.r.cell 5 (by simp)
              have e5 : w6.cell? ⟨nb, 5, none⟩ = some (.int .i64 0) := by rw [HNB2.out]; exact HZ6.out.z.cell 5 (by simp)
              have d6 : w6.cell? ⟨rb, 6, none⟩ = some (.slice none 0 0) := by rw [← HRB.out]; exact HZ6.out.r.cell 6 (by simp)
              have e6 : w6.cell? ⟨nb, 6, none⟩ = some (.slice none 0 0) := by rw [HNB2.out]; exact HZ6.out.z.cell 6 (by simp)
              have df : ∀ k, w6.frozen? ⟨rb, k, none⟩ = false := fun k => by rw [← HRB.out]; exact HZ6.out.r.free k
              obtain ⟨wD, hwD⟩ : ∃ u, (((((((w6.setCell ⟨rb, 0, none⟩ (.int .u32 0)).setCell ⟨rb, 1, none⟩ (.int .u32 0)).setCell ⟨rb, 2, none⟩ (.int .u32 0)).setCell ⟨rb, 3, none⟩ (.int .i64 0)).setCell ⟨rb, 4, none⟩ (.int .i64 0)).setCell ⟨rb, 5, none⟩ (.int .i64 0)).setCell ⟨rb, 6, none⟩ (.slice none 0 0)) = u := ⟨_, rfl⟩
              have HD : Hid (RChkTold ChkS.zero 10 w (.returned (.tuple #[ckV ChkS.zero (.slice none 0 0), .int .i64 10])) wD ∧ Blk wD rb 46 zList) := Lib.hid (by
                have h := HZ6.out.no 10 (.int .u32 0) (.int .u32 0) (.int .u32 0) (.int .i64 0) (.int .i64 0) (.int .i64 0) (.slice none 0 0)
                have hb := (((((((HZ6.out.r.put 0 (.int .u32 0)).put 1 (.int .u32 0)).put 2 (.int .u32 0)).put 3 (.int .i64 0)).put 4 (.int .i64 0)).put 5 (.int .i64 0)).put 6 (.slice none 0 0))
                rw [HRB.out, hwD] at h hb
                exact ⟨h, hb⟩)
              go_wp2_with fail
              clear hwD
              have q0 := HD.out.2.cell 0 (by simp)
              have q1 := HD.out.2.cell 1 (by simp)
              have q2 := HD.out.2.cell 2 (by simp)
              have q3 := HD.out.2.cell 3 (by simp)
              have q4 := HD.out.2.cell 4 (by simp)
              have q5 := HD.out.2.cell 5 (by simp)
              have q6 := HD.out.2.cell 6 (by simp)
              simp only [List.getElem_cons_zero, List.getElem_cons_succ] at q0 q1 q2 q3 q4 q5 q6
              refine bodyPost_ret (v := .tuple #[kV 0 0 0 0 0 0 (.slice none 0 0), .int .i64 10]) (by simp [results, Tryz.results19, go_sem, q0, q1, q2, q3, q4, q5, q6]) rfl ?_
              rw [HE.out.1, HE.out.2]
              exact RChkN.zero (by obtain ⟨_, _, _, h⟩ := HD.out.1; exact h)
        · have HPE := Lib.hid pe
          obtain ⟨te, hte⟩ : ∃ x, pgE pg = x := ⟨_, rfl⟩
          rw [hte] at pe
          rw [hte]
          have kte : (te != 0) = true := by simpa using pe
          obtain ⟨w6, hw6⟩ : ∃ u, w5.alloc (.cells #[.int .u8 0, .int .u32 0, .int .u32 0, .int .u32 0] 97) = u := ⟨_, rfl⟩
          have hb6 : Below w5.heap.size w5 w6 := by rw [← hw6]; exact (Below.refl _ _).alloc (Nat.le_refl _) _
          have hx6 : Blk w6 w5.heap.size 97 [.int .u8 0, .int .u32 0, .int .u32 0, .int .u32 0] := by rw [← hw6]; exact heap_alloc_new w5 _
          obtain ⟨xb, hxb⟩ : ∃ x, w5.heap.size = x := ⟨_, rfl⟩
          rw [hxb] at hx6
          obtain ⟨w7, hw7⟩ : ∃ u, ((((w6.setCell ⟨xb, 0, none⟩ (.int .u8 0)).setCell ⟨xb, 1, none⟩ (.int .u32 0)).setCell ⟨xb, 2, none⟩ (.int .u32 0)).setCell ⟨xb, 3, none⟩ (.int .u32 0)) = u := ⟨_, rfl⟩
          have k7 := (((((Kept.refl (fun j => j = xb) w6).put (g := xb) (.inl rfl) 0 (.int .u8 0)).put (g := xb) (.inl rfl) 1 (.int .u32 0)).put (g := xb) (.inl rfl) 2 (.int .u32 0)).put (g := xb) (.inl rfl) 3 (.int .u32 0))
          have hx7 := ((((hx6.put 0 (.int .u8 0)).put 1 (.int .u32 0)).put 2 (.int .u32 0)).put 3 (.int .u32 0))
          rw [hw7] at k7 hx7
          have HZ6 := Lib.hid (HZR.out.up (wbelow hb (hb6.trans (k7.below hb6.size (fun j e => by omega)))))
          have n0 := hx6.cell 0 (by simp)
          have n1 := hx6.cell 1 (by simp)
          have n2 := hx6.cell 2 (by simp)
          have n3 := hx6.cell 3 (by simp)
          simp only [List.getElem_cons_zero, List.getElem_cons_succ] at n0 n1 n2 n3
          have nf := fun j => hx6.free j
          have x1 := hx7.cell 1 (by simp)
          have x3 := hx7.cell 3 (by simp)
          simp only [List.set_cons_zero, List.set_cons_succ, List.getElem_cons_zero, List.getElem_cons_succ] at x1 x3
          clear hte hb hb6 hx6 hx7 k7 pe
          have HE : Hid (S.slC (k : Int) = ChkS.zero ∧ S.slE (k : Int) = 10) := Lib.hid (HBAD.out (fun h => HPE.out (pgB_iff.1 h).1))
          by_cases hi0 : i = 0
          · subst hi0
            have d0 : w7.cell? ⟨rb, 0, none⟩ = some (.int .u32 0) := by rw [← HRB.out]; exact HZ6.out.r.cell 0 (by simp)
            have e0 : w7.cell? ⟨nb, 0, none⟩ = some (.int .u32 0) := by rw [HNB2.out]; exact HZ6.out.z.cell 0 (by simp)
            have d1 : w7.cell? ⟨rb, 1, none⟩ = some (.int .u32 0) := by rw [← HRB.out]; exact HZ6.out.r.cell 1 (by simp)
            have e1 : w7.cell? ⟨nb, 1, none⟩ = some (.int .u32 0) := by rw [HNB2.out]; exact HZ6.out.z.cell 1 (by simp)
            have d2 : w7.cell? ⟨rb, 2, none⟩ = some (.int .u32 0) := by rw [← HRB.out]; exact HZ6.out.r.cell 2 (by simp)
            have e2 : w7.cell? ⟨nb, 2, none⟩ = some (.int .u32 0) := by rw [HNB2.out]; exact HZ6.out.z.cell 2 (by simp)
            have d3 : w7.cell? ⟨rb, 3, none⟩ = some (.int .i64 0) := by rw [← HRB.out]; exact HZ6.out.r.cell 3 (by simp)
            have e3 : w7.cell? ⟨nb, 3, none⟩ = some (.int .i64 0) := by rw [HNB2.out]; exact HZ6.out.z.cell 3 (by simp)
            have d4 : w7.cell? ⟨rb, 4, none⟩ = some (.int .i64 0) := by rw [← HRB.out]; exact HZ6.out.r.cell 4 (by simp)
            have e4 : w7.cell? ⟨nb, 4, none⟩ = some (.int .i64 0) := by rw [HNB2.out]; exact HZ6.out.z.cell 4 (by simp)
            have d5 : w7.cell? ⟨rb, 5, none⟩ = some (.int .i64 0) := by rw [← HRB.out]; exact HZ6.out.r.cell 5 (by simp)
            have e5 : w7.cell? ⟨nb, 5, none⟩ = some (.int .i64 0) := by rw [HNB2.out]; exact HZ6.out.z.cell 5 (by simp)
            have d6 : w7.cell? ⟨rb, 6, none⟩ = some (.slice none 0 0) := by rw [← HRB.out]; exact HZ6.out.r.cell 6 (by simp)
            have e6 : w7.cell? ⟨nb, 6, none⟩ = some (.slice none 0 0) := by rw [HNB2.out]; exact HZ6.out.z.cell 6 (by simp)
            have df : ∀ k, w7.frozen? ⟨rb, k, none⟩ = false := fun k => by rw [← HRB.out]; exact HZ6.out.r.free k
            obtain ⟨wD, hwD⟩ : ∃ u, (((((((w7.setCell ⟨rb, 0, none⟩ (.int .u32 0)).setCell ⟨rb, 1, none⟩ (.int .u32 0)).setCell ⟨rb, 2, none⟩ (.int .u32 0)).setCell ⟨rb, 3, none⟩ (.int .i64 0)).setCell ⟨rb, 4, none⟩ (.int .i64 0)).setCell ⟨rb, 5, none⟩ (.int .i64 0)).setCell ⟨rb, 6, none⟩ (.slice none 0 0)) = u := ⟨_, rfl⟩
            have HD : Hid (RChkTold ChkS.zero 10 w (.returned (.tuple #[ckV ChkS.zero (.slice none 0 0), .int .i64 10])) wD ∧ Blk wD rb 46 zList) := Lib.hid (by
              have h := HZ6.out.no 10 (.int .u32 0) (.int .u32 0) (.int .u32 0) (.int .i64 0) (.int .i64 0) (.int .i64 0) (.slice none 0 0)
              have hb := (((((((HZ6.out.r.put 0 (.int .u32 0)).put 1 (.int .u32 0)).put 2 (.int .u32 0)).put 3 (.int .i64 0)).put 4 (.int .i64 0)).put 5 (.int .i64 0)).put 6 (.slice none 0 0))
              rw [HRB.out, hwD] at h hb
              exact ⟨h, hb⟩)
            go_wp2_with fail
            clear hwD
            have q0 := HD.out.2.cell 0 (by simp)
            have q1 := HD.out.2.cell 1 (by simp)
            have q2 := HD.out.2.cell 2 (by simp)
            have q3 := HD.out.2.cell 3 (by simp)
            have q4 := HD.out.2.cell 4 (by simp)
            have q5 := HD.out.2.cell 5 (by simp)
            have q6 := HD.out.2.cell 6 (by simp)
            simp only [List.getElem_cons_zero, List.getElem_cons_succ] at q0 q1 q2 q3 q4 q5 q6
            refine bodyPost_ret (v := .tuple #[kV 0 0 0 0 0 0 (.slice none 0 0), .int .i64 10]) (by simp [results, Tryz.results19, go_sem, q0, q1, q2, q3, q4, q5, q6]) rfl ?_
            rw [HE.out.1, HE.out.2]
            exact RChkN.zero (by obtain ⟨_, _, _, h⟩ := HD.out.1; exact h)
          · have hip : 0 < i := by omega
            have d0 : w7.cell? ⟨rb, 0, none⟩ = some (.int .u32 0) := by rw [← HRB.out]; exact HZ6.out.r.cell 0 (by simp)
            have e0 : w7.cell? ⟨nb, 0, none⟩ = some (.int .u32 0) := by rw [HNB2.out]; exact HZ6.out.z.cell 0 (by simp)
            have d1 : w7.cell? ⟨rb, 1, none⟩ = some (.int .u32 0) := by rw [← HRB.out]; exact HZ6.out.r.cell 1 (by simp)
            have e1 : w7.cell? ⟨nb, 1, none⟩ = some (.int .u32 0) := by rw [HNB2.out]; exact HZ6.out.z.cell 1 (by simp)
            have d2 : w7.cell? ⟨rb, 2, none⟩ = some (.int .u32 0) := by rw [← HRB.out]; exact HZ6.out.r.cell 2 (by simp)
            have e2 : w7.cell? ⟨nb, 2, none⟩ = some (.int .u32 0) := by rw [HNB2.out]; exact HZ6.out.z.cell 2 (by simp)
            have d3 : w7.cell? ⟨rb, 3, none⟩ = some (.int .i64 0) := by rw [← HRB.out]; exact HZ6.out.r.cell 3 (by simp)
            have e3 : w7.cell? ⟨nb, 3, none⟩ = some (.int .i64 0) := by rw [HNB2.out]; exact HZ6.out.z.cell 3 (by simp)
            have d4 : w7.cell? ⟨rb, 4, none⟩ = some (.int .i64 0) := by rw [← HRB.out]; exact HZ6.out.r.cell 4 (by simp)
            have e4 : w7.cell? ⟨nb, 4, none⟩ = some (.int .i64 0) := by rw [HNB2.out]; exact HZ6.out.z.cell 4 (by simp)
            have d5 : w7.cell? ⟨rb, 5, none⟩ = some (.int .i64 0) := by rw [← HRB.out]; exact HZ6.out.r.cell 5 (by simp)
            have e5 : w7.cell? ⟨nb, 5, none⟩ = some (.int .i64 0) := by rw [HNB2.out]; exact HZ6.out.z.cell 5 (by simp)
            have d6 : w7.cell? ⟨rb, 6, none⟩ = some (.slice none 0 0) := by rw [← HRB.out]; exact HZ6.out.r.cell 6 (by simp)
            have e6 : w7.cell? ⟨nb, 6, none⟩ = some (.slice none 0 0) := by rw [HNB2.out]; exact HZ6.out.z.cell 6 (by simp)
            have df : ∀ k, w7.frozen? ⟨rb, k, none⟩ = false := fun k => by rw [← HRB.out]; exact HZ6.out.r.free k
            obtain ⟨wD, hwD⟩ : ∃ u, (((((((w7.setCell ⟨rb, 0, none⟩ (.int .u32 0)).setCell ⟨rb, 1, none⟩ (.int .u32 0)).setCell ⟨rb, 2, none⟩ (.int .u32 0)).setCell ⟨rb, 3, none⟩ (.int .i64 0)).setCell ⟨rb, 4, none⟩ (.int .i64 0)).setCell ⟨rb, 5, none⟩ (.int .i64 0)).setCell ⟨rb, 6, none⟩ (.slice none 0 0)) = u := ⟨_, rfl⟩
            have HD : Hid (RChkTold ChkS.zero 10 w (.returned (.tuple #[ckV ChkS.zero (.slice none 0 0), .int .i64 10])) wD ∧ Blk wD rb 46 zList) := Lib.hid (by
              have h := HZ6.out.no 10 (.int .u32 0) (.int .u32 0) (.int .u32 0) (.int .i64 0) (.int .i64 0) (.int .i64 0) (.slice none 0 0)
              have hb := (((((((HZ6.out.r.put 0 (.int .u32 0)).put 1 (.int .u32 0)).put 2 (.int .u32 0)).put 3 (.int .i64 0)).put 4 (.int .i64 0)).put 5 (.int .i64 0)).put 6 (.slice none 0 0))
              rw [HRB.out, hwD] at h hb
              exact ⟨h, hb⟩)
            go_wp2_with fail
            clear hwD
            have q0 := HD.out.2.cell 0 (by simp)
            have q1 := HD.out.2.cell 1 (by simp)
            have q2 := HD.out.2.cell 2 (by simp)
            have q3 := HD.out.2.cell 3 (by simp)
            have q4 := HD.out.2.cell 4 (by simp)
            have q5 := HD.out.2.cell 5 (by simp)
            have q6 := HD.out.2.cell 6 (by simp)
            simp only [List.getElem_cons_zero, List.getElem_cons_succ] at q0 q1 q2 q3 q4 q5 q6
            refine bodyPost_ret (v := .tuple #[kV 0 0 0 0 0 0 (.slice none 0 0), .int .i64 10]) (by simp [results, Tryz.results19, go_sem, q0, q1, q2, q3, q4, q5, q6]) rfl ?_
            rw [HE.out.1, HE.out.2]
            exact RChkN.zero (by obtain ⟨_, _, _, h⟩ := HD.out.1; exact h)
      · have him : i = m := by omega
        subst him
        have HFIN : Hid (pagesOk l = true ∧ RdR wr vs (blk17 l)) := Lib.hid (by
          have h := HAC.out
          rw [← HM.out] at h
          exact h.fin)
        obtain ⟨A', c', he, hcc, hrd, _, _⟩ := HAC.out.row.out
        rw [HAC.out.len] at he hcc
        injection he with he1 _ he3
        subst he1 he3
        have HRDV := Lib.hid hrd
        have HBLK : Hid ((blk17 l).length = i) := Lib.hid (by rw [← HM.out]; simp [blk17])
        have HBYT : Hid (∀ x ∈ blk17 l, Byt x) := Lib.hid (fun x hx => by
          obtain ⟨y, hy, rfl⟩ := List.mem_map.1 hx
          refine Byt.drop ?_ 17
          exact zone_byt HH.out.wf (k : Int) y (by rw [HLL.out]; exact hy))
        have HWR : Hid (w.heap.size < wr.heap.size) := Lib.hid (lt_of_block HZR.out.r)
        have hi16 : i ≤ 10000 := by have := HLB.out; have := HM.out; omega
        have HPW := Lib.hid HH.out.wf.p1
        clear hrd hcc
        go_wp2_with fail
        refine (rkread_n HBLK.out HRDV.out HFIN.out.2 HBYT.out hi16).mono ?_
        rintro r w5 ⟨sv, rfl, hsv, hb⟩
        obtain ⟨x0, hx0⟩ : ∃ x, rdN (blk17 l) 0 = x := ⟨_, rfl⟩
        obtain ⟨x1, hx1⟩ : ∃ x, rdN (blk17 l) 1 = x := ⟨_, rfl⟩
        obtain ⟨x2, hx2⟩ : ∃ x, rdN (blk17 l) 2 = x := ⟨_, rfl⟩
        obtain ⟨x3, hx3⟩ : ∃ x, rdN (blk17 l) 3 = x := ⟨_, rfl⟩
        obtain ⟨x4, hx4⟩ : ∃ x, rdN (blk17 l) 4 = x := ⟨_, rfl⟩
        obtain ⟨x5, hx5⟩ : ∃ x, rdN (blk17 l) 5 = x := ⟨_, rfl⟩
        obtain ⟨dd, hdd⟩ : ∃ x, rdD (blk17 l) = x := ⟨_, rfl⟩
        obtain ⟨ge, hge⟩ : ∃ x, readGE (blk17 l) = x := ⟨_, rfl⟩
        rw [hx0, hx1, hx2, hx3, hx4, hx5, hge]
        rw [hdd] at hsv
        have HXS := Lib.hid (And.intro hx0 (And.intro hx1 (And.intro hx2 (And.intro hx3 (And.intro hx4 (And.intro hx5 (And.intro hdd hge)))))))
        have HSV := Lib.hid hsv
        obtain ⟨A2, c2, rfl, _⟩ := hsv
        obtain ⟨n2, hn2⟩ : ∃ x, (u32s dd).length = x := ⟨_, rfl⟩
        rw [hn2] at HSV ⊢
        obtain ⟨w6, hw6⟩ : ∃ u, w5.alloc (.cells #[.int .u32 x0, .int .u32 x1, .int .u32 x2, .int .i64 x3, .int .i64 x4, .int .i64 x5, .slice A2 n2 c2] 46) = u := ⟨_, rfl⟩
        have hb6 : Below w5.heap.size w5 w6 := by rw [← hw6]; exact (Below.refl _ _).alloc (Nat.le_refl _) _
        obtain ⟨CB, hCB⟩ : ∃ x, w5.heap.size = x := ⟨_, rfl⟩
        have HX6 : Hid (Blk w6 CB 46 [.int .u32 x0, .int .u32 x1, .int .u32 x2, .int .i64 x3, .int .i64 x4, .int .i64 x5, .slice A2 n2 c2]) := Lib.hid (by rw [← hw6, ← hCB]; exact heap_alloc_new w5 _)
        have HZ6 := Lib.hid (HZR.out.up (wbelow hb hb6))
        have HD6 := Lib.hid (HR.out.up (wbelow hb hb6))
        have HSV6 : Hid (RowF (newB wr w5) w6 (.slice A2 n2 c2) (u32s dd)) := Lib.hid (HSV.out.up hb6)
        have HS56 : Hid (w5.heap.size ≤ w6.heap.size) := Lib.hid hb6.size
        have HSLB : Hid (S.slotB (k : Int) = true) := Lib.hid (by
          unfold DevS.slotB
          rw [HN.out]
          have := HKN.out
          simp
          omega)
        have HBADH : Hid (holdB S.zones.length S.P (k : Int) l = false → S.slC (k : Int) = ChkS.zero ∧ S.slE (k : Int) = 10) := Lib.hid (fun h => slot_ten HG.out HSLB.out (by rw [HLL.out]; exact h))
        obtain ⟨P, hP⟩ : ∃ P, S.P = P := ⟨_, rfl⟩
        have lc := lt_of_block HX6.out
        have ld := lt_of_block HD6.out.dev
        clear c0
        have c0 := HX6.out.cell 0 (by simp)
        have c1 := HX6.out.cell 1 (by simp)
        have c3 := HX6.out.cell 3 (by simp)
        have c4 := HX6.out.cell 4 (by simp)
        have cd0 := HD6.out.dev.cell 0 (by simp)
        have cd1 := HD6.out.dev.cell 1 (by simp)
        simp only [List.getElem_cons_zero, List.getElem_cons_succ] at c0 c1 c3 c4 cd0 cd1
        rw [HN.out] at cd0
        rw [hP] at cd1
        clear hx0 hx1 hx2 hx3 hx4 hx5 hdd hge hb hb6 hn2 HZR HR HAC HSV y0
        by_cases hge0 : ge = 0
        · have q0 : (ge != 0) = false := by simpa using hge0
          have HNU : Hid (∀ i, rdN (blk17 l) i = numAt (blk17 l).flatten i) := Lib.hid (fun i => by unfold rdN; rw [if_pos (HXS.out.2.2.2.2.2.2.2.trans hge0)])
          have HL2 : Hid (0 < i) := Lib.hid (by
            have h := readGE_two (HXS.out.2.2.2.2.2.2.2.trans hge0)
            rw [HBLK.out] at h
            omega)
          have HSQ := Lib.hid (HS1.out HL2.out)
          have hsq0 : x0 = sq → 0 ≤ sq ∧ sq ≤ 4294967295 := fun e => by
            have h := numAt_word (xs := (blk17 l).flatten) 0 (fun y hy => by
              obtain ⟨x, hx, hy⟩ := List.mem_flatten.1 hy
              exact HBYT.out x hx y hy)
            rw [← HNU.out, HXS.out.1, e] at h
            exact h
          obtain ⟨wv, hwv⟩ : ∃ x, whereN n sq = x := ⟨_, rfl⟩
          have HCO : Hid (holdB S.zones.length S.P (k : Int) l = (decide (x0 = sq) && (decide (x1 = se) && (decide (x3 = (n : Int)) && (decide (x4 = (P : Int)) && decide (whereN n x0 = (k : Int))))))) := Lib.hid (by
            obtain ⟨h0, h1, h2, h3, h4, h5, h6, h7⟩ := HXS.out
            rw [HNU.out] at h0 h1 h2 h3 h4 h5
            unfold holdB chkOf
            simp only
            rw [HFIN.out.1, h7, hge0, h0, h1, h3, h4, ← HSQ.out.1, ← HSQ.out.2, HN.out, hP, decide_eq_true (rfl : (0 : Int) = 0), Bool.true_and, Bool.true_and])
          by_cases j1 : x0 = sq
          · have q1 : (x0 != sq) = false := by simpa using j1
            have HJ1 := Lib.hid j1
            have hsq := hsq0 HJ1.out
            clear j1
            by_cases j2 : x1 = se
            · have q2 : (x1 != se) = false := by simpa using j2
              have HJ2 := Lib.hid j2
              clear j2
              by_cases j3 : x3 = (n : Int)
              · have q3 : (x3 != (n : Int)) = false := by simpa using j3
                have HJ3 := Lib.hid j3
                clear j3
                by_cases j4 : x4 = (P : Int)
                · have q4 : (x4 != (P : Int)) = false := by simpa using j4
                  have HJ4 := Lib.hid j4
                  clear j4
                  by_cases j5 : wv = (k : Int)
                  · have q5 : (wv != (k : Int)) = false := by simpa using j5
                    have HJ5 := Lib.hid j5
                    clear j5
                    go_wp2_with fail
                    refine wp_region_in (fun u => Below w6.heap.size w6 u) (Below.refl _ _).drew (by kernel_rfl) (by kernel_rfl) (fun ne => ?_)
                    have rc0 := fun q : In (fun u => Below w6.heap.size w6 u) => (q.ok.cell (p := ⟨CB, 0, none⟩) lc).trans c0
                    have rc1 := fun q : In (fun u => Below w6.heap.size w6 u) => (q.ok.cell (p := ⟨CB, 1, none⟩) lc).trans c1
                    have rc3 := fun q : In (fun u => Below w6.heap.size w6 u) => (q.ok.cell (p := ⟨CB, 3, none⟩) lc).trans c3
                    have rc4 := fun q : In (fun u => Below w6.heap.size w6 u) => (q.ok.cell (p := ⟨CB, 4, none⟩) lc).trans c4
                    have rd0 := fun q : In (fun u => Below w6.heap.size w6 u) => (q.ok.cell (p := ⟨db, 0, none⟩) ld).trans cd0
                    have rd1 := fun q : In (fun u => Below w6.heap.size w6 u) => (q.ok.cell (p := ⟨db, 1, none⟩) ld).trans cd1
                    have wD := fun q : In (fun u => Below w6.heap.size w6 u) => rswhere_at sq (HD6.out.up q.ok) (by have := HKN.out.2.2; have := HN.out; omega) hsq.1 hsq.2
                    rw [HN.out, hwv] at wD
                    repeat (go_big_quiet_step (first | (go_at_call 24; with_reducible exact In.same (wD _))))
                    refine wpQuiet_nil ?_
                    intro nq
                    obtain ⟨wN, hwN⟩ : ∃ x, nq.w = x := ⟨_, rfl⟩
                    have HBN := Lib.hid nq.ok
                    rw [hwN] at HBN ⊢
                    have HZN := Lib.hid (HZ6.out.up HBN.out)
                    clear rc0 rc1 rc3 rc4 rd0 rd1 wD hwN nq
                    have HXN := Lib.hid (HX6.out.up HBN.out (lt_of_block HX6.out))
                    have HSN := Lib.hid (HSV6.out.up HBN.out)
                    have y0 := HXN.out.cell 0 (by simp)
                    have y1 := HXN.out.cell 1 (by simp)
                    have y2 := HXN.out.cell 2 (by simp)
                    have y3 := HXN.out.cell 3 (by simp)
                    have y4 := HXN.out.cell 4 (by simp)
                    have y5 := HXN.out.cell 5 (by simp)
                    have y6 := HXN.out.cell 6 (by simp)
                    simp only [List.getElem_cons_zero, List.getElem_cons_succ] at y0 y1 y2 y3 y4 y5 y6
                    have d0 : wN.cell? ⟨rb, 0, none⟩ = some (.int .u32 0) := by rw [← HRB.out]; exact HZN.out.r.cell 0 (by simp)
                    have e0 : wN.cell? ⟨nb, 0, none⟩ = some (.int .u32 0) := by rw [HNB2.out]; exact HZN.out.z.cell 0 (by simp)
                    have d1 : wN.cell? ⟨rb, 1, none⟩ = some (.int .u32 0) := by rw [← HRB.out]; exact HZN.out.r.cell 1 (by simp)
                    have e1 : wN.cell? ⟨nb, 1, none⟩ = some (.int .u32 0) := by rw [HNB2.out]; exact HZN.out.z.cell 1 (by simp)
                    have d2 : wN.cell? ⟨rb, 2, none⟩ = some (.int .u32 0) := by rw [← HRB.out]; exact HZN.out.r.cell 2 (by simp)
                    have e2 : wN.cell? ⟨nb, 2, none⟩ = some (.int .u32 0) := by rw [HNB2.out]; exact HZN.out.z.cell 2 (by simp)
                    have d3 : wN.cell? ⟨rb, 3, none⟩ = some (.int .i64 0) := by rw [← HRB.out]; exact HZN.out.r.cell 3 (by simp)
                    have e3 : wN.cell? ⟨nb, 3, none⟩ = some (.int .i64 0) := by rw [HNB2.out]; exact HZN.out.z.cell 3 (by simp)
                    have d4 : wN.cell? ⟨rb, 4, none⟩ = some (.int .i64 0) := by rw [← HRB.out]; exact HZN.out.r.cell 4 (by simp)
                    have e4 : wN.cell? ⟨nb, 4, none⟩ = some (.int .i64 0) := by rw [HNB2.out]; exact HZN.out.z.cell 4 (by simp)
                    have d5 : wN.cell? ⟨rb, 5, none⟩ = some (.int .i64 0) := by rw [← HRB.out]; exact HZN.out.r.cell 5 (by simp)
                    have e5 : wN.cell? ⟨nb, 5, none⟩ = some (.int .i64 0) := by rw [HNB2.out]; exact HZN.out.z.cell 5 (by simp)
                    have d6 : wN.cell? ⟨rb, 6, none⟩ = some (.slice none 0 0) := by rw [← HRB.out]; exact HZN.out.r.cell 6 (by simp)
                    have e6 : wN.cell? ⟨nb, 6, none⟩ = some (.slice none 0 0) := by rw [HNB2.out]; exact HZN.out.z.cell 6 (by simp)
                    have df : ∀ k, wN.frozen? ⟨rb, k, none⟩ = false := fun k => by rw [← HRB.out]; exact HZN.out.r.free k
                    have HBO : Hid (holdB S.zones.length S.P (k : Int) l = true) := Lib.hid (by
                      rw [HCO.out, HJ1.out, HJ2.out, HJ3.out, HJ4.out, hwv, HJ5.out]
                      simp)
                    have HE : Hid (S.slE (k : Int) = 0 ∧ S.slC (k : Int) = ⟨x0, x1, x2, x3, x4, x5, dd⟩) := Lib.hid (by
                      have h1 : S.slE (k : Int) = 0 := by
                        unfold DevS.slE
                        rw [if_neg (by rw [HG.out]; decide), if_neg (by rw [HSLB.out]; decide), HLL.out, if_pos HBO.out]
                      refine ⟨h1, ?_⟩
                      unfold DevS.slC
                      rw [if_pos h1, HLL.out]
                      obtain ⟨h0, h1, h2, h3, h4, h5, h6, h7⟩ := HXS.out
                      rw [HNU.out] at h0 h1 h2 h3 h4 h5
                      unfold rdD at h6
                      rw [if_pos (h7.trans hge0)] at h6
                      unfold chkOf
                      rw [h0, h1, h2, h3, h4, h5, h6])
                    have HB7 := Lib.hid (below_seven HZN.out.old (Nat.le_refl _) (.int .u32 x0) (.int .u32 x1) (.int .u32 x2) (.int .i64 x3) (.int .i64 x4) (.int .i64 x5) (.slice A2 n2 c2))
                    have HS7 := Lib.hid ((HSN.out.keep (kept_seven wN w.heap.size (.int .u32 x0) (.int .u32 x1) (.int .u32 x2) (.int .i64 x3) (.int .i64 x4) (.int .i64 x5) (.slice A2 n2 c2)) (fun j h e => by
                      have := h.1
                      have := HWR.out
                      omega)).mono (G := fun j => w.heap.size ≤ j ∧ j < wN.heap.size) (fun j h => ⟨by have := h.1; have := HWR.out; omega, by have := h.2; have := HS56.out; have := HBN.out.size; omega⟩))
                    have HSZ7 : Hid ((((((((wN.setCell ⟨w.heap.size, 0, none⟩ (.int .u32 x0)).setCell ⟨w.heap.size, 1, none⟩ (.int .u32 x1)).setCell ⟨w.heap.size, 2, none⟩ (.int .u32 x2)).setCell ⟨w.heap.size, 3, none⟩ (.int .i64 x3)).setCell ⟨w.heap.size, 4, none⟩ (.int .i64 x4)).setCell ⟨w.heap.size, 5, none⟩ (.int .i64 x5)).setCell ⟨w.heap.size, 6, none⟩ (.slice A2 n2 c2)).heap.size = wN.heap.size) := Lib.hid (by simp [World.setCell])
                    have HS8 := Lib.hid (HS7.out.mono (G := newB w (((((((wN.setCell ⟨w.heap.size, 0, none⟩ (.int .u32 x0)).setCell ⟨w.heap.size, 1, none⟩ (.int .u32 x1)).setCell ⟨w.heap.size, 2, none⟩ (.int .u32 x2)).setCell ⟨w.heap.size, 3, none⟩ (.int .i64 x3)).setCell ⟨w.heap.size, 4, none⟩ (.int .i64 x4)).setCell ⟨w.heap.size, 5, none⟩ (.int .i64 x5)).setCell ⟨w.heap.size, 6, none⟩ (.slice A2 n2 c2))) (fun j h => ⟨h.1, by rw [HSZ7.out]; exact h.2⟩))
                    rw [HRB.out] at HB7 HS8
                    go_wp2_with fail
                    refine bodyPost_ret (v := .tuple #[kV x0 x1 x2 x3 x4 x5 (.slice A2 n2 c2), .int .i64 0]) (by simp [results, Tryz.results19, go_sem, d0, d1, d2, d3, d4, d5, d6]) rfl ?_
                    rw [HE.out.1, HE.out.2]
                    exact ⟨.slice A2 n2 c2, rfl, HS8.out, by rw [HRB.out]; exact HB7.out⟩
                  · have q5 : (wv != (k : Int)) = true := by simpa using j5
                    have HE : Hid (S.slC (k : Int) = ChkS.zero ∧ S.slE (k : Int) = 10) := Lib.hid (HBADH.out (by rw [HCO.out, HJ1.out, hwv, decide_eq_false j5]; simp))
                    clear j5
                    go_wp2_with fail
                    refine wp_region_in (fun u => Below w6.heap.size w6 u) (Below.refl _ _).drew (by kernel_rfl) (by kernel_rfl) (fun ne => ?_)
                    have rc0 := fun q : In (fun u => Below w6.heap.size w6 u) => (q.ok.cell (p := ⟨CB, 0, none⟩) lc).trans c0
                    have rc1 := fun q : In (fun u => Below w6.heap.size w6 u) => (q.ok.cell (p := ⟨CB, 1, none⟩) lc).trans c1
                    have rc3 := fun q : In (fun u => Below w6.heap.size w6 u) => (q.ok.cell (p := ⟨CB, 3, none⟩) lc).trans c3
                    have rc4 := fun q : In (fun u => Below w6.heap.size w6 u) => (q.ok.cell (p := ⟨CB, 4, none⟩) lc).trans c4
                    have rd0 := fun q : In (fun u => Below w6.heap.size w6 u) => (q.ok.cell (p := ⟨db, 0, none⟩) ld).trans cd0
                    have rd1 := fun q : In (fun u => Below w6.heap.size w6 u) => (q.ok.cell (p := ⟨db, 1, none⟩) ld).trans cd1
                    have wD := fun q : In (fun u => Below w6.heap.size w6 u) => rswhere_at sq (HD6.out.up q.ok) (by have := HKN.out.2.2; have := HN.out; omega) hsq.1 hsq.2
                    rw [HN.out, hwv] at wD
                    repeat (go_big_quiet_step (first | (go_at_call 24; with_reducible exact In.same (wD _))))
                    refine wpQuiet_nil ?_
                    intro nq
                    obtain ⟨wN, hwN⟩ : ∃ x, nq.w = x := ⟨_, rfl⟩
                    have HBN := Lib.hid nq.ok
                    rw [hwN] at HBN ⊢
                    have HZN := Lib.hid (HZ6.out.up HBN.out)
                    clear rc0 rc1 rc3 rc4 rd0 rd1 wD hwN nq
                    have d0 : wN.cell? ⟨rb, 0, none⟩ = some (.int .u32 0) := by rw [← HRB.out]; exact HZN.out.r.cell 0 (by simp)
                    have e0 : wN.cell? ⟨nb, 0, none⟩ = some (.int .u32 0) := by rw [HNB2.out]; exact HZN.out.z.cell 0 (by simp)
                    have d1 : wN.cell? ⟨rb, 1, none⟩ = some (.int .u32 0) := by rw [← HRB.out]; exact HZN.out.r.cell 1 (by simp)
                    have e1 : wN.cell? ⟨nb, 1, none⟩ = some (.int .u32 0) := by rw [HNB2.out]; exact HZN.out.z.cell 1 (by simp)
                    have d2 : wN.cell? ⟨rb, 2, none⟩ = some (.int .u32 0) := by rw [← HRB.out]; exact HZN.out.r.cell 2 (by simp)
                    have e2 : wN.cell? ⟨nb, 2, none⟩ = some (.int .u32 0) := by rw [HNB2.out]; exact HZN.out.z.cell 2 (by simp)
                    have d3 : wN.cell? ⟨rb, 3, none⟩ = some (.int .i64 0) := by rw [← HRB.out]; exact HZN.out.r.cell 3 (by simp)
                    have e3 : wN.cell? ⟨nb, 3, none⟩ = some (.int .i64 0) := by rw [HNB2.out]; exact HZN.out.z.cell 3 (by simp)
                    have d4 : wN.cell? ⟨rb, 4, none⟩ = some (.int .i64 0) := by rw [← HRB.out]; exact HZN.out.r.cell 4 (by simp)
                    have e4 : wN.cell? ⟨nb, 4, none⟩ = some (.int .i64 0) := by rw [HNB2.out]; exact HZN.out.z.cell 4 (by simp)
                    have d5 : wN.cell? ⟨rb, 5, none⟩ = some (.int .i64 0) := by rw [← HRB.out]; exact HZN.out.r.cell 5 (by simp)
                    have e5 : wN.cell? ⟨nb, 5, none⟩ = some (.int .i64 0) := by rw [HNB2.out]; exact HZN.out.z.cell 5 (by simp)
                    have d6 : wN.cell? ⟨rb, 6, none⟩ = some (.slice none 0 0) := by rw [← HRB.out]; exact HZN.out.r.cell 6 (by simp)
                    have e6 : wN.cell? ⟨nb, 6, none⟩ = some (.slice none 0 0) := by rw [HNB2.out]; exact HZN.out.z.cell 6 (by simp)
                    have df : ∀ k, wN.frozen? ⟨rb, k, none⟩ = false := fun k => by rw [← HRB.out]; exact HZN.out.r.free k
                    obtain ⟨wD, hwD⟩ : ∃ u, (((((((wN.setCell ⟨rb, 0, none⟩ (.int .u32 0)).setCell ⟨rb, 1, none⟩ (.int .u32 0)).setCell ⟨rb, 2, none⟩ (.int .u32 0)).setCell ⟨rb, 3, none⟩ (.int .i64 0)).setCell ⟨rb, 4, none⟩ (.int .i64 0)).setCell ⟨rb, 5, none⟩ (.int .i64 0)).setCell ⟨rb, 6, none⟩ (.slice none 0 0)) = u := ⟨_, rfl⟩
                    have HD : Hid (RChkTold ChkS.zero 10 w (.returned (.tuple #[ckV ChkS.zero (.slice none 0 0), .int .i64 10])) wD ∧ Blk wD rb 46 zList) := Lib.hid (by
                      have h := HZN.out.no 10 (.int .u32 0) (.int .u32 0) (.int .u32 0) (.int .i64 0) (.int .i64 0) (.int .i64 0) (.slice none 0 0)
                      have hb := (((((((HZN.out.r.put 0 (.int .u32 0)).put 1 (.int .u32 0)).put 2 (.int .u32 0)).put 3 (.int .i64 0)).put 4 (.int .i64 0)).put 5 (.int .i64 0)).put 6 (.slice none 0 0))
                      rw [HRB.out, hwD] at h hb
                      exact ⟨h, hb⟩)
                    go_wp2_with fail
                    clear hwD
                    have q0 := HD.out.2.cell 0 (by simp)
                    have q1 := HD.out.2.cell 1 (by simp)
                    have q2 := HD.out.2.cell 2 (by simp)
                    have q3 := HD.out.2.cell 3 (by simp)
                    have q4 := HD.out.2.cell 4 (by simp)
                    have q5 := HD.out.2.cell 5 (by simp)
                    have q6 := HD.out.2.cell 6 (by simp)
                    simp only [List.getElem_cons_zero, List.getElem_cons_succ] at q0 q1 q2 q3 q4 q5 q6
                    refine bodyPost_ret (v := .tuple #[kV 0 0 0 0 0 0 (.slice none 0 0), .int .i64 10]) (by simp [results, Tryz.results19, go_sem, q0, q1, q2, q3, q4, q5, q6]) rfl ?_
                    rw [HE.out.1, HE.out.2]
                    exact RChkN.zero (by obtain ⟨_, _, _, h⟩ := HD.out.1; exact h)
                · have q4 : (x4 != (P : Int)) = true := by simpa using j4
                  have HE : Hid (S.slC (k : Int) = ChkS.zero ∧ S.slE (k : Int) = 10) := Lib.hid (HBADH.out (by rw [HCO.out, decide_eq_false j4]; simp))
                  clear j4
                  go_wp2_with fail
                  refine wp_region_in (fun u => Below w6.heap.size w6 u) (Below.refl _ _).drew (by kernel_rfl) (by kernel_rfl) (fun ne => ?_)
                  have rc0 := fun q : In (fun u => Below w6.heap.size w6 u) => (q.ok.cell (p := ⟨CB, 0, none⟩) lc).trans c0
                  have rc1 := fun q : In (fun u => Below w6.heap.size w6 u) => (q.ok.cell (p := ⟨CB, 1, none⟩) lc).trans c1
                  have rc3 := fun q : In (fun u => Below w6.heap.size w6 u) => (q.ok.cell (p := ⟨CB, 3, none⟩) lc).trans c3
                  have rc4 := fun q : In (fun u => Below w6.heap.size w6 u) => (q.ok.cell (p := ⟨CB, 4, none⟩) lc).trans c4
                  have rd0 := fun q : In (fun u => Below w6.heap.size w6 u) => (q.ok.cell (p := ⟨db, 0, none⟩) ld).trans cd0
                  have rd1 := fun q : In (fun u => Below w6.heap.size w6 u) => (q.ok.cell (p := ⟨db, 1, none⟩) ld).trans cd1
                  repeat (go_big_quiet_step (first | fail))
                  refine wpQuiet_nil ?_
                  intro nq
                  obtain ⟨wN, hwN⟩ : ∃ x, nq.w = x := ⟨_, rfl⟩
                  have HBN := Lib.hid nq.ok
                  rw [hwN] at HBN ⊢
                  have HZN := Lib.hid (HZ6.out.up HBN.out)
                  clear rc0 rc1 rc3 rc4 rd0 rd1 hwN nq
                  have d0 : wN.cell? ⟨rb, 0, none⟩ = some (.int .u32 0) := by rw [← HRB.out]; exact HZN.out.r.cell 0 (by simp)
                  have e0 : wN.cell? ⟨nb, 0, none⟩ = some (.int .u32 0) := by rw [HNB2.out]; exact HZN.out.z.cell 0 (by simp)
                  have d1 : wN.cell? ⟨rb, 1, none⟩ = some (.int .u32 0) := by rw [← HRB.out]; exact HZN.out.r.cell 1 (by simp)
                  have e1 : wN.cell? ⟨nb, 1, none⟩ = some (.int .u32 0) := by rw [HNB2.out]; exact HZN.out.z.cell 1 (by simp)
                  have d2 : wN.cell? ⟨rb, 2, none⟩ = some (.int .u32 0) := by rw [← HRB.out]; exact HZN.out.r.cell 2 (by simp)
                  have e2 : wN.cell? ⟨nb, 2, none⟩ = some (.int .u32 0) := by rw [HNB2.out]; exact HZN.out.z.cell 2 (by simp)
                  have d3 : wN.cell? ⟨rb, 3, none⟩ = some (.int .i64 0) := by rw [← HRB.out]; exact HZN.out.r.cell 3 (by simp)
                  have e3 : wN.cell? ⟨nb, 3, none⟩ = some (.int .i64 0) := by rw [HNB2.out]; exact HZN.out.z.cell 3 (by simp)
                  have d4 : wN.cell? ⟨rb, 4, none⟩ = some (.int .i64 0) := by rw [← HRB.out]; exact HZN.out.r.cell 4 (by simp)
                  have e4 : wN.cell? ⟨nb, 4, none⟩ = some (.int .i64 0) := by rw [HNB2.out]; exact HZN.out.z.cell 4 (by simp)
                  have d5 : wN.cell? ⟨rb, 5, none⟩ = some (.int .i64 0) := by rw [← HRB.out]; exact HZN.out.r.cell 5 (by simp)
                  have e5 : wN.cell? ⟨nb, 5, none⟩ = some (.int .i64 0) := by rw [HNB2.out]; exact HZN.out.z.cell 5 (by simp)
                  have d6 : wN.cell? ⟨rb, 6, none⟩ = some (.slice none 0 0) := by rw [← HRB.out]; exact HZN.out.r.cell 6 (by simp)
                  have e6 : wN.cell? ⟨nb, 6, none⟩ = some (.slice none 0 0) := by rw [HNB2.out]; exact HZN.out.z.cell 6 (by simp)
                  have df : ∀ k, wN.frozen? ⟨rb, k, none⟩ = false := fun k => by rw [← HRB.out]; exact HZN.out.r.free k
                  obtain ⟨wD, hwD⟩ : ∃ u, (((((((wN.setCell ⟨rb, 0, none⟩ (.int .u32 0)).setCell ⟨rb, 1, none⟩ (.int .u32 0)).setCell ⟨rb, 2, none⟩ (.int .u32 0)).setCell ⟨rb, 3, none⟩ (.int .i64 0)).setCell ⟨rb, 4, none⟩ (.int .i64 0)).setCell ⟨rb, 5, none⟩ (.int .i64 0)).setCell ⟨rb, 6, none⟩ (.slice none 0 0)) = u := ⟨_, rfl⟩
                  have HD : Hid (RChkTold ChkS.zero 10 w (.returned (.tuple #[ckV ChkS.zero (.slice none 0 0), .int .i64 10])) wD ∧ Blk wD rb 46 zList) := Lib.hid (by
                    have h := HZN.out.no 10 (.int .u32 0) (.int .u32 0) (.int .u32 0) (.int .i64 0) (.int .i64 0) (.int .i64 0) (.slice none 0 0)
                    have hb := (((((((HZN.out.r.put 0 (.int .u32 0)).put 1 (.int .u32 0)).put 2 (.int .u32 0)).put 3 (.int .i64 0)).put 4 (.int .i64 0)).put 5 (.int .i64 0)).put 6 (.slice none 0 0))
                    rw [HRB.out, hwD] at h hb
                    exact ⟨h, hb⟩)
                  go_wp2_with fail
                  clear hwD
                  have q0 := HD.out.2.cell 0 (by simp)
                  have q1 := HD.out.2.cell 1 (by simp)
                  have q2 := HD.out.2.cell 2 (by simp)
                  have q3 := HD.out.2.cell 3 (by simp)
                  have q4 := HD.out.2.cell 4 (by simp)
                  have q5 := HD.out.2.cell 5 (by simp)
                  have q6 := HD.out.2.cell 6 (by simp)
                  simp only [List.getElem_cons_zero, List.getElem_cons_succ] at q0 q1 q2 q3 q4 q5 q6
                  refine bodyPost_ret (v := .tuple #[kV 0 0 0 0 0 0 (.slice none 0 0), .int .i64 10]) (by simp [results, Tryz.results19, go_sem, q0, q1, q2, q3, q4, q5, q6]) rfl ?_
                  rw [HE.out.1, HE.out.2]
                  exact RChkN.zero (by obtain ⟨_, _, _, h⟩ := HD.out.1; exact h)
              · have q3 : (x3 != (n : Int)) = true := by simpa using j3
                have HE : Hid (S.slC (k : Int) = ChkS.zero ∧ S.slE (k : Int) = 10) := Lib.hid (HBADH.out (by rw [HCO.out, decide_eq_false j3]; simp))
                clear j3
                go_wp2_with fail
                refine wp_region_in (fun u => Below w6.heap.size w6 u) (Below.refl _ _).drew (by kernel_rfl) (by kernel_rfl) (fun ne => ?_)
                have rc0 := fun q : In (fun u => Below w6.heap.size w6 u) => (q.ok.cell (p := ⟨CB, 0, none⟩) lc).trans c0
                have rc1 := fun q : In (fun u => Below w6.heap.size w6 u) => (q.ok.cell (p := ⟨CB, 1, none⟩) lc).trans c1
                have rc3 := fun q : In (fun u => Below w6.heap.size w6 u) => (q.ok.cell (p := ⟨CB, 3, none⟩) lc).trans c3
                have rc4 := fun q : In (fun u => Below w6.heap.size w6 u) => (q.ok.cell (p := ⟨CB, 4, none⟩) lc).trans c4
                have rd0 := fun q : In (fun u => Below w6.heap.size w6 u) => (q.ok.cell (p := ⟨db, 0, none⟩) ld).trans cd0
                have rd1 := fun q : In (fun u => Below w6.heap.size w6 u) => (q.ok.cell (p := ⟨db, 1, none⟩) ld).trans cd1
                repeat (go_big_quiet_step (first | fail))
                refine wpQuiet_nil ?_
                intro nq
                obtain ⟨wN, hwN⟩ : ∃ x, nq.w = x := ⟨_, rfl⟩
                have HBN := Lib.hid nq.ok
                rw [hwN] at HBN ⊢
                have HZN := Lib.hid (HZ6.out.up HBN.out)
                clear rc0 rc1 rc3 rc4 rd0 rd1 hwN nq
                have d0 : wN.cell? ⟨rb, 0, none⟩ = some (.int .u32 0) := by rw [← HRB.out]; exact HZN.out.r.cell 0 (by simp)
                have e0 : wN.cell? ⟨nb, 0, none⟩ = some (.int .u32 0) := by rw [HNB2.out]; exact HZN.out.z.cell 0 (by simp)
                have d1 : wN.cell? ⟨rb, 1, none⟩ = some (.int .u32 0) := by rw [← HRB.out]; exact HZN.out.r.cell 1 (by simp)
                have e1 : wN.cell? ⟨nb, 1, none⟩ = some (.int .u32 0) := by rw [HNB2.out]; exact HZN.out.z.cell 1 (by simp)
                have d2 : wN.cell? ⟨rb, 2, none⟩ = some (.int .u32 0) := by rw [← HRB.out]; exact HZN.out.r.cell 2 (by simp)
                have e2 : wN.cell? ⟨nb, 2, none⟩ = some (.int .u32 0) := by rw [HNB2.out]; exact HZN.out.z.cell 2 (by simp)
                have d3 : wN.cell? ⟨rb, 3, none⟩ = some (.int .i64 0) := by rw [← HRB.out]; exact HZN.out.r.cell 3 (by simp)
                have e3 : wN.cell? ⟨nb, 3, none⟩ = some (.int .i64 0) := by rw [HNB2.out]; exact HZN.out.z.cell 3 (by simp)
                have d4 : wN.cell? ⟨rb, 4, none⟩ = some (.int .i64 0) := by rw [← HRB.out]; exact HZN.out.r.cell 4 (by simp)
                have e4 : wN.cell? ⟨nb, 4, none⟩ = some (.int .i64 0) := by rw [HNB2.out]; exact HZN.out.z.cell 4 (by simp)
                have d5 : wN.cell? ⟨rb, 5, none⟩ = some (.int .i64 0) := by rw [← HRB.out]; exact HZN.out.r.cell 5 (by simp)
                have e5 : wN.cell? ⟨nb, 5, none⟩ = some (.int .i64 0) := by rw [HNB2.out]; exact HZN.out.z.cell 5 (by simp)
                have d6 : wN.cell? ⟨rb, 6, none⟩ = some (.slice none 0 0) := by rw [← HRB.out]; exact HZN.out.r.cell 6 (by simp)
                have e6 : wN.cell? ⟨nb, 6, none⟩ = some (.slice none 0 0) := by rw [HNB2.out]; exact HZN.out.z.cell 6 (by simp)
                have df : ∀ k, wN.frozen? ⟨rb, k, none⟩ = false := fun k => by rw [← HRB.out]; exact HZN.out.r.free k
                obtain ⟨wD, hwD⟩ : ∃ u, (((((((wN.setCell ⟨rb, 0, none⟩ (.int .u32 0)).setCell ⟨rb, 1, none⟩ (.int .u32 0)).setCell ⟨rb, 2, none⟩ (.int .u32 0)).setCell ⟨rb, 3, none⟩ (.int .i64 0)).setCell ⟨rb, 4, none⟩ (.int .i64 0)).setCell ⟨rb, 5, none⟩ (.int .i64 0)).setCell ⟨rb, 6, none⟩ (.slice none 0 0)) = u := ⟨_, rfl⟩
                have HD : Hid (RChkTold ChkS.zero 10 w (.returned (.tuple #[ckV ChkS.zero (.slice none 0 0), .int .i64 10])) wD ∧ Blk wD rb 46 zList) := Lib.hid (by
                  have h := HZN.out.no 10 (.int .u32 0) (.int .u32 0) (.int .u32 0) (.int .i64 0) (.int .i64 0) (.int .i64 0) (.slice none 0 0)
                  have hb := (((((((HZN.out.r.put 0 (.int .u32 0)).put 1 (.int .u32 0)).put 2 (.int .u32 0)).put 3 (.int .i64 0)).put 4 (.int .i64 0)).put 5 (.int .i64 0)).put 6 (.slice none 0 0))
                  rw [HRB.out, hwD] at h hb
                  exact ⟨h, hb⟩)
                go_wp2_with fail
                clear hwD
                have q0 := HD.out.2.cell 0 (by simp)
                have q1 := HD.out.2.cell 1 (by simp)
                have q2 := HD.out.2.cell 2 (by simp)
                have q3 := HD.out.2.cell 3 (by simp)
                have q4 := HD.out.2.cell 4 (by simp)
                have q5 := HD.out.2.cell 5 (by simp)
                have q6 := HD.out.2.cell 6 (by simp)
                simp only [List.getElem_cons_zero, List.getElem_cons_succ] at q0 q1 q2 q3 q4 q5 q6
                refine bodyPost_ret (v := .tuple #[kV 0 0 0 0 0 0 (.slice none 0 0), .int .i64 10]) (by simp [results, Tryz.results19, go_sem, q0, q1, q2, q3, q4, q5, q6]) rfl ?_
                rw [HE.out.1, HE.out.2]
                exact RChkN.zero (by obtain ⟨_, _, _, h⟩ := HD.out.1; exact h)
            · have q2 : (x1 != se) = true := by simpa using j2
              have HE : Hid (S.slC (k : Int) = ChkS.zero ∧ S.slE (k : Int) = 10) := Lib.hid (HBADH.out (by rw [HCO.out, decide_eq_false j2]; simp))
              clear j2
              go_wp2_with fail
              refine wp_region_in (fun u => Below w6.heap.size w6 u) (Below.refl _ _).drew (by kernel_rfl) (by kernel_rfl) (fun ne => ?_)
              have rc0 := fun q : In (fun u => Below w6.heap.size w6 u) => (q.ok.cell (p := ⟨CB, 0, none⟩) lc).trans c0
              have rc1 := fun q : In (fun u => Below w6.heap.size w6 u) => (q.ok.cell (p := ⟨CB, 1, none⟩) lc).trans c1
              have rc3 := fun q : In (fun u => Below w6.heap.size w6 u) => (q.ok.cell (p := ⟨CB, 3, none⟩) lc).trans c3
              have rc4 := fun q : In (fun u => Below w6.heap.size w6 u) => (q.ok.cell (p := ⟨CB, 4, none⟩) lc).trans c4
              have rd0 := fun q : In (fun u => Below w6.heap.size w6 u) => (q.ok.cell (p := ⟨db, 0, none⟩) ld).trans cd0
              have rd1 := fun q : In (fun u => Below w6.heap.size w6 u) => (q.ok.cell (p := ⟨db, 1, none⟩) ld).trans cd1
              repeat (go_big_quiet_step (first | fail))
              refine wpQuiet_nil ?_
              intro nq
              obtain ⟨wN, hwN⟩ : ∃ x, nq.w = x := ⟨_, rfl⟩
              have HBN := Lib.hid nq.ok
              rw [hwN] at HBN ⊢
              have HZN := Lib.hid (HZ6.out.up HBN.out)
              clear rc0 rc1 rc3 rc4 rd0 rd1 hwN nq
              have d0 : wN.cell? ⟨rb, 0, none⟩ = some (.int .u32 0) := by rw [← HRB.out]; exact HZN.out.r.cell 0 (by simp)
              have e0 : wN.cell? ⟨nb, 0, none⟩ = some (.int .u32 0) := by rw [HNB2.out]; exact HZN.out.z.cell 0 (by simp)
              have d1 : wN.cell? ⟨rb, 1, none⟩ = some (.int .u32 0) := by rw [← HRB.out]; exact HZN.out.r.cell 1 (by simp)
              have e1 : wN.cell? ⟨nb, 1, none⟩ = some (.int .u32 0) := by rw [HNB2.out]; exact HZN.out.z.cell 1 (by simp)
              have d2 : wN.cell? ⟨rb, 2, none⟩ = some (.int .u32 0) := by rw [← HRB.out]; exact HZN.out.r.cell 2 (by simp)
              have e2 : wN.cell? ⟨nb, 2, none⟩ = some (.int .u32 0) := by rw [HNB2.out]; exact HZN.out.z.cell 2 (by simp)
              have d3 : wN.cell? ⟨rb, 3, none⟩ = some (.int .i64 0) := by rw [← HRB.out]; exact HZN.out.r.cell 3 (by simp)
              have e3 : wN.cell? ⟨nb, 3, none⟩ = some (.int .i64 0) := by rw [HNB2.out]; exact HZN.out.z.cell 3 (by simp)
              have d4 : wN.cell? ⟨rb, 4, none⟩ = some (.int .i64 0) := by rw [← HRB.out]; exact HZN.out.r.cell 4 (by simp)
              have e4 : wN.cell? ⟨nb, 4, none⟩ = some (.int .i64 0) := by rw [HNB2.out]; exact HZN.out.z.cell 4 (by simp)
              have d5 : wN.cell? ⟨rb, 5, none⟩ = some (.int .i64 0) := by rw [← HRB.out]; exact HZN.out.r.cell 5 (by simp)
              have e5 : wN.cell? ⟨nb, 5, none⟩ = some (.int .i64 0) := by rw [HNB2.out]; exact HZN.out.z.cell 5 (by simp)
              have d6 : wN.cell? ⟨rb, 6, none⟩ = some (.slice none 0 0) := by rw [← HRB.out]; exact HZN.out.r.cell 6 (by simp)
              have e6 : wN.cell? ⟨nb, 6, none⟩ = some (.slice none 0 0) := by rw [HNB2.out]; exact HZN.out.z.cell 6 (by simp)
              have df : ∀ k, wN.frozen? ⟨rb, k, none⟩ = false := fun k => by rw [← HRB.out]; exact HZN.out.r.free k
              obtain ⟨wD, hwD⟩ : ∃ u, (((((((wN.setCell ⟨rb, 0, none⟩ (.int .u32 0)).setCell ⟨rb, 1, none⟩ (.int .u32 0)).setCell ⟨rb, 2, none⟩ (.int .u32 0)).setCell ⟨rb, 3, none⟩ (.int .i64 0)).setCell ⟨rb, 4, none⟩ (.int .i64 0)).setCell ⟨rb, 5, none⟩ (.int .i64 0)).setCell ⟨rb, 6, none⟩ (.slice none 0 0)) = u := ⟨_, rfl⟩
              have HD : Hid (RChkTold ChkS.zero 10 w (.returned (.tuple #[ckV ChkS.zero (.slice none 0 0), .int .i64 10])) wD ∧ Blk wD rb 46 zList) := Lib.hid (by
                have h := HZN.out.no 10 (.int .u32 0) (.int .u32 0) (.int .u32 0) (.int .i64 0) (.int .i64 0) (.int .i64 0) (.slice none 0 0)
                have hb := (((((((HZN.out.r.put 0 (.int .u32 0)).put 1 (.int .u32 0)).put 2 (.int .u32 0)).put 3 (.int .i64 0)).put 4 (.int .i64 0)).put 5 (.int .i64 0)).put 6 (.slice none 0 0))
                rw [HRB.out, hwD] at h hb
                exact ⟨h, hb⟩)
              go_wp2_with fail
              clear hwD
              have q0 := HD.out.2.cell 0 (by simp)
              have q1 := HD.out.2.cell 1 (by simp)
              have q2 := HD.out.2.cell 2 (by simp)
              have q3 := HD.out.2.cell 3 (by simp)
              have q4 := HD.out.2.cell 4 (by simp)
              have q5 := HD.out.2.cell 5 (by simp)
              have q6 := HD.out.2.cell 6 (by simp)
              simp only [List.getElem_cons_zero, List.getElem_cons_succ] at q0 q1 q2 q3 q4 q5 q6
              refine bodyPost_ret (v := .tuple #[kV 0 0 0 0 0 0 (.slice none 0 0), .int .i64 10]) (by simp [results, Tryz.results19, go_sem, q0, q1, q2, q3, q4, q5, q6]) rfl ?_
              rw [HE.out.1, HE.out.2]
              exact RChkN.zero (by obtain ⟨_, _, _, h⟩ := HD.out.1; exact h)
          · have q1 : (x0 != sq) = true := by simpa using j1
            have HE : Hid (S.slC (k : Int) = ChkS.zero ∧ S.slE (k : Int) = 10) := Lib.hid (HBADH.out (by rw [HCO.out, decide_eq_false j1]; simp))
            clear j1
            go_wp2_with fail
            refine wp_region_in (fun u => Below w6.heap.size w6 u) (Below.refl _ _).drew (by kernel_rfl) (by kernel_rfl) (fun ne => ?_)
            have rc0 := fun q : In (fun u => Below w6.heap.size w6 u) => (q.ok.cell (p := ⟨CB, 0, none⟩) lc).trans c0
            have rc1 := fun q : In (fun u => Below w6.heap.size w6 u) => (q.ok.cell (p := ⟨CB, 1, none⟩) lc).trans c1
            have rc3 := fun q : In (fun u => Below w6.heap.size w6 u) => (q.ok.cell (p := ⟨CB, 3, none⟩) lc).trans c3
            have rc4 := fun q : In (fun u => Below w6.heap.size w6 u) => (q.ok.cell (p := ⟨CB, 4, none⟩) lc).trans c4
            have rd0 := fun q : In (fun u => Below w6.heap.size w6 u) => (q.ok.cell (p := ⟨db, 0, none⟩) ld).trans cd0
            have rd1 := fun q : In (fun u => Below w6.heap.size w6 u) => (q.ok.cell (p := ⟨db, 1, none⟩) ld).trans cd1
            repeat (go_big_quiet_step (first | fail))
            refine wpQuiet_nil ?_
            intro nq
            obtain ⟨wN, hwN⟩ : ∃ x, nq.w = x := ⟨_, rfl⟩
            have HBN := Lib.hid nq.ok
            rw [hwN] at HBN ⊢
            have HZN := Lib.hid (HZ6.out.up HBN.out)
            clear rc0 rc1 rc3 rc4 rd0 rd1 hwN nq
            have d0 : wN.cell? ⟨rb, 0, none⟩ = some (.int .u32 0) := by rw [← HRB.out]; exact HZN.out.r.cell 0 (by simp)
            have e0 : wN.cell? ⟨nb, 0, none⟩ = some (.int .u32 0) := by rw [HNB2.out]; exact HZN.out.z.cell 0 (by simp)
            have d1 : wN.cell? ⟨rb, 1, none⟩ = some (.int .u32 0) := by rw [← HRB.out]; exact HZN.out.r.cell 1 (by simp)
            have e1 : wN.cell? ⟨nb, 1, none⟩ = some (.int .u32 0) := by rw [HNB2.out]; exact HZN.out.z.cell 1 (by simp)
            have d2 : wN.cell? ⟨rb, 2, none⟩ = some (.int .u32 0) := by rw [← HRB.out]; exact HZN.out.r.cell 2 (by simp)
            have e2 : wN.cell? ⟨nb, 2, none⟩ = some (.int .u32 0) := by rw [HNB2.out]; exact HZN.out.z.cell 2 (by simp)
            have d3 : wN.cell? ⟨rb, 3, none⟩ = some (.int .i64 0) := by rw [← HRB.out]; exact HZN.out.r.cell 3 (by simp)
            have e3 : wN.cell? ⟨nb, 3, none⟩ = some (.int .i64 0) := by rw [HNB2.out]; exact HZN.out.z.cell 3 (by simp)
            have d4 : wN.cell? ⟨rb, 4, none⟩ = some (.int .i64 0) := by rw [← HRB.out]; exact HZN.out.r.cell 4 (by simp)
            have e4 : wN.cell? ⟨nb, 4, none⟩ = some (.int .i64 0) := by rw [HNB2.out]; exact HZN.out.z.cell 4 (by simp)
            have d5 : wN.cell? ⟨rb, 5, none⟩ = some (.int .i64 0) := by rw [← HRB.out]; exact HZN.out.r.cell 5 (by simp)
            have e5 : wN.cell? ⟨nb, 5, none⟩ = some (.int .i64 0) := by rw [HNB2.out]; exact HZN.out.z.cell 5 (by simp)
            have d6 : wN.cell? ⟨rb, 6, none⟩ = some (.slice none 0 0) := by rw [← HRB.out]; exact HZN.out.r.cell 6 (by simp)
            have e6 : wN.cell? ⟨nb, 6, none⟩ = some (.slice none 0 0) := by rw [HNB2.out]; exact HZN.out.z.cell 6 (by simp)
            have df : ∀ k, wN.frozen? ⟨rb, k, none⟩ = false := fun k => by rw [← HRB.out]; exact HZN.out.r.free k
            obtain ⟨wD, hwD⟩ : ∃ u, (((((((wN.setCell ⟨rb, 0, none⟩ (.int .u32 0)).setCell ⟨rb, 1, none⟩ (.int .u32 0)).setCell ⟨rb, 2, none⟩ (.int .u32 0)).setCell ⟨rb, 3, none⟩ (.int .i64 0)).setCell ⟨rb, 4, none⟩ (.int .i64 0)).setCell ⟨rb, 5, none⟩ (.int .i64 0)).setCell ⟨rb, 6, none⟩ (.slice none 0 0)) = u := ⟨_, rfl⟩
            have HD : Hid (RChkTold ChkS.zero 10 w (.returned (.tuple #[ckV ChkS.zero (.slice none 0 0), .int .i64 10])) wD ∧ Blk wD rb 46 zList) := Lib.hid (by
              have h := HZN.out.no 10 (.int .u32 0) (.int .u32 0) (.int .u32 0) (.int .i64 0) (.int .i64 0) (.int .i64 0) (.slice none 0 0)
              have hb := (((((((HZN.out.r.put 0 (.int .u32 0)).put 1 (.int .u32 0)).put 2 (.int .u32 0)).put 3 (.int .i64 0)).put 4 (.int .i64 0)).put 5 (.int .i64 0)).put 6 (.slice none 0 0))
              rw [HRB.out, hwD] at h hb
              exact ⟨h, hb⟩)
            go_wp2_with fail
            clear hwD
            have q0 := HD.out.2.cell 0 (by simp)
            have q1 := HD.out.2.cell 1 (by simp)
            have q2 := HD.out.2.cell 2 (by simp)
            have q3 := HD.out.2.cell 3 (by simp)
            have q4 := HD.out.2.cell 4 (by simp)
            have q5 := HD.out.2.cell 5 (by simp)
            have q6 := HD.out.2.cell 6 (by simp)
            simp only [List.getElem_cons_zero, List.getElem_cons_succ] at q0 q1 q2 q3 q4 q5 q6
            refine bodyPost_ret (v := .tuple #[kV 0 0 0 0 0 0 (.slice none 0 0), .int .i64 10]) (by simp [results, Tryz.results19, go_sem, q0, q1, q2, q3, q4, q5, q6]) rfl ?_
            rw [HE.out.1, HE.out.2]
            exact RChkN.zero (by obtain ⟨_, _, _, h⟩ := HD.out.1; exact h)
        · have q0 : (ge != 0) = true := by simpa using hge0
          have HE : Hid (S.slC (k : Int) = ChkS.zero ∧ S.slE (k : Int) = 10) := Lib.hid (HBADH.out (by
            unfold holdB
            rw [HXS.out.2.2.2.2.2.2.2, decide_eq_false hge0]
            simp))
          clear hge0
          go_wp2_with fail
          refine wp_region_in (fun u => Below w6.heap.size w6 u) (Below.refl _ _).drew (by kernel_rfl) (by kernel_rfl) (fun ne => ?_)
          have rc0 := fun q : In (fun u => Below w6.heap.size w6 u) => (q.ok.cell (p := ⟨CB, 0, none⟩) lc).trans c0
          have rc1 := fun q : In (fun u => Below w6.heap.size w6 u) => (q.ok.cell (p := ⟨CB, 1, none⟩) lc).trans c1
          have rc3 := fun q : In (fun u => Below w6.heap.size w6 u) => (q.ok.cell (p := ⟨CB, 3, none⟩) lc).trans c3
          have rc4 := fun q : In (fun u => Below w6.heap.size w6 u) => (q.ok.cell (p := ⟨CB, 4, none⟩) lc).trans c4
          have rd0 := fun q : In (fun u => Below w6.heap.size w6 u) => (q.ok.cell (p := ⟨db, 0, none⟩) ld).trans cd0
          have rd1 := fun q : In (fun u => Below w6.heap.size w6 u) => (q.ok.cell (p := ⟨db, 1, none⟩) ld).trans cd1
          repeat (go_big_quiet_step (first | fail))
          refine wpQuiet_nil ?_
          intro nq
          obtain ⟨wN, hwN⟩ : ∃ x, nq.w = x := ⟨_, rfl⟩
          have HBN := Lib.hid nq.ok
          rw [hwN] at HBN ⊢
          have HZN := Lib.hid (HZ6.out.up HBN.out)
          clear rc0 rc1 rc3 rc4 rd0 rd1 hwN nq
          have d0 : wN.cell? ⟨rb, 0, none⟩ = some (.int .u32 0) := by rw [← HRB.out]; exact HZN.out.r.cell 0 (by simp)
          have e0 : wN.cell? ⟨nb, 0, none⟩ = some (.int .u32 0) := by rw [HNB2.out]; exact HZN.out.z.cell 0 (by simp)
          have d1 : wN.cell? ⟨rb, 1, none⟩ = some (.int .u32 0) := by rw [← HRB.out]; exact HZN.out.r.cell 1 (by simp)
          have e1 : wN.cell? ⟨nb, 1, none⟩ = some (.int .u32 0) := by rw [HNB2.out]; exact HZN.out.z.cell 1 (by simp)
          have d2 : wN.cell? ⟨rb, 2, none⟩ = some (.int .u32 0) := by rw [← HRB.out]; exact HZN.out.r.cell 2 (by simp)
          have e2 : wN.cell? ⟨nb, 2, none⟩ = some (.int .u32 0) := by rw [HNB2.out]; exact HZN.out.z.cell 2 (by simp)
          have d3 : wN.cell? ⟨rb, 3, none⟩ = some (.int .i64 0) := by rw [← HRB.out]; exact HZN.out.r.cell 3 (by simp)
          have e3 : wN.cell? ⟨nb, 3, none⟩ = some (.int .i64 0) := by rw [HNB2.out]; exact HZN.out.z.cell 3 (by simp)
          have d4 : wN.cell? ⟨rb, 4, none⟩ = some (.int .i64 0) := by rw [← HRB.out]; exact HZN.out.r.cell 4 (by simp)
          have e4 : wN.cell? ⟨nb, 4, none⟩ = some (.int .i64 0) := by rw [HNB2.out]; exact HZN.out.z.cell 4 (by simp)
          have d5 : wN.cell? ⟨rb, 5, none⟩ = some (.int .i64 0) := by rw [← HRB.out]; exact HZN.out.r.cell 5 (by simp)
          have e5 : wN.cell? ⟨nb, 5, none⟩ = some (.int .i64 0) := by rw [HNB2.out]; exact HZN.out.z.cell 5 (by simp)
          have d6 : wN.cell? ⟨rb, 6, none⟩ = some (.slice none 0 0) := by rw [← HRB.out]; exact HZN.out.r.cell 6 (by simp)
          have e6 : wN.cell? ⟨nb, 6, none⟩ = some (.slice none 0 0) := by rw [HNB2.out]; exact HZN.out.z.cell 6 (by simp)
          have df : ∀ k, wN.frozen? ⟨rb, k, none⟩ = false := fun k => by rw [← HRB.out]; exact HZN.out.r.free k
          obtain ⟨wD, hwD⟩ : ∃ u, (((((((wN.setCell ⟨rb, 0, none⟩ (.int .u32 0)).setCell ⟨rb, 1, none⟩ (.int .u32 0)).setCell ⟨rb, 2, none⟩ (.int .u32 0)).setCell ⟨rb, 3, none⟩ (.int .i64 0)).setCell ⟨rb, 4, none⟩ (.int .i64 0)).setCell ⟨rb, 5, none⟩ (.int .i64 0)).setCell ⟨rb, 6, none⟩ (.slice none 0 0)) = u := ⟨_, rfl⟩
          have HD : Hid (RChkTold ChkS.zero 10 w (.returned (.tuple #[ckV ChkS.zero (.slice none 0 0), .int .i64 10])) wD ∧ Blk wD rb 46 zList) := Lib.hid (by
            have h := HZN.out.no 10 (.int .u32 0) (.int .u32 0) (.int .u32 0) (.int .i64 0) (.int .i64 0) (.int .i64 0) (.slice none 0 0)
            have hb := (((((((HZN.out.r.put 0 (.int .u32 0)).put 1 (.int .u32 0)).put 2 (.int .u32 0)).put 3 (.int .i64 0)).put 4 (.int .i64 0)).put 5 (.int .i64 0)).put 6 (.slice none 0 0))
            rw [HRB.out, hwD] at h hb
            exact ⟨h, hb⟩)
          go_wp2_with fail
          clear hwD
          have q0 := HD.out.2.cell 0 (by simp)
          have q1 := HD.out.2.cell 1 (by simp)
          have q2 := HD.out.2.cell 2 (by simp)
          have q3 := HD.out.2.cell 3 (by simp)
          have q4 := HD.out.2.cell 4 (by simp)
          have q5 := HD.out.2.cell 5 (by simp)
          have q6 := HD.out.2.cell 6 (by simp)
          simp only [List.getElem_cons_zero, List.getElem_cons_succ] at q0 q1 q2 q3 q4 q5 q6
          refine bodyPost_ret (v := .tuple #[kV 0 0 0 0 0 0 (.slice none 0 0), .int .i64 10]) (by simp [results, Tryz.results19, go_sem, q0, q1, q2, q3, q4, q5, q6]) rfl ?_
          rw [HE.out.1, HE.out.2]
          exact RChkN.zero (by obtain ⟨_, _, _, h⟩ := HD.out.1; exact h)
end Go.Proofs.YthmpimjmajoimaaGreatDoor
