/-
  platelayerlaw08.LruFirst answers true.
-/
import Derived.Test.YtpocpeiiacgoaaaLrF0
import Derived.Test.YtpocpeiiacgoaaaLruMath2
namespace Go.Proofs.Ytpocpeiiacgoaaa
open Go.RowKit

set_option maxHeartbeats 8000000 in
set_option maxRecDepth 100000 in
theorem lfirst_true {w : World} (A : Option Addr) (m c : Nat) (l : List Int) (t : Int) (hl : l.length = m) (hr : RdV w w.heap.size A (iCells l)) : Calls Try.prog 4 #[.slice A m c, .int .i64 t] w (BoolB true w) := by
  have HL := Lib.hid hl
  have HR := Lib.hid hr
  clear hl hr
  go_enter Try.func4, Try.ntmps4
  go_wp2_with fail
  refine (lawake_true w).mono ?_
  rintro r w1 ⟨rfl, hb⟩
  have HB1 := Lib.hid hb
  clear hb
  go_wp2_with fail
  refine (lnew_at 64 w1).mono ?_
  rintro r w2 h
  obtain ⟨hb, h⟩ := h
  rw [if_pos (by omega)] at h
  obtain ⟨rfl, hm⟩ := h
  obtain ⟨kb, hkb⟩ : ∃ kb, w1.heap.size = kb := ⟨_, rfl⟩
  have HM2 : Hid (RkM w2 kb (RkS.ins0 [] 64)) := Lib.hid (by rw [← hkb]; exact hm)
  have HB2 := Lib.hid (below_all HB1.out hb)
  have HKB : Hid (w.heap.size ≤ kb) := Lib.hid (by have := HB1.out.size; omega)
  clear hm hb HB1
  rw [hkb]
  by_cases hmm : 64 < m
  · go_wp2_with fail
    go_ret
    exact ⟨rfl, HB2.out⟩
  · have HN3 : Hid (RN w (w2.alloc (.cells #[] 3)) kb (RkS.ins0 [] 64) w2.heap.size 0 []) := Lib.hid ⟨HM2.out.up ((Below.refl _ _).alloc (Nat.le_refl _) _), HKB.out, NatR.new w2 _ HB2.out.size [] (by simp), below_all HB2.out ((Below.refl _ _).alloc (Nat.le_refl _) _)⟩
    clear HM2
    go_wp2_with fail
    go_loopg [7, 38] m (fun q x y wr => ∃ (i : Nat) (came : List Nat) (n g cap : Nat), i ≤ m ∧ q = m - i ∧ x = .slice (some ⟨g, 0, none⟩) n cap ∧ y = .int .i64 i ∧ came.length = n ∧ n ≤ i ∧ RN w wr kb (RkS.ins0 came 64) g cap came)
    case atStart => exact ⟨0, [], 0, _, _, by omega, by omega, rfl, rfl, rfl, by omega, HN3.out⟩
    case round =>
      clear HN3
      obtain ⟨i, came, n, g, cap, hi, hq, rfl, rfl, hn, hni, hrn⟩ := hrel
      have HQ := Lib.hid hq
      have HN := Lib.hid hn
      have HRN := Lib.hid hrn
      clear hq hn hrn
      by_cases hlt : i < m
      · have hll : i < l.length := by rw [HL.out]; exact hlt
        obtain ⟨b, o, rfl, hbl, hcell⟩ := (HR.out.below HRN.out.old) (by rw [iCells_len]; omega)
        have c0 := rdv_i (B := 0) hcell i hll
        obtain ⟨x, hx⟩ : ∃ x, l[i] = x := ⟨_, rfl⟩
        rw [hx] at c0
        clear hcell hx
        cases hb : (RkS.ins0 came 64).insB x with
        | false =>
          have HE := Lib.hid (RkS.ins0_no hb)
          go_wp2_with fail
          refine (linsert_at x HRN.out.m).mono ?_
          rintro r w4 h
          obtain ⟨rfl, hm, hk⟩ := h
          have HR4 := Lib.hid (HRN.out.to hm hk)
          rw [HE.out] at HR4
          rw [hb]
          clear hm hk HRN
          go_wp2_with fail
          go_roundg (m - (i + 1))
          case rel => exact ⟨i + 1, came, n, g, cap, by omega, rfl, rfl, by go_num, HN.out, by omega, HR4.out⟩
          case measure => have := HQ.out; omega
        | true =>
          obtain ⟨he, s, rfl⟩ := RkS.ins0_yes hb
          have HE := Lib.hid he
          rw [Int.toNat_natCast] at HE
          go_wp2_with fail
          refine (linsert_at _ HRN.out.m).mono ?_
          rintro r w4 h
          obtain ⟨rfl, hm, hk⟩ := h
          have HR4 := Lib.hid (HRN.out.to hm hk)
          rw [HE.out] at HR4
          rw [hb]
          clear hm hk HRN he
          have HR5 := Lib.hid (HR4.out.up ((Below.refl w4.heap.size w4).alloc (Nat.le_refl _) (.cells #[.int .i64 (s : Int)] 3)))
          have HX5 : Hid (RdV (w4.alloc (.cells #[.int .i64 (s : Int)] 3)) (w4.alloc (.cells #[.int .i64 (s : Int)] 3)).heap.size (some ⟨w4.heap.size, 0, none⟩) (iCells [(s : Int)])) := Lib.hid (row_rd w4 _)
          clear HR4
          go_wp2_with (first
            | (at_builtin; refine appI _ rfl (.tmp 45) (.tmp 47) rfl w.heap.size _ g cap n 1 1 (nats came) [(s : Int)] (some ⟨w4.heap.size, 0, none⟩) rfl HR5.out.n (by rw [nats_len, HN.out]) rfl HX5.out rfl (by omega) HR5.out.old.size ?_; intro g6 cap6 w6 ho hg _; have HR6 := Lib.hid (HR5.out.app (l' := came ++ [s]) (by have := ho; rw [show nats came ++ [(s : Int)] = nats (came ++ [s]) from by simp [nats]] at this; exact this) hg); clear ho hg)
            | fail)
          go_roundg (m - (i + 1))
          case rel => exact ⟨i + 1, came ++ [s], n + 1, g6, cap6, by omega, rfl, by go_num, by go_num, by rw [List.length_append, HN.out]; rfl, by omega, HR6.out⟩
          case measure => have := HQ.out; omega
      · have hcl : came.length ≤ 64 := by have := HN.out; omega
        clear HR
        go_wp2_with fail
        refine (ltouch_at t HRN.out.m).mono ?_
        rintro r w4 h
        obtain ⟨rfl, hm, hk⟩ := h
        have HR4 := Lib.hid (HRN.out.to hm hk)
        clear hm hk HRN
        obtain ⟨b, hb⟩ : ∃ b, (RkS.ins0 came 64).has t = b := ⟨_, rfl⟩
        have HB := Lib.hid hb
        rw [hb]
        obtain ⟨S2, hS2⟩ : ∃ S2, (RkS.ins0 came 64).touS t = S2 := ⟨_, rfl⟩
        have HS2 := Lib.hid hS2
        rw [hS2] at HR4
        clear hb hS2
        have HR5 : Hid (RN2 w (w4.alloc (.cells #[] 3)) kb S2 w4.heap.size 0 [] g cap came) := Lib.hid (by
          have h5 := HR4.out.up ((Below.refl w4.heap.size w4).alloc (Nat.le_refl _) (.cells #[] 3))
          exact ⟨⟨h5.m, h5.kb, NatR.new w4 _ HR4.out.old.size [] (by simp), h5.old⟩, h5.n, by have := HR4.out.n.mem.2; omega⟩)
        clear HR4
        go_wp2_with fail
        go_loopg [11, 56] n (fun q x y wr => ∃ (j : Nat) (nw g2 cap2 : Nat), j ≤ n ∧ q = n - j ∧ x = .slice (some ⟨g2, 0, none⟩) nw cap2 ∧ y = .int .i64 j ∧ (RkS.telL b t (came.take j)).length = nw ∧ nw ≤ j ∧ RN2 w wr kb S2 g2 cap2 (RkS.telL b t (came.take j)) g cap came)
        case atStart => exact ⟨0, 0, _, _, by omega, by omega, rfl, rfl, rfl, by omega, HR5.out⟩
        case round =>
          clear HR5
          obtain ⟨j, nw, g2, cap2, hj, hq2, rfl, rfl, hnw, hnj, hr2⟩ := hrel
          have HQ2 := Lib.hid hq2
          have HNW := Lib.hid hnw
          have HR2 := Lib.hid hr2
          clear hq2 hnw hr2
          by_cases hlt2 : j < n
          · have hjl : j < came.length := by rw [HN.out]; exact hlt2
            have c0 := HR2.out.b.cell j hjl
            have HTS : Hid (RkS.telL b t (came.take (j + 1)) = if (!b || ((came[j] : Int) != t)) = true then RkS.telL b t (came.take j) ++ [came[j]] else RkS.telL b t (came.take j)) := Lib.hid (by
              rw [List.take_succ_eq_append_getElem hjl, RkS.tel_snoc])
            obtain ⟨s, hs⟩ : ∃ s, came[j] = s := ⟨_, rfl⟩
            rw [hs] at c0 HTS
            clear hs
            have HR5 := Lib.hid (HR2.out.up ((Below.refl wr.heap.size wr).alloc (Nat.le_refl _) (.cells #[.int .i64 (s : Int)] 3)))
            have HX5 : Hid (RdV (wr.alloc (.cells #[.int .i64 (s : Int)] 3)) (wr.alloc (.cells #[.int .i64 (s : Int)] 3)).heap.size (some ⟨wr.heap.size, 0, none⟩) (iCells [(s : Int)])) := Lib.hid (row_rd wr _)
            have step1 : RkS.telL b t (came.take (j + 1)) = RkS.telL b t (came.take j) → RN2 w wr kb S2 g2 cap2 (RkS.telL b t (came.take (j + 1))) g cap came := fun e => by rw [e]; exact HR2.out
            cases b with
            | false =>
              have HT2 : Hid (RkS.telL false t (came.take (j + 1)) = RkS.telL false t (came.take j) ++ [s]) := Lib.hid (by rw [HTS.out]; rfl)
              clear HTS HR2 step1
              go_wp2_with (first
                | (at_builtin; refine appI _ rfl (.tmp 67) (.tmp 69) rfl w.heap.size _ g2 cap2 nw 1 1 (nats _) [(s : Int)] (some ⟨wr.heap.size, 0, none⟩) rfl HR5.out.a.n (by rw [nats_len, HNW.out]) rfl HX5.out rfl (by omega) HR5.out.a.old.size ?_; intro g6 cap6 w6 ho hg hgg; have HR6 := Lib.hid (HR5.out.app (l' := RkS.telL false t (came.take (j + 1))) (by have := ho; rw [HT2.out]; rw [show nats (RkS.telL false t (came.take j)) ++ [(s : Int)] = nats (RkS.telL false t (came.take j) ++ [s]) from by simp [nats]] at this; exact this) hg hgg); clear ho hg hgg)
                | fail)
              go_roundg (n - (j + 1))
              case rel => exact ⟨j + 1, nw + 1, g6, cap6, by omega, rfl, by go_num, by go_num, by rw [HT2.out, List.length_append, HNW.out]; rfl, by omega, HR6.out⟩
              case measure => have := HQ2.out; omega
            | true =>
              by_cases he : (s : Int) = t
              · have q1 : ((s : Int) == t) = true := by simpa using he
                have q2 : ((s : Int) != t) = false := by simpa using he
                have HT2 : Hid (RkS.telL true t (came.take (j + 1)) = RkS.telL true t (came.take j)) := Lib.hid (by rw [HTS.out, q2]; rfl)
                have HR6 := Lib.hid (step1 HT2.out)
                clear HTS HR5 HX5 HR2 step1 he
                go_wp2_with fail
                go_roundg (n - (j + 1))
                case rel => exact ⟨j + 1, nw, g2, cap2, by omega, rfl, rfl, by go_num, by rw [HT2.out]; exact HNW.out, by omega, HR6.out⟩
                case measure => have := HQ2.out; omega
              · have q1 : ((s : Int) == t) = false := by simpa using he
                have q2 : ((s : Int) != t) = true := by simpa using he
                have HT2 : Hid (RkS.telL true t (came.take (j + 1)) = RkS.telL true t (came.take j) ++ [s]) := Lib.hid (by rw [HTS.out, q2]; rfl)
                clear HTS HR2 step1 he
                go_wp2_with (first
                  | (at_builtin; refine appI _ rfl (.tmp 67) (.tmp 69) rfl w.heap.size _ g2 cap2 nw 1 1 (nats _) [(s : Int)] (some ⟨wr.heap.size, 0, none⟩) rfl HR5.out.a.n (by rw [nats_len, HNW.out]) rfl HX5.out rfl (by omega) HR5.out.a.old.size ?_; intro g6 cap6 w6 ho hg hgg; have HR6 := Lib.hid (HR5.out.app (l' := RkS.telL true t (came.take (j + 1))) (by have := ho; rw [HT2.out]; rw [show nats (RkS.telL true t (came.take j)) ++ [(s : Int)] = nats (RkS.telL true t (came.take j) ++ [s]) from by simp [nats]] at this; exact this) hg hgg); clear ho hg hgg)
                  | fail)
                go_roundg (n - (j + 1))
                case rel => exact ⟨j + 1, nw + 1, g6, cap6, by omega, rfl, by go_num, by go_num, by rw [HT2.out, List.length_append, HNW.out]; rfl, by omega, HR6.out⟩
                case measure => have := HQ2.out; omega
          · obtain rfl : j = n := by omega
            have HTK : Hid (came.take j = came) := Lib.hid (by rw [← HN.out, List.take_length])
            have H3 := Lib.hid HR2.out.a
            rw [HTK.out] at H3 HNW
            cases b with
            | false =>
              have HO : Hid (S2.ord = RkS.telL false t came) := Lib.hid (by rw [← HS2.out]; exact RkS.first_no HB.out)
              obtain ⟨W, hW⟩ : ∃ W, RkS.telL false t came = W := ⟨_, rfl⟩
              rw [hW] at HO H3 HNW
              have HLW := Lib.hid HNW.out
              obtain ⟨g6, hg6⟩ : ∃ g6, g6 = g2 := ⟨_, rfl⟩
              obtain ⟨cap6, hc6⟩ : ∃ cap6, cap6 = cap2 := ⟨_, rfl⟩
              obtain ⟨nW, hnW⟩ : ∃ nW, nW = nw := ⟨_, rfl⟩
              subst hg6 hc6 hnW
              have H6 := Lib.hid H3.out
              have hnl : nW ≤ 65 := by omega
              clear H3 HR2 hW HTK HB HNW
              go_wp2_with fail
              go_loopg [79] nW (fun q x wr => ∃ (j : Nat) (S : RkS), j ≤ nW ∧ q = nW - j ∧ x = .int .i64 j ∧ RN w wr kb S g6 cap6 W ∧ S.ord = W.drop j)
              case atStart => exact ⟨0, S2, by omega, by omega, rfl, H6.out, by rw [HO.out]; rfl⟩
              case round =>
                clear H6 HO
                obtain ⟨k, S, hk, hq3, rfl, hr3, ho3⟩ := hrel
                have HQ3 := Lib.hid hq3
                have HR3 := Lib.hid hr3
                have HO3 := Lib.hid ho3
                clear hq3 hr3 ho3
                by_cases hlt3 : k < nW
                · have hkl : k < W.length := by rw [HLW.out]; exact hlt3
                  have c0 := HR3.out.n.cell k hkl
                  have ho4 := HO3.out
                  rw [List.drop_eq_getElem_cons hkl] at ho4
                  obtain ⟨s, hs⟩ : ∃ s, W[k] = s := ⟨_, rfl⟩
                  rw [hs] at c0 ho4
                  have HV := Lib.hid (RkS.vic_first ho4)
                  have HM := Lib.hid (RkS.ord_rem HR3.out.m.2 ho4)
                  have q1 : ((s : Int) == (s : Int)) = true := by simp
                  have q2 : ((s : Int) != (s : Int)) = false := by simp
                  clear hs ho4 HO3
                  go_wp2_with fail
                  refine (lvictim_at HR3.out.m).mono ?_
                  rintro r w7 ⟨rfl, rfl⟩
                  rw [HV.out.1, HV.out.2]
                  go_wp2_with fail
                  refine (lremove_at (s : Int) HR3.out.m).mono ?_
                  rintro r w8 h
                  obtain ⟨rfl, hm, hk2⟩ := h
                  rw [HM.out.1]
                  have HR8 := Lib.hid (HR3.out.to hm hk2)
                  clear hm hk2 HR3 HV
                  go_wp2_with fail
                  go_roundg (nW - (k + 1))
                  case rel => exact ⟨k + 1, _, by omega, rfl, by go_num, HR8.out, HM.out.2⟩
                  case measure => have := HQ3.out; omega
                · have HN0 : Hid (S.vic.isSome = false) := Lib.hid (RkS.vic_none (by rw [HO3.out, List.drop_eq_nil_of_le (by have := HLW.out; omega)]))
                  go_wp2_with fail
                  refine (lvictim_at HR3.out.m).mono ?_
                  rintro r w7 ⟨rfl, rfl⟩
                  rw [HN0.out]
                  generalize S.vicN = v at *
                  go_wp2_with fail
                  go_ret
                  exact ⟨rfl, HR3.out.old⟩
            | true =>
              obtain ⟨s0, rfl, ho⟩ := RkS.first_yes HB.out
              have HO : Hid (S2.ord = RkS.telL true (s0 : Int) came ++ [s0]) := Lib.hid (by rw [← HS2.out]; exact ho)
              clear ho
              have HR5 := Lib.hid (H3.out.up ((Below.refl wr.heap.size wr).alloc (Nat.le_refl _) (.cells #[.int .i64 (s0 : Int)] 3)))
              have HX5 : Hid (RdV (wr.alloc (.cells #[.int .i64 (s0 : Int)] 3)) (wr.alloc (.cells #[.int .i64 (s0 : Int)] 3)).heap.size (some ⟨wr.heap.size, 0, none⟩) (iCells [(s0 : Int)])) := Lib.hid (row_rd wr _)
              clear H3 HR2 HTK HB
              go_wp2_with (first
                | (at_builtin; refine appI _ rfl (.tmp 73) (.tmp 75) rfl w.heap.size _ g2 cap2 nw 1 1 (nats _) [(s0 : Int)] (some ⟨wr.heap.size, 0, none⟩) rfl HR5.out.n (by rw [nats_len, HNW.out]) rfl HX5.out rfl (by omega) HR5.out.old.size ?_; intro g6 cap6 w6 ho hg hgg; have H6 := Lib.hid (HR5.out.app (l' := RkS.telL true (s0 : Int) came ++ [s0]) (by have := ho; rw [show nats (RkS.telL true (s0 : Int) came) ++ [(s0 : Int)] = nats (RkS.telL true (s0 : Int) came ++ [s0]) from by simp [nats]] at this; exact this) hg); clear ho hg hgg)
                | fail)
              obtain ⟨W, hW⟩ : ∃ W, RkS.telL true (s0 : Int) came ++ [s0] = W := ⟨_, rfl⟩
              have HLW : Hid (W.length = nw + 1) := Lib.hid (by rw [← hW, List.length_append, HNW.out]; rfl)
              obtain ⟨nW, hnW⟩ : ∃ nW, nw + 1 = nW := ⟨_, rfl⟩
              rw [show ((nw : Int) + 1) = (nW : Int) by omega, hnW]
              rw [hnW] at HLW
              rw [hW] at HO H6
              have hnl : nW ≤ 65 := by omega
              clear hW HNW hnW HR5 HX5
              go_loopg [79] nW (fun q x wr => ∃ (j : Nat) (S : RkS), j ≤ nW ∧ q = nW - j ∧ x = .int .i64 j ∧ RN w wr kb S g6 cap6 W ∧ S.ord = W.drop j)
              case atStart => exact ⟨0, S2, by omega, by omega, rfl, H6.out, by rw [HO.out]; rfl⟩
              case round =>
                clear H6 HO
                obtain ⟨k, S, hk, hq3, rfl, hr3, ho3⟩ := hrel
                have HQ3 := Lib.hid hq3
                have HR3 := Lib.hid hr3
                have HO3 := Lib.hid ho3
                clear hq3 hr3 ho3
                by_cases hlt3 : k < nW
                · have hkl : k < W.length := by rw [HLW.out]; exact hlt3
                  have c0 := HR3.out.n.cell k hkl
                  have ho4 := HO3.out
                  rw [List.drop_eq_getElem_cons hkl] at ho4
                  obtain ⟨s, hs⟩ : ∃ s, W[k] = s := ⟨_, rfl⟩
                  rw [hs] at c0 ho4
                  have HV := Lib.hid (RkS.vic_first ho4)
                  have HM := Lib.hid (RkS.ord_rem HR3.out.m.2 ho4)
                  have q1 : ((s : Int) == (s : Int)) = true := by simp
                  have q2 : ((s : Int) != (s : Int)) = false := by simp
                  clear hs ho4 HO3
                  go_wp2_with fail
                  refine (lvictim_at HR3.out.m).mono ?_
                  rintro r w7 ⟨rfl, rfl⟩
                  rw [HV.out.1, HV.out.2]
                  go_wp2_with fail
                  refine (lremove_at (s : Int) HR3.out.m).mono ?_
                  rintro r w8 h
                  obtain ⟨rfl, hm, hk2⟩ := h
                  rw [HM.out.1]
                  have HR8 := Lib.hid (HR3.out.to hm hk2)
                  clear hm hk2 HR3 HV
                  go_wp2_with fail
                  go_roundg (nW - (k + 1))
                  case rel => exact ⟨k + 1, _, by omega, rfl, by go_num, HR8.out, HM.out.2⟩
                  case measure => have := HQ3.out; omega
                · have HN0 : Hid (S.vic.isSome = false) := Lib.hid (RkS.vic_none (by rw [HO3.out, List.drop_eq_nil_of_le (by have := HLW.out; omega)]))
                  go_wp2_with fail
                  refine (lvictim_at HR3.out.m).mono ?_
                  rintro r w7 ⟨rfl, rfl⟩
                  rw [HN0.out]
                  generalize S.vicN = v at *
                  go_wp2_with fail
                  go_ret
                  exact ⟨rfl, HR3.out.old⟩
end Go.Proofs.Ytpocpeiiacgoaaa
