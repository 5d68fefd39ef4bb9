/-
  platelayerlaw08.LruKept answers true.
-/
import Derived.Test.YtpocpeiiacgoaaaLrF
namespace Go.Proofs.Ytpocpeiiacgoaaa
open Go.RowKit

/-- A ranking of a call's own whose slots all stand, and a list of what is kept. -/
structure KL (w0 w : World) (kb : Nat) (S : RkS) (n : Nat) (A : Option Addr) (nl cl : Nat) : Prop where
  m : RkM w kb S
  ge : w0.heap.size ≤ kb
  en : S.n = n
  full : S.Full
  room : S.Room
  l : RowF (fun k => k ≠ kb) w (.slice A nl cl) (iCells (nats S.K))
  old : Below w0.heap.size w0 w
theorem RdV.take {w : World} {B : Nat} {A : Option Addr} {vs : List Value} (h : RdV w B A vs) (k : Nat) : RdV w B A (vs.take k) := by
  intro hn
  rw [List.length_take] at hn
  obtain ⟨b, o, hA, hlt, hc⟩ := h (by omega)
  refine ⟨b, o, hA, hlt, fun i hi => ?_⟩
  rw [List.length_take] at hi
  rw [List.getElem_take]
  exact hc i (by omega)
theorem KL.next {w0 w4 wr : World} {kb i g cap nw h2 : Nat} {S : RkS} {s : Int} {L : List Nat} (h1 : w0.heap.size ≤ kb) (h2' : S.n = i) (h3 : S.Full) (h4 : S.Room) (h5 : S.WF) (hm : RkM w4 kb (S.touS s)) (hb4 : Below w0.heap.size w0 w4) (hb : Below w4.heap.size w4 wr) (hn : NatR wr w4.heap.size g cap L) (hl : L.length = nw) (hk : (S.touS s).K = L.take (min nw h2)) :
    KL w0 wr kb (S.touS s) i (some ⟨g, 0, none⟩) (min nw h2) cap := by
  have hm' := hm.up hb
  have hc := hn.cap
  rw [iCells_len, nats_len, hl] at hc
  have hlen : (iCells (nats (S.touS s).K)).length = min nw h2 := by
    rw [iCells_len, nats_len, hk, List.length_take, hl]
    omega
  refine ⟨hm', h1, (RkS.n_tou S s).trans h2', ?_, RkS.room_tou h4 s, ⟨some ⟨g, 0, none⟩, cap, by rw [hlen], by rw [hlen]; omega, ?_, fun _ => InF.one (hn.ne hm'), fun e => by cases e⟩, below_all hb4 hb⟩
  · unfold RkS.Full at *
    rw [RkS.cnt_tou h5, RkS.n_tou]
    exact h3
  · rw [hk]
    have := hn.rd.take (min nw h2)
    rw [show (iCells (nats L)).take (min nw h2) = iCells (nats (L.take (min nw h2))) by simp [iCells, nats, List.map_take]] at this
    exact this
theorem take_snocN {l : List Nat} {j : Nat} (h : j < l.length) (x : Nat) : butL (l.take (j + 1)) x = if (l[j] != x) = true then butL (l.take j) x ++ [l[j]] else butL (l.take j) x := by
  rw [List.take_succ_eq_append_getElem h, RkS.but_app]
  by_cases e : l[j] = x
  · simp [butL, e]
  · have : (l[j] == x) = false := by simpa using e
    simp [butL, bne, this]
set_option maxHeartbeats 8000000 in
set_option maxRecDepth 100000 in
theorem lkeptlaw_true {w : World} (n : Int) (A : Option Addr) (m c : Nat) (l : List Int) (hl : l.length = m) (hr : RdV w w.heap.size A (iCells l)) : Calls Try.prog 5 #[.int .i64 n, .slice A m c] w (BoolB true w) := by
  have HL := Lib.hid hl
  have HR := Lib.hid hr
  clear hl hr
  go_enter Try.func5, Try.ntmps5
  go_wp2_with fail
  refine (lawake_true w).mono ?_
  rintro r w1 ⟨rfl, hb⟩
  have HB1 := Lib.hid hb
  clear hb
  go_wp2_with fail
  refine (lnew_at n w1).mono ?_
  rintro r w2 h
  obtain ⟨hb, h⟩ := h
  by_cases hnn : 1 ≤ n ∧ n ≤ 64
  · rw [if_pos hnn] at h
    obtain ⟨rfl, hm⟩ := h
    obtain ⟨N, rfl⟩ := Int.eq_ofNat_of_zero_le (show 0 ≤ n by omega)
    rw [Int.toNat_natCast] at hm
    obtain ⟨kb, hkb⟩ : ∃ kb, w1.heap.size = kb := ⟨_, rfl⟩
    have HM2 : Hid (RkM w2 kb (RkS.ins0 (List.range 0) N)) := Lib.hid (by rw [← hkb]; exact hm)
    have HB2 := Lib.hid (below_all HB1.out hb)
    have HKB : Hid (w.heap.size ≤ kb) := Lib.hid (by have := HB1.out.size; omega)
    clear hm hb HB1
    rw [hkb]
    have hN1 : 1 ≤ N ∧ N ≤ 64 := by omega
    clear hnn
    by_cases hmm : 200 < m
    · go_wp2_with fail
      go_ret
      exact ⟨rfl, HB2.out⟩
    · go_wp2_with fail
      go_loopg [29] N (fun q x wr => ∃ i : Nat, i ≤ N ∧ q = N - i ∧ x = .int .i64 i ∧ RkM wr kb (RkS.ins0 (List.range i) N) ∧ Below w.heap.size w wr)
      case atStart => exact ⟨0, by omega, by omega, rfl, HM2.out, HB2.out⟩
      case round =>
        clear HM2 HB2
        obtain ⟨i, hi, hq, rfl, hm, hb⟩ := hrel
        have HQ := Lib.hid hq
        have HM := Lib.hid hm
        have HB := Lib.hid hb
        clear hq hm hb
        by_cases hlt : i < N
        · have HI := Lib.hid (RkS.range_ins hlt)
          go_wp2_with fail
          refine (linsert_at (i : Int) HM.out).mono ?_
          rw [HI.out.1, HI.out.2]
          rintro r w4 h
          obtain ⟨rfl, hm, hk⟩ := h
          have HM4 := Lib.hid hm
          have HB4 : Hid (Below w.heap.size w w4) := Lib.hid (HB.out.trans (hk.below HB.out.size (fun k e => by rw [e]; exact HKB.out)))
          clear hm hk HM HB
          go_wp2_with fail
          go_roundg (N - (i + 1))
          case rel => exact ⟨i + 1, by omega, rfl, by go_num, HM4.out, HB4.out⟩
          case measure => have := HQ.out; omega
        · obtain rfl : i = N := by omega
          have HK0 : Hid (KL w wr kb (RkS.ins0 (List.range i) i) i none 0 0) := Lib.hid ⟨HM.out, HKB.out, rfl, (RkS.range_full i).1, (RkS.range_full i).2.1, RowF.nil _ _, HB.out⟩
          clear HM HB
          go_wp2_with fail
          go_loopg [8, 39] m (fun q x y wr => ∃ (j : Nat) (S : RkS) (Al : Option Addr) (nl cl : Nat), j ≤ m ∧ q = m - j ∧ x = .slice Al nl cl ∧ y = .int .i64 j ∧ KL w wr kb S i Al nl cl)
          case atStart => exact ⟨0, _, none, 0, 0, by omega, by omega, rfl, rfl, HK0.out⟩
          case round =>
            clear HK0
            obtain ⟨j, S, Al, nl, cl, hj, hq2, rfl, rfl, hkl⟩ := hrel
            have HQ2 := Lib.hid hq2
            have HKL := Lib.hid hkl
            clear hq2 hkl
            have HRD := Lib.hid HKL.out.l.rdI
            have hnl : nl ≤ cl := HRD.out.2.2
            have hnk : S.K.length = nl := by have := HRD.out.2.1; rwa [nats_len] at this
            have hnr : nl ≤ i / 2 := by have h1 := HKL.out.room; have h2 := HKL.out.en; unfold RkS.Room at h1; omega
            have HNK := Lib.hid hnk
            clear hnk
            by_cases hlt2 : j < m
            · have hll : j < l.length := by rw [HL.out]; exact hlt2
              obtain ⟨b, o, rfl, hbl, hcell⟩ := (HR.out.below HKL.out.old) (by rw [iCells_len]; omega)
              have c0 := rdv_i (B := 0) hcell j hll
              obtain ⟨x, hx⟩ : ∃ x, l[j] = x := ⟨_, rfl⟩
              rw [hx] at c0
              clear hcell hx
              have HH := Lib.hid (RkS.full_has HKL.out.m.2 HKL.out.full x)
              rw [HKL.out.en] at HH
              by_cases hx : 0 ≤ x ∧ x < i
              · obtain ⟨s, rfl⟩ := Int.eq_ofNat_of_zero_le hx.1
                have hs : s < i := by omega
                have hhs : S.has (s : Int) = true := by rw [HH.out]; simp; omega
                have HT := Lib.hid hhs
                rw [hhs] at HH
                have HTK := Lib.hid (RkS.kept_tou HKL.out.room hhs)
                go_wp2_with fail
                refine (ltouch_at (s : Int) HKL.out.m).mono ?_
                rw [hhs]
                rintro r w4 h
                obtain ⟨rfl, hm, hk⟩ := h
                have HM4 := Lib.hid hm
                have HL4 := Lib.hid (HKL.out.l.keep hk (fun k e => e))
                have HB4 : Hid (Below w.heap.size w w4) := Lib.hid (HKL.out.old.trans (hk.below HKL.out.old.size (fun k e => by rw [e]; exact HKL.out.ge)))
                have HC4 := Lib.hid (And.intro HKL.out.ge (And.intro HKL.out.en (And.intro HKL.out.full (And.intro HKL.out.room HKL.out.m.2))))
                clear hm hk hhs HKL HRD
                have d0 : decide ((s : Int) < 0) = false := by simp
                have d1 : decide (0 ≤ (s : Int)) = true := by simp
                have d2 : decide ((s : Int) < (i : Int)) = true := by simpa using hs
                have d3 : decide (i ≤ s) = false := by simp; omega
                have d4 : decide (s < i) = true := by simpa using hs
                have HNW : Hid (NatR (w4.alloc (.cells #[.int .i64 (s : Int)] 3)) w4.heap.size w4.heap.size 1 [s]) := Lib.hid (NatR.new w4 _ (Nat.le_refl _) [s] (by simp))
                have HNB : Hid (Below w4.heap.size w4 (w4.alloc (.cells #[.int .i64 (s : Int)] 3))) := Lib.hid ((Below.refl _ _).alloc (Nat.le_refl _) _)
                go_wp2_with fail
                go_loopg [11, 65] nl (fun q x y wr => ∃ (k nw g cap : Nat), k ≤ nl ∧ q = nl - k ∧ x = .slice (some ⟨g, 0, none⟩) nw cap ∧ y = .int .i64 k ∧ (s :: butL (S.K.take k) s).length = nw ∧ nw ≤ k + 1 ∧ NatR wr w4.heap.size g cap (s :: butL (S.K.take k) s) ∧ Below w4.heap.size w4 wr)
                case atStart => exact ⟨0, 1, _, _, by omega, by omega, rfl, rfl, rfl, by omega, HNW.out, HNB.out⟩
                case round =>
                  clear HNW HNB
                  obtain ⟨k, nw, g, cap, hk, hq3, rfl, rfl, hnw, hnwk, hnr, hbw⟩ := hrel
                  have HQ3 := Lib.hid hq3
                  have HNW := Lib.hid hnw
                  have HNR := Lib.hid hnr
                  have HBW := Lib.hid hbw
                  clear hq3 hnw hnr hbw
                  by_cases hlt3 : k < nl
                  · have hkl : k < S.K.length := by rw [HNK.out]; exact hlt3
                    obtain ⟨b2, o2, rfl, hbl2, hcell⟩ := (HL4.out.rdI.1.below HBW.out) (by rw [iCells_len, nats_len]; omega)
                    have c0 := rdv_i (B := 0) hcell k (by rw [nats_len]; exact hkl)
                    have HTS := Lib.hid (take_snocN hkl s)
                    rw [show (nats S.K)[k]'(by rw [nats_len]; exact hkl) = (S.K[k] : Int) by simp [nats]] at c0
                    obtain ⟨t, ht⟩ : ∃ t, S.K[k] = t := ⟨_, rfl⟩
                    rw [ht] at c0 HTS
                    clear hcell ht
                    by_cases he : t = s
                    · have q1 : ((t : Int) == (s : Int)) = true := by rw [he]; simp
                      have q2 : ((t : Int) != (s : Int)) = false := by rw [he]; simp
                      have HT2 : Hid (butL (S.K.take (k + 1)) s = butL (S.K.take k) s) := Lib.hid (by rw [HTS.out, he]; simp)
                      clear HTS he
                      go_wp2_with fail
                      go_roundg (nl - (k + 1))
                      case rel => exact ⟨k + 1, nw, g, cap, by omega, rfl, rfl, by go_num, by rw [HT2.out]; exact HNW.out, by omega, by rw [HT2.out]; exact HNR.out, HBW.out⟩
                      case measure => have := HQ3.out; omega
                    · have q1 : ((t : Int) == (s : Int)) = false := by simp; omega
                      have q2 : ((t : Int) != (s : Int)) = true := by simp; omega
                      have HT2 : Hid (butL (S.K.take (k + 1)) s = butL (S.K.take k) s ++ [t]) := Lib.hid (by
                        have : (t == s) = false := by simpa using he
                        rw [HTS.out]
                        simp [bne, this])
                      have HX5 : Hid (RdV (wr.alloc (.cells #[.int .i64 (t : Int)] 3)) (wr.alloc (.cells #[.int .i64 (t : Int)] 3)).heap.size (some ⟨wr.heap.size, 0, none⟩) (iCells [(t : Int)])) := Lib.hid (row_rd wr _)
                      have HR5 := Lib.hid (HNR.out.up ((Below.refl wr.heap.size wr).alloc (Nat.le_refl _) (.cells #[.int .i64 (t : Int)] 3)))
                      have HB5 := Lib.hid (HBW.out.alloc HBW.out.size (.cells #[.int .i64 (t : Int)] 3))
                      have hgm : w4.heap.size ≤ g := HNR.out.mem.1
                      clear HTS he HBW
                      go_wp2_with (first
                        | (at_builtin; refine appI _ rfl (.tmp 72) (.tmp 74) rfl w4.heap.size _ g cap nw 1 1 (nats _) [(t : Int)] (some ⟨wr.heap.size, 0, none⟩) rfl HR5.out (by rw [nats_len, HNW.out]) rfl HX5.out rfl (by omega) HB5.out.size ?_; intro g6 cap6 w6 ho hg hgg; have HO6 : Hid (NatR w6 w4.heap.size g6 cap6 (s :: butL (S.K.take (k + 1)) s)) := Lib.hid (by have := ho; rw [HT2.out]; rw [show nats (s :: butL (S.K.take k) s) ++ [(t : Int)] = nats (s :: (butL (S.K.take k) s ++ [t])) from by simp [nats]] at this; exact this); have HB6 := Lib.hid (HB5.out.grown hg HB5.out.size (fun e he => by have := Option.some.inj he; omega)); clear ho hg hgg)
                        | fail)
                      go_roundg (nl - (k + 1))
                      case rel => exact ⟨k + 1, nw + 1, g6, cap6, by omega, rfl, by go_num, by go_num, by rw [HT2.out, ← HNW.out]; simp, by omega, HO6.out, HB6.out⟩
                      case measure => have := HQ3.out; omega
                  · obtain rfl : k = nl := by omega
                    have hcp := HNR.out.cap
                    rw [iCells_len, nats_len, HNW.out] at hcp
                    obtain ⟨h2, eh2⟩ : ∃ h2, i / 2 = h2 := ⟨_, rfl⟩
                    have e2 : (i : Int) / 2 = (h2 : Int) := by omega
                    have e3 : ¬ ((h2 : Int) < 0) := by omega
                    have HKT : Hid ((S.touS (s : Int)).K = (s :: butL S.K s).take (min nw h2)) := Lib.hid (by
                      have h1 := HTK.out
                      rw [HC4.out.2.1, eh2] at h1
                      rw [h1]
                      have h3 := HNW.out
                      rw [← HNK.out, List.take_length] at h3
                      rw [h3])
                    clear eh2
                    by_cases hd : nw ≤ h2
                    · have HF : Hid (KL w wr kb (S.touS (s : Int)) i (some ⟨g, 0, none⟩) nw cap) := Lib.hid (by
                        have := KL.next (h2 := h2) HC4.out.1 HC4.out.2.1 HC4.out.2.2.1 HC4.out.2.2.2.1 HC4.out.2.2.2.2 HM4.out HB4.out HBW.out HNR.out HNW.out (by
                          have h3 := HKT.out
                          have h4 := HNK.out
                          rw [← h4, List.take_length]
                          exact h3)
                        rwa [Nat.min_eq_left hd] at this)
                      clear HKT HNR HBW HC4 HM4 HTK
                      go_wp2_with fail
                      go_roundg (m - (j + 1))
                      case rel => exact ⟨j + 1, _, _, nw, cap, by omega, rfl, rfl, by go_num, HF.out⟩
                      case measure => have := HQ2.out; omega
                    · have HF : Hid (KL w wr kb (S.touS (s : Int)) i (some ⟨g, 0, none⟩) h2 cap) := Lib.hid (by
                        have := KL.next (h2 := h2) HC4.out.1 HC4.out.2.1 HC4.out.2.2.1 HC4.out.2.2.2.1 HC4.out.2.2.2.2 HM4.out HB4.out HBW.out HNR.out HNW.out (by
                          have h3 := HKT.out
                          have h4 := HNK.out
                          rw [← h4, List.take_length]
                          exact h3)
                        rwa [Nat.min_eq_right (by omega)] at this)
                      have hd2 : h2 ≤ cap := by omega
                      clear HKT HNR HBW HC4 HM4 HTK
                      go_wp2_with fail
                      go_roundg (m - (j + 1))
                      case rel => exact ⟨j + 1, _, _, h2, cap, by omega, rfl, rfl, by go_num, HF.out⟩
                      case measure => have := HQ2.out; omega
              · have hhs : S.has x = false := by rw [HH.out, Bool.and_eq_false_iff]; simp only [decide_eq_false_iff_not]; omega
                have HT : Hid (S.touS x = S) := Lib.hid (by unfold RkS.touS; rw [if_neg (by rw [hhs]; simp)])
                go_wp2_with fail
                refine (ltouch_at x HKL.out.m).mono ?_
                rw [hhs, HT.out]
                rintro r w4 h
                obtain ⟨rfl, hm, hk⟩ := h
                have HK4 : Hid (KL w w4 kb S i Al nl cl) := Lib.hid ⟨hm, HKL.out.ge, HKL.out.en, HKL.out.full, HKL.out.room, HKL.out.l.keep hk (fun k e => e), HKL.out.old.trans (hk.below HKL.out.old.size (fun k e => by rw [e]; exact HKL.out.ge))⟩
                clear hm hk HKL HH hhs HRD
                by_cases hx0 : x < 0
                · have d0 : decide (x < 0) = true := by simpa using hx0
                  have d1 : decide (0 ≤ x) = false := by simp; omega
                  go_wp2_with fail
                  go_roundg (m - (j + 1))
                  case rel => exact ⟨j + 1, S, Al, nl, cl, by omega, rfl, rfl, by go_num, HK4.out⟩
                  case measure => have := HQ2.out; omega
                · have d0 : decide (x < 0) = false := by simpa using hx0
                  have d1 : decide (0 ≤ x) = true := by simp; omega
                  have d2 : decide (x < (i : Int)) = false := by simp; omega
                  have d3 : decide ((i : Int) ≤ x) = true := by simp; omega
                  go_wp2_with fail
                  go_roundg (m - (j + 1))
                  case rel => exact ⟨j + 1, S, Al, nl, cl, by omega, rfl, rfl, by go_num, HK4.out⟩
                  case measure => have := HQ2.out; omega
            · have hT : S.T.length + nl = i := by
                have h1 := HKL.out.full
                have h2 := HKL.out.en
                have h3 := HNK.out
                unfold RkS.Full RkS.cnt at h1
                omega
              have hT2 : ((S.T.length : Int) == (i : Int) - (nl : Int)) = true := by simp; omega
              have HT := Lib.hid hT
              have h64 : nl ≤ 64 := by omega
              clear hT HR
              go_wp2_with fail
              refine (lkept_at HKL.out.m).mono ?_
              rintro r w4 ⟨A2, c2, rfl, hF, hb⟩
              have HF := Lib.hid hF
              have HM4 := Lib.hid (HKL.out.m.up hb)
              have HL4 := Lib.hid (HKL.out.l.up hb)
              have HB4 := Lib.hid (below_all HKL.out.old hb)
              clear hF hb HKL HRD
              rw [HNK.out]
              go_wp2_with fail
              refine (rsame_is (n := nl) (m := nl) HF.out.rdI.1 HL4.out.rdI.1 (by rw [nats_len]; exact HNK.out) (by rw [nats_len]; exact HNK.out) (by omega)).mono ?_
              rw [show decide (nats S.K = nats S.K) = true by simp]
              rintro r w5 ⟨rfl, hb⟩
              have HM5 := Lib.hid (HM4.out.up hb)
              have HB5 := Lib.hid (below_all HB4.out hb)
              clear hb HM4 HB4 HF HL4
              go_wp2_with fail
              refine (ltrial_at HM5.out).mono ?_
              rintro r w6 ⟨A3, c3, rfl, hF, hb⟩
              have HB6 := Lib.hid (below_all HB5.out hb)
              clear hF hb HM5 HB5
              generalize S.T.length = tl at *
              have htl : tl ≤ 64 := by have := HT.out; omega
              go_wp2_with fail
              go_ret
              exact ⟨rfl, HB6.out⟩
  · rw [if_neg hnn] at h
    obtain rfl := h
    have HB2 := Lib.hid (below_all HB1.out hb)
    clear hb HB1
    go_wp2_with fail
    go_ret
    exact ⟨rfl, HB2.out⟩
end Go.Proofs.Ytpocpeiiacgoaaa
