/-
  platelayerlaw13.ZonesTurn answers true.
-/
import Derived.Test.YteoohafadijkmaaTaMath2
import Derived.Test.YteoohafadijkmaaTaAw
import Derived.IntWalk
namespace Go.Proofs.Yteoohafadijkmaa
open Go.RowKit

theorem rot_tmod {n i k : Nat} : (((i + k : Nat) : Int)).tmod (n : Int) = TaS.rot n i k := by
  unfold TaS.rot
  exact (Int.ofNat_tmod _ _).symm
set_option maxHeartbeats 4000000 in
set_option maxRecDepth 100000 in
theorem zoturn_true {E : Value → Prop} (O : TOps E) {w : World} (n t : Int) : Calls Try.prog 4 #[.int .i64 n, .int .i64 t] w (BoolB true w) := by
  go_enter Try.func4, Try.ntmps4
  go_wp2_with fail
  refine (zoawake_true O w).mono ?_
  rintro r w1 ⟨rfl, hb⟩
  have HB1 := Lib.hid hb
  clear hb
  go_wp2_with fail
  refine (O.new n).mono ?_
  rintro r w2 ⟨hb, h⟩
  have HB2 := Lib.hid (below_all HB1.out hb)
  by_cases hn : 1 ≤ n ∧ n ≤ 24
  · rw [if_pos hn] at h
    obtain ⟨tb, rfl, hd⟩ := h
    have HX : Hid (TaX O w w2 tb (TaS.new n.toNat) (fun _ => False)) := Lib.hid ⟨_, hd, fun k hk => ⟨by have := HB1.out.size; omega, id⟩, fun k hk => hk.elim, HB2.out⟩
    clear hd hb
    by_cases h0 : t < 0
    · have d0 : decide (t < 0) = true := by simpa using h0
      clear h0
      go_wp2_with fail
      go_ret
      exact ⟨rfl, HB2.out⟩
    by_cases h2 : 200 < t
    · have d0 : decide (t < 0) = false := by simpa using h0
      have d2 : decide (200 < t) = true := by simpa using h2
      clear h0
      go_wp2_with fail
      go_ret
      exact ⟨rfl, HB2.out⟩
    obtain ⟨n, rfl⟩ : ∃ m : Nat, n = (m : Int) := ⟨n.toNat, by omega⟩
    obtain ⟨t, rfl⟩ : ∃ m : Nat, t = (m : Int) := ⟨t.toNat, by omega⟩
    have hn1 : 1 ≤ n := by omega
    have hn2 : n ≤ 24 := by omega
    have ht2 : t ≤ 200 := by omega
    rw [Int.toNat_natCast] at HX
    have HP : Hid (TaS.Ph1 (TaS.new n) n 0) := Lib.hid (TaS.Ph1.new hn1)
    have HN1 := Lib.hid hn1
    have z0 : ((n : Int) == 0) = false := by simp; omega
    clear hn
    go_wp2_with fail
    clear h0 h2
    go_loopg [34] t (fun q y wr => ∃ (i : Nat) (T : TaS), i ≤ t ∧ q = t - i ∧ y = .int .i64 (i : Int) ∧ TaS.Ph1 T n i ∧ TaX O w wr tb T (fun _ => False))
    case atStart => exact ⟨0, _, by omega, by omega, rfl, HP.out, HX.out⟩
    case round =>
      clear HX HP
      obtain ⟨i, T, hi, hq, rfl, hp, hx⟩ := hrel
      have HQ := Lib.hid hq
      have HP := Lib.hid hp
      have HX := Lib.hid hx
      clear hq hp hx
      by_cases hlt : i < t
      · obtain ⟨e1, e2, e3, e4, e5, e6, e7, e8⟩ := HP.out.step HN1.out
        have HS := Lib.hid (And.intro e3 (And.intro e4 e5))
        have HD := Lib.hid (And.intro e6 e7)
        have HPN := Lib.hid e8
        have HT := Lib.hid (xtake HX.out)
        rw [e1, e2] at HT
        have hr : ((i : Int)).tmod (n : Int) = TaS.rot n i 0 := by have := rot_tmod (n := n) (i := i) (k := 0); rwa [Nat.add_zero] at this
        have hzb := TaS.rot_in (n := n) (i := i) (k := 0) HN1.out
        obtain ⟨z, hz⟩ : ∃ z, TaS.rot n i 0 = z := ⟨_, rfl⟩
        rw [hz] at HS HD HPN HT hr hzb
        have hr2 : IntKind.i64.wrap z = z := IntWalk.i64_in _ (by omega)
        clear e1 e2 e3 e4 e5 e6 e7 e8 hz hzb
        have qz : (z != z) = false := by simp
        go_wp2_with fail
        refine HT.out.mono ?_
        rintro r w4 h
        have HX1 := Lib.hid h.2.1
        obtain ⟨rfl, _, _⟩ := h
        have HC := Lib.hid (xclose z HX1.out (by rw [HD.out.1]; omega))
        rw [HS.out.1] at HC
        clear HT
        go_wp2_with fail
        refine HC.out.mono ?_
        rintro r w5 h
        have HX2 := Lib.hid h.2.1
        obtain ⟨rfl, _, _⟩ := h
        have HA := Lib.hid (xage z HX2.out (by rw [HD.out.2]; omega))
        rw [HS.out.2.1] at HA
        clear HC
        go_wp2_with fail
        refine HA.out.mono ?_
        rintro r w6 ⟨rfl, hb⟩
        have HX3 := Lib.hid (HX2.out.up hb)
        have HGV := Lib.hid (xgive z HX3.out (by rw [HD.out.2]; omega))
        rw [HS.out.2.2] at HGV
        clear HA hb
        go_wp2_with fail
        refine HGV.out.mono ?_
        rintro r w7 h
        have HX4 := Lib.hid h.2.1
        obtain ⟨rfl, _, _⟩ := h
        clear HGV
        go_wp2_with fail
        go_roundg (t - (i + 1))
        case rel => exact ⟨i + 1, _, by omega, rfl, by go_num, HPN.out, HX4.out⟩
        case measure => have := HQ.out; omega
      · obtain rfl : i = t := by omega
        have HP2 := Lib.hid HP.out.ph2
        clear HP
        obtain ⟨t, rfl⟩ : ∃ t, t = i := ⟨_, rfl⟩
        go_wp2_with fail
        clear hlt hi
        go_loopg [71] n (fun q y wr => ∃ (i : Nat) (T : TaS), i ≤ n ∧ q = n - i ∧ y = .int .i64 (i : Int) ∧ TaS.Ph2 T n t i ∧ TaX O w wr tb T (fun _ => False))
        case atStart => exact ⟨0, _, by omega, by omega, rfl, HP2.out, HX.out⟩
        case round =>
          clear HX HP2 HQ
          obtain ⟨i, T, hi, hq, rfl, hp, hx⟩ := hrel
          have HQ := Lib.hid hq
          have HP := Lib.hid hp
          have HX := Lib.hid hx
          clear hq hp hx
          by_cases hlt : i < n
          · obtain ⟨e1, e2, e3, e4, e5⟩ := HP.out.step hlt
            have HS := Lib.hid e3
            have HD := Lib.hid e4
            have HPN := Lib.hid e5
            have HT := Lib.hid (xtake HX.out)
            rw [e1, e2] at HT
            have hr : ((t : Int) + (i : Int)).tmod (n : Int) = TaS.rot n t i := by have := rot_tmod (n := n) (i := t) (k := i); rwa [Int.natCast_add] at this
            have hzb := TaS.rot_in (n := n) (i := t) (k := i) HN1.out
            obtain ⟨z, hz⟩ : ∃ z, TaS.rot n t i = z := ⟨_, rfl⟩
            rw [hz] at HS HPN HT hr hzb
            have hr2 : IntKind.i64.wrap z = z := IntWalk.i64_in _ (by omega)
            have hr3 : IntKind.i64.wrap ((t : Int) + (i : Int)) = (t : Int) + (i : Int) := IntWalk.i64_in _ (by omega)
            clear e1 e2 e3 e4 e5 hz hzb
            have qz : (z != z) = false := by simp
            go_wp2_with fail
            refine HT.out.mono ?_
            rintro r w4 h
            have HX1 := Lib.hid h.2.1
            obtain ⟨rfl, _, _⟩ := h
            have HC := Lib.hid (xclose z HX1.out (by rw [HD.out]; omega))
            rw [HS.out] at HC
            clear HT
            go_wp2_with fail
            refine HC.out.mono ?_
            rintro r w5 h
            have HX2 := Lib.hid h.2.1
            obtain ⟨rfl, _, _⟩ := h
            obtain ⟨T2, hT2⟩ : ∃ T2, T.takeS.closeS z = T2 := ⟨_, rfl⟩
            rw [hT2] at HX2 HPN
            clear HC hr hr2 hr3 qz hT2 HX1
            go_wp2_with fail
            go_loopg [98] (i + 1) (fun q y wx => ∃ k : Nat, k ≤ i + 1 ∧ q = i + 1 - k ∧ y = .int .i64 (k : Int) ∧ TaX O w wx tb T2 (fun _ => False))
            case atStart => exact ⟨0, by omega, by omega, rfl, HX2.out⟩
            case round =>
              clear HX2
              obtain ⟨k, hk, hg, rfl, hx⟩ := hrel
              have HG := Lib.hid hg
              have HX2 := Lib.hid hx
              clear hg hx
              by_cases hki : k < i + 1
              · have hr : ((t : Int) + (k : Int)).tmod (n : Int) = TaS.rot n t k := by have := rot_tmod (n := n) (i := t) (k := k); rwa [Int.natCast_add] at this
                have hag := HPN.out.age hki (by omega)
                have hzb := TaS.rot_in (n := n) (i := t) (k := k) HN1.out
                have HA := Lib.hid (xage (TaS.rot n t k) HX2.out (by rw [HPN.out.dn]; omega))
                rw [hag, show ((i + 1 - 1 - k : Nat) : Int) = (i : Int) - (k : Int) by omega] at HA
                obtain ⟨y, hy⟩ : ∃ z, TaS.rot n t k = z := ⟨_, rfl⟩
                rw [hy] at hr hzb HA
                have hr2 : IntKind.i64.wrap y = y := IntWalk.i64_in _ (by omega)
                have hr3 : IntKind.i64.wrap ((t : Int) + (k : Int)) = (t : Int) + (k : Int) := IntWalk.i64_in _ (by omega)
                have hr4 : IntKind.i64.wrap ((i : Int) - (k : Int)) = (i : Int) - (k : Int) := IntWalk.i64_in _ (by omega)
                have hr5 : IntKind.u32.wrap ((i : Int) - (k : Int)) = (i : Int) - (k : Int) := by
                  rw [IntKind.wrap_u32]
                  exact Int.emod_eq_of_lt (by omega) (by omega)
                have qz : (((i : Int) - (k : Int)) != ((i : Int) - (k : Int))) = false := by simp
                clear hag hy hzb
                go_wp2_with fail
                refine HA.out.mono ?_
                rintro r w6 ⟨rfl, hb⟩
                have HX3 := Lib.hid (HX2.out.up hb)
                clear HA hb
                go_wp2_with fail
                go_roundg (i + 1 - (k + 1))
                case rel => exact ⟨k + 1, by omega, rfl, by go_num, HX3.out⟩
                case measure => have := HG.out; omega
              · go_wp2_with fail
                go_roundg (n - (i + 1))
                case rel => exact ⟨i + 1, _, by omega, rfl, by go_num, HPN.out, HX2.out⟩
                case measure => have := HQ.out; omega
          · obtain rfl : i = n := by omega
            obtain ⟨e1, e2, e3, e4⟩ := HP.out.all HX.out.wf
            have HT := Lib.hid (xtake HX.out)
            rw [e1, e2, e3] at HT
            have HCL := Lib.hid e4
            have HDN := Lib.hid HP.out.dn
            clear e1 e2 e3 e4
            go_wp2_with fail
            refine HT.out.mono ?_
            rintro r w4 h
            have HX1 := Lib.hid h.2.1
            obtain ⟨rfl, _, _⟩ := h
            clear HT
            have HC := Lib.hid (xclosed HX1.out (by rw [HDN.out]; omega))
            go_wp2_with fail
            refine HC.out.mono ?_
            rintro r w5 hnn
            obtain ⟨A, c, rfl, _, _, _, hb⟩ := tr_own hnn
            rw [HCL.out]
            have HX2 := Lib.hid (HX1.out.up hb)
            have qz : ((i : Int) == (i : Int)) = true := by simp
            clear hb hnn HC
            go_wp2_with fail
            go_ret
            exact ⟨rfl, HX2.out.old⟩
  · rw [if_neg hn] at h
    obtain ⟨ev, _, rfl⟩ := h
    clear hb hn
    go_wp2_with fail
    go_ret
    exact ⟨rfl, HB2.out⟩
end Go.Proofs.Yteoohafadijkmaa
