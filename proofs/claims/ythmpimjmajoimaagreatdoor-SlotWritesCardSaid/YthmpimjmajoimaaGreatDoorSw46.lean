/-
  The document's Write of a checkpoint.
-/
import Derived.Test.YthmpimjmajoimaaGreatDoorSw44
import Derived.Test.YthmpimjmajoimaaGreatDoorSw45
import Derived.Test.YthmpimjmajoimaaGreatDoorSw43
namespace Go.Proofs.YthmpimjmajoimaaGreatDoor
open Go.RowKit

/-- The rows of a checkpoint's blocks, in new memory, at the world where they were made. -/
structure BRows (w0 w1 : World) (C : ChkS) (v : Value) (vs : List Value) : Prop where
  row : RowF (newB w0 w1) w1 v vs
  len : vs.length = C.blocks.length
  el : ∀ i (h1 : i < vs.length) (h2 : i < C.blocks.length), BytF (newB w0 w1) w1 vs[i] C.blocks[i]
/-- What is left of renewing, behind the pages that are laid. -/
def tailX (zi : Int) (T : DevS) (l : List (List Int)) : DevS × Int := if (T.appL zi l).2 ≠ 0 then T.appL zi l else ((T.appL zi l).1.flush, (T.appL zi l).1.mayE 0)
set_option maxHeartbeats 2000000 in
set_option maxRecDepth 100000 in
theorem rswrite_at {F : Nat → Prop} {w : World} {db zb cap n cc : Nat} {zs : List Value} {A : Option Addr} {S : DevS} (C : ChkS) (h : RD F w db zb cap zs S) (hd : S.done ≤ 900000) (hw : C.words) (hrd : RdV w w.heap.size A (u32s C.dir)) (hn : C.dir.length = n) :
    Calls Tryz.prog 15 #[.pointer (some ⟨db, 0, none⟩), ckV C (.slice A n cc)] w (DoneIs F db (S.wr C).1 (S.wr C).2 w) := by
  have hwb := ChkS.words_bd hw
  have HF : Hid (∀ k, F k → k < w.heap.size) := Lib.hid h.lt
  have HH := Lib.hid h
  have hz1 := h.wf.z1
  obtain ⟨zn, hzn⟩ : ∃ x, S.zones.length = x := ⟨_, rfl⟩
  obtain ⟨P, hP⟩ : ∃ x, S.P = x := ⟨_, rfl⟩
  rw [hzn] at hz1
  have HZP := Lib.hid (And.intro hzn hP)
  obtain ⟨X, hX⟩ : ∃ X, S.wr C = X := ⟨_, rfl⟩
  have HX := Lib.hid hX
  rw [hX]
  obtain ⟨rb, hrb⟩ : ∃ x, C.right = x := ⟨_, rfl⟩
  have HRT := Lib.hid hrb
  have HDN := Lib.hid hd
  have HARG : Hid (rb = false ∨ C.z ≠ (zn : Int) ∨ C.p ≠ (P : Int) → X = (S, 1)) := Lib.hid (fun hh => by
    have ha : S.wrArg C = true := by
      unfold DevS.wrArg
      rw [HRT.out, HZP.out.1, HZP.out.2]
      simp only [Bool.or_eq_true, decide_eq_true_eq, Bool.not_eq_true']
      exact hh
    rw [← HX.out]
    unfold DevS.wr
    rw [if_pos ha])
  have HOKA : Hid (rb = true → C.z = (zn : Int) → C.p = (P : Int) → X = renewS S (whereN zn C.nu) C.pages) := Lib.hid (fun h1 h2 h3 => by
    have ha : S.wrArg C = false := by
      unfold DevS.wrArg
      rw [HRT.out, HZP.out.1, HZP.out.2, h1, h2, h3]
      simp
    rw [← HX.out, renew_wr ha, HZP.out.1])
  have HRD0 : Hid (∀ u, Below w.heap.size w u → RDev (grow F w u) u db S) := Lib.hid (fun u hb => ⟨zb, cap, zs, (HH.out.up hb).mono (fun k hk => .inl hk) (fun k hk => hk.elim (fun h1 => Nat.lt_of_lt_of_le (HF.out k h1) hb.size) (fun h1 => h1.2))⟩)
  have HBLA : Hid (rb = true → ∀ u, Below w.heap.size w u → Calls Tryz.prog 40 #[ckV C (.slice A n cc)] u (BlocksN C.blocks u)) := Lib.hid (fun hr u hu => by
    have hrt : C.right = true := hrb.trans hr
    have hpos : 0 < (u32s C.dir).length := by
      unfold ChkS.right rightC rightB at hrt
      simp only [Bool.and_eq_true, decide_eq_true_eq] at hrt
      have := tab_le hrt.1.1 (by have := (bnd_bd C.z C.p).2; omega)
      rw [u32s_len]
      omega
    obtain ⟨B, o, rfl, _⟩ := hrd hpos
    exact rkblocks_n C.nu C.se C.sq C.z C.p C.b B o C.dir n cc u (hrd.up hu) hn (by rw [← hn]; exact hrt) hw)
  have HBLN : Hid (rb = false → ∀ u, Calls Tryz.prog 40 #[ckV C (.slice A n cc)] u (BlocksIs (.int .i64 1) [] u)) := Lib.hid (fun hr u => rkblocks_no C.nu C.se C.sq C.z C.p C.b A n cc u (by rw [← hn]; exact hrb.trans hr))
  have HK0 := Lib.hid (KeptK.new w 46 (kList C.nu C.se C.sq C.z C.p C.b (.slice A n cc)))
  obtain ⟨x0, hx0⟩ : ∃ x, C.nu = x := ⟨_, rfl⟩
  obtain ⟨x1, hx1⟩ : ∃ x, C.se = x := ⟨_, rfl⟩
  obtain ⟨x2, hx2⟩ : ∃ x, C.sq = x := ⟨_, rfl⟩
  obtain ⟨x3, hx3⟩ : ∃ x, C.z = x := ⟨_, rfl⟩
  obtain ⟨x4, hx4⟩ : ∃ x, C.p = x := ⟨_, rfl⟩
  obtain ⟨x5, hx5⟩ : ∃ x, C.b = x := ⟨_, rfl⟩
  have hv2 : ckV C (.slice A n cc) = kV x0 x1 x2 x3 x4 x5 (.slice A n cc) := by rw [← hx0, ← hx1, ← hx2, ← hx3, ← hx4, ← hx5]
  rw [hv2] at HBLA HBLN ⊢
  rw [hx0, hx1, hx2, hx3, hx4, hx5] at HK0
  have HRB : Hid (C.right = true → 11 ≤ x3) := Lib.hid (fun hr => by rw [← hx3]; exact (ChkS.right_bd hr).1.1)
  rw [hx3, hx4] at HARG HOKA
  rw [hx0] at HOKA hwb
  rw [hx1] at hwb
  have HPGE : Hid (∀ i, C.page i = pageB 5 x1 (i : Int) x0 (C.blocks.getD i [])) := Lib.hid (fun i => by rw [← hx0, ← hx1]; rfl)
  clear h hd hw hrd hn hzn hP hX hrb hx0 hx1 hx2 hx3 hx4 hx5 hv2
  by_cases hr : rb = true
  case neg =>
    have HRF : Hid (rb = false) := Lib.hid (by simpa using hr)
    clear hr
    go_enter Tryz.func15, Tryz.ntmps15
    have e0 := HK0.out.2.cell 0 (by simp)
    have e1 := HK0.out.2.cell 1 (by simp)
    have e2 := HK0.out.2.cell 2 (by simp)
    have e3 := HK0.out.2.cell 3 (by simp)
    have e4 := HK0.out.2.cell 4 (by simp)
    have e5 := HK0.out.2.cell 5 (by simp)
    have e6 := HK0.out.2.cell 6 (by simp)
    simp only [List.getElem_cons_zero, List.getElem_cons_succ] at e0 e1 e2 e3 e4 e5 e6
    go_wp2_with fail
    refine (HBLN.out HRF.out _).mono ?_
    rintro r w1 ⟨v, rfl, hv, hb⟩
    obtain ⟨A1, c1, vs1, rfl, _⟩ := hv
    have HK1 := Lib.hid (HK0.out.up hb)
    have HD1 := Lib.hid (HH.out.up HK1.out.1)
    clear hb e0 e1 e2 e3 e4 e5 e6
    have e0 := HK1.out.2.cell 0 (by simp)
    have e1 := HK1.out.2.cell 1 (by simp)
    have e2 := HK1.out.2.cell 2 (by simp)
    have e3 := HK1.out.2.cell 3 (by simp)
    have e4 := HK1.out.2.cell 4 (by simp)
    have e5 := HK1.out.2.cell 5 (by simp)
    have e6 := HK1.out.2.cell 6 (by simp)
    simp only [List.getElem_cons_zero, List.getElem_cons_succ] at e0 e1 e2 e3 e4 e5 e6
    have lk := lt_of_block HK1.out.2
    have ld := lt_of_block HD1.out.dev
    have u0 := HD1.out.dev.cell 0 (by simp)
    have u1 := HD1.out.dev.cell 1 (by simp)
    simp only [List.getElem_cons_zero, List.getElem_cons_succ] at u0 u1
    have HXE : Hid (X = (S, 1)) := Lib.hid (HARG.out (.inl HRF.out))
    go_wp2_with fail
    refine wp_region_in (fun u => Below w1.heap.size w1 u) (Below.refl _ _).drew (by kernel_rfl) (by kernel_rfl) (fun ne => ?_)
    have r3 := fun q : In (fun u => Below w1.heap.size w1 u) => (q.ok.cell (p := ⟨w.heap.size, 3, none⟩) lk).trans e3
    have r4 := fun q : In (fun u => Below w1.heap.size w1 u) => (q.ok.cell (p := ⟨w.heap.size, 4, none⟩) lk).trans e4
    have d0 := fun q : In (fun u => Below w1.heap.size w1 u) => (q.ok.cell (p := ⟨db, 0, none⟩) ld).trans u0
    have d1 := fun q : In (fun u => Below w1.heap.size w1 u) => (q.ok.cell (p := ⟨db, 1, none⟩) ld).trans u1
    repeat (go_big_quiet_step (first | fail))
    refine wpQuiet_nil ?_
    intro nq
    obtain ⟨w2, hw2⟩ : ∃ x, nq.w = x := ⟨_, rfl⟩
    have HB2 := Lib.hid nq.ok
    rw [hw2] at HB2 ⊢
    have HK2 := Lib.hid (HK1.out.up HB2.out)
    have HD2 := Lib.hid (HD1.out.up HB2.out)
    clear r3 r4 d0 d1 hw2 nq e0 e1 e2 e3 e4 e5 e6 u0 u1
    go_wp2_with fail
    go_ret
    rw [HXE.out]
    exact ⟨rfl, (HRD0.out w2 (below_all HK1.out.1 HB2.out)), Kept.of_below (below_all HK1.out.1 HB2.out)⟩
  case pos =>
    have HRTT := Lib.hid hr
    clear hr
    go_enter Tryz.func15, Tryz.ntmps15
    have e0 := HK0.out.2.cell 0 (by simp)
    have e1 := HK0.out.2.cell 1 (by simp)
    have e2 := HK0.out.2.cell 2 (by simp)
    have e3 := HK0.out.2.cell 3 (by simp)
    have e4 := HK0.out.2.cell 4 (by simp)
    have e5 := HK0.out.2.cell 5 (by simp)
    have e6 := HK0.out.2.cell 6 (by simp)
    simp only [List.getElem_cons_zero, List.getElem_cons_succ] at e0 e1 e2 e3 e4 e5 e6
    go_wp2_with fail
    refine (HBLA.out HRTT.out _ HK0.out.1).mono ?_
    rintro r w1 ⟨v, vs, rfl, hv, hvl, hve, hb⟩
    have HBR : Hid (BRows w w1 C v vs) := Lib.hid ⟨hv.mono (fun j h => ⟨Nat.le_trans HK0.out.1.size h.1, h.2⟩), hvl, fun i h1 h2 => (hve i h1 h2).mono (fun j h => ⟨Nat.le_trans HK0.out.1.size h.1, h.2⟩)⟩
    have HK1 := Lib.hid (HK0.out.up hb)
    have HD1 := Lib.hid (HH.out.up HK1.out.1)
    obtain ⟨BA, bc, rfl, _⟩ := hv
    obtain ⟨m, hm⟩ : ∃ m, vs.length = m := ⟨_, rfl⟩
    have HM := Lib.hid hm
    rw [hm] at hvl ⊢
    have HML := Lib.hid hvl
    clear hb e0 e1 e2 e3 e4 e5 e6 hve hm hvl
    have e0 := HK1.out.2.cell 0 (by simp)
    have e1 := HK1.out.2.cell 1 (by simp)
    have e2 := HK1.out.2.cell 2 (by simp)
    have e3 := HK1.out.2.cell 3 (by simp)
    have e4 := HK1.out.2.cell 4 (by simp)
    have e5 := HK1.out.2.cell 5 (by simp)
    have e6 := HK1.out.2.cell 6 (by simp)
    simp only [List.getElem_cons_zero, List.getElem_cons_succ] at e0 e1 e2 e3 e4 e5 e6
    have lk := lt_of_block HK1.out.2
    have ld := lt_of_block HD1.out.dev
    have u0 := HD1.out.dev.cell 0 (by simp)
    have u1 := HD1.out.dev.cell 1 (by simp)
    simp only [List.getElem_cons_zero, List.getElem_cons_succ] at u0 u1
    rw [HZP.out.1] at u0
    rw [HZP.out.2] at u1
    by_cases k3 : x3 = (zn : Int)
    · have q3 : (x3 != (zn : Int)) = false := by simpa using k3
      by_cases k4 : x4 = (P : Int)
      · have q4 : (x4 != (P : Int)) = false := by simpa using k4
        have HXE := Lib.hid (HOKA.out HRTT.out k3 k4)
        have hm16 : m ≤ 16 := by
          have h1 := ChkS.blocks_le (c := C) (HRT.out.trans HRTT.out)
          have h2 := ChkS.right_bd (c := C) (HRT.out.trans HRTT.out)
          have := HML.out
          omega
        have h2z : 2 ≤ S.zones.length := by have := HRB.out (HRT.out.trans HRTT.out); have := HZP.out.1; omega
        go_wp2_with fail
        refine wp_region_in (fun u => Below w1.heap.size w1 u) (Below.refl _ _).drew (by kernel_rfl) (by kernel_rfl) (fun ne => ?_)
        have r3 := fun q : In (fun u => Below w1.heap.size w1 u) => (q.ok.cell (p := ⟨w.heap.size, 3, none⟩) lk).trans e3
        have r4 := fun q : In (fun u => Below w1.heap.size w1 u) => (q.ok.cell (p := ⟨w.heap.size, 4, none⟩) lk).trans e4
        have d0 := fun q : In (fun u => Below w1.heap.size w1 u) => (q.ok.cell (p := ⟨db, 0, none⟩) ld).trans u0
        have d1 := fun q : In (fun u => Below w1.heap.size w1 u) => (q.ok.cell (p := ⟨db, 1, none⟩) ld).trans u1
        repeat (go_big_quiet_step (first | fail))
        refine wpQuiet_nil ?_
        intro nq
        obtain ⟨w2, hw2⟩ : ∃ x, nq.w = x := ⟨_, rfl⟩
        have HB2 := Lib.hid nq.ok
        rw [hw2] at HB2 ⊢
        have HK2 := Lib.hid (HK1.out.up HB2.out)
        have HD2 := Lib.hid (HD1.out.up HB2.out)
        clear r3 r4 d0 d1 hw2 nq e0 e1 e2 e3 e4 e5 e6 u0 u1
        have e0 := HK2.out.2.cell 0 (by simp)
        have e1 := HK2.out.2.cell 1 (by simp)
        have e2 := HK2.out.2.cell 2 (by simp)
        have e3 := HK2.out.2.cell 3 (by simp)
        have e4 := HK2.out.2.cell 4 (by simp)
        have e5 := HK2.out.2.cell 5 (by simp)
        have e6 := HK2.out.2.cell 6 (by simp)
        simp only [List.getElem_cons_zero, List.getElem_cons_succ] at e0 e1 e2 e3 e4 e5 e6
        go_wp2_with fail
        refine (rswhere_at x0 HD2.out h2z hwb.1.1 hwb.1.2).mono ?_
        rintro r w' ⟨rfl, rfl⟩
        rw [HZP.out.1]
        obtain ⟨zi, hzi⟩ : ∃ x, whereN zn x0 = x := ⟨_, rfl⟩
        rw [hzi] at HXE ⊢
        clear hzi e0 e1 e2 e3 e4 e5 e6
        go_wp2_with fail
        refine (rreset_at zi HD2.out (by have := HDN.out; omega)).mono ?_
        rintro r w3 ⟨rfl, hd3, hk3⟩
        obtain ⟨re, hre⟩ : ∃ x, S.mayE (S.resetE zi) = x := ⟨_, rfl⟩
        rw [hre]
        obtain ⟨l, hl⟩ : ∃ l, C.pages = l := ⟨_, rfl⟩
        rw [hl] at HXE
        have HPL : Hid (l.length = m) := Lib.hid (by rw [← hl, ChkS.pages_len, ← HML.out])
        have HPG : Hid (∀ i (hi : i < l.length), l[i] = C.page i ∧ (C.page i).length = 33 ∧ Byt (C.page i)) := Lib.hid (fun i hi => by
          subst hl
          exact ⟨ChkS.pages_get hi, ChkS.page_33 (by rw [ChkS.pages_len] at hi; exact hi), ChkS.page_byt i⟩)
        have HB16 : Hid (∀ i, i < C.blocks.length → (C.blocks.getD i []).length = 16 ∧ Byt (C.blocks.getD i [])) := Lib.hid (fun i hi => ⟨ChkS.block_16 hi, ChkS.block_byt i⟩)
        have HX0 : Hid ((re = 0 → X = tailX zi (S.reset zi) l) ∧ (re ≠ 0 → X = (S.reset zi, re))) := Lib.hid ⟨fun e => by rw [HXE.out]; unfold renewS tailX; rw [hre, if_neg (by omega)], fun e => by rw [HXE.out]; unfold renewS; rw [hre, if_pos e]⟩
        have HRD : Hid ((S.reset zi).done ≤ 900001) := Lib.hid (by have := DevS.reset_done S zi; have := HDN.out; omega)
        have HK12 : Hid (Kept F w1 w3 ∧ ∀ k, grow F w2 w3 k → grow F w1 w3 k) := Lib.hid ⟨(Kept.of_below HB2.out).and hk3, fun k h => h.elim .inl (fun h => .inr ⟨Nat.le_trans HB2.out.size h.1, h.2⟩)⟩
        have HD3 := Lib.hid hd3
        have HLF : Hid (∀ {u : World} {G : Nat → Prop}, Kept F w1 u → (∀ k, G k → grow F w1 u k) → Kept F w u ∧ ∀ k, G k → grow F w u k) := Lib.hid (fun hk hg => ⟨(Kept.of_below HK1.out.1).and hk, fun k h => (hg k h).elim .inl (fun h => .inr ⟨Nat.le_trans HK1.out.1.size h.1, h.2⟩)⟩)
        obtain ⟨S0, hS0⟩ : ∃ x, S.reset zi = x := ⟨_, rfl⟩
        rw [hS0] at HX0 HRD HD3
        clear hd3 hk3 hre hl hS0 HARG HOKA HBLA HBLN HD1 HD2 HK2
        go_wp2_with fail
        go_loopg [6, 8] (m + 1) (fun q x6 x8 wr => ∃ (i : Nat) (e : Int) (T : DevS) (G : Nat → Prop), i ≤ m ∧ q = m + 1 - i ∧ x6 = .int .i64 e ∧ x8 = .int .i64 (i : Int) ∧ (e = 0 → X = tailX zi T (l.drop i)) ∧ (e ≠ 0 → X = (T, e)) ∧ T.done ≤ 900001 + i ∧ RDev G wr db T ∧ Kept F w1 wr ∧ (∀ k, G k → grow F w1 wr k))
        case atStart => exact ⟨0, re, S0, _, by omega, by omega, rfl, rfl, fun e => by rw [List.drop_zero]; exact HX0.out.1 e, HX0.out.2, HRD.out, HD3.out, HK12.out.1, HK12.out.2⟩
        case round =>
          clear HX0 HRD HD3 HK12
          obtain ⟨i, e, T, G, hi, hq, rfl, rfl, hx1, hx2, htd, ⟨zb', cap', zs', hd⟩, hk, hg⟩ := hrel
          have HQ := Lib.hid hq
          have HXX := Lib.hid (And.intro hx1 hx2)
          have HTD := Lib.hid htd
          have HD := Lib.hid hd
          have HK := Lib.hid (And.intro hk hg)
          have HNG : Hid (∀ j, newB w w1 j → ¬ G j) := Lib.hid (fun j hj h => by
            rcases hg j h with h3 | h3
            · have := HF.out j h3
              have := hj.1
              omega
            · have := hj.2
              omega)
          have HNF : Hid (∀ j, newB w w1 j → ¬ F j) := Lib.hid (fun j hj h => by
            have := HF.out j h
            have := hj.1
            omega)
          have HKB := Lib.hid (hk.blk HK1.out.2 (fun h => by have := HF.out _ h; omega))
          have HRW := Lib.hid (HBR.out.row.keep hk HNF.out)
          clear hq hx1 hx2 htd hd hk hg
          have f0 := HKB.out.cell 0 (by simp)
          have f1 := HKB.out.cell 1 (by simp)
          simp only [List.getElem_cons_zero, List.getElem_cons_succ] at f0 f1
          have lkb := lt_of_block HKB.out
          by_cases hlt : i < m
          · by_cases he : e = 0
            · subst he
              obtain ⟨AA, ca, hee, hcc, hrd, _, _⟩ := HRW.out
              rw [HM.out] at hee hcc
              injection hee with he1 _ he3
              subst he1 he3
              have hiv : i < vs.length := by rw [HM.out]; exact hlt
              obtain ⟨bb, bo, rfl, hbl, hbc⟩ := hrd (by omega)
              have z0 := hbc i hiv
              have hib : i < C.blocks.length := by rw [← HML.out]; exact hlt
              obtain ⟨YA, yc, hye, hyc, hyr, _, _⟩ := (HBR.out.el i hiv hib).keep HK.out.1 HNF.out
              have hb16 := HB16.out i hib
              rw [List.getD_eq_getElem?_getD, List.getElem?_eq_getElem hib, Option.getD_some] at hb16
              obtain ⟨blk, hblk⟩ : ∃ x, C.blocks[i] = x := ⟨_, rfl⟩
              have HBE : Hid (C.blocks.getD i [] = blk) := Lib.hid (by rw [List.getD_eq_getElem?_getD, List.getElem?_eq_getElem hib, Option.getD_some]; exact hblk)
              rw [hblk] at hye hyc hyr hb16
              rw [hye, hb16.1] at z0
              rw [hb16.1] at hyc
              obtain ⟨yb, yo, rfl, hyl, _⟩ := hyr (by omega)
              have HYR := Lib.hid hyr
              have HB6 := Lib.hid hb16
              clear hye hyr hblk hbc hrd hb16
              have HH3 : Hid (∀ u, Below wr.heap.size wr u → (fun w' => w'.cell? ⟨w.heap.size, 1, none⟩ = some (.int .u32 x1) ∧ w'.cell? ⟨w.heap.size, 0, none⟩ = some (.int .u32 x0) ∧ w'.cell? ⟨bb, bo + i, none⟩ = some (.slice (some ⟨yb, yo, none⟩) 16 yc)) u) := Lib.hid (fun u hb => ⟨(hb.cell (p := ⟨w.heap.size, 1, none⟩) lkb).trans f1, (hb.cell (p := ⟨w.heap.size, 0, none⟩) lkb).trans f0, (hb.cell (p := ⟨bb, bo + i, none⟩) hbl).trans z0⟩)
              have KD := Lib.hid (HH3.out _ (Below.refl _ _).drew)
              have hwi : IntKind.u32.wrap (i : Int) = (i : Int) := IntWalk.u32_in _ (by omega)
              have HYD : Hid (Rd wr.drew wr.drew.heap.size (some ⟨yb, yo, none⟩) blk) := Lib.hid (HYR.out)
              go_wp2_with fail
              go_region_held3 (fun w' => w'.cell? ⟨w.heap.size, 1, none⟩ = some (.int .u32 x1) ∧ w'.cell? ⟨w.heap.size, 0, none⟩ = some (.int .u32 x0) ∧ w'.cell? ⟨bb, bo + i, none⟩ = some (.slice (some ⟨yb, yo, none⟩) 16 yc))
                (first | exact KD.out | exact K5.out)
                (first
                  | (go_at_call 42; (with_reducible refine (rbytes_ok 5 x1 (i : Int) x0 yb yo blk yc _ HYD.out HB6.out.2 HB6.out.1 hyc (by decide) hwb.2 (by omega) hwb.1).mono ?_); rintro r w5 ⟨g, cp, rfl, ho, hb⟩; have HO5 := Lib.hid ho; have HB5 : Hid (Below wr.heap.size wr w5) := Lib.hid ((Below.refl wr.heap.size wr).drew.trans hb); have K5 := Lib.hid (HH3.out _ HB5.out); clear ho hb))
              obtain ⟨pg, hpg⟩ : ∃ x, l[i]'(by rw [HPL.out]; exact hlt) = x := ⟨_, rfl⟩
              have HPE : Hid (pg = pageB 5 x1 (i : Int) x0 blk ∧ pg.length = 33 ∧ Byt pg) := Lib.hid (by
                have h := HPG.out i (by rw [HPL.out]; exact hlt)
                rw [hpg] at h
                refine ⟨by rw [h.1, HPGE.out, HBE.out], by rw [h.1]; exact h.2.1, by rw [h.1]; exact h.2.2⟩)
              have HDR : Hid (l.drop i = pg :: l.drop (i + 1)) := Lib.hid (by rw [← hpg]; exact List.drop_eq_getElem_cons (by rw [HPL.out]; exact hlt))
              have HO6 : Hid (Own8 w5 wr.heap.size g cp pg) := Lib.hid (by rw [HPE.out.1]; exact HO5.out)
              clear hpg HO5
              go_wp2_with fail
              refine (rappend_at zi (some ⟨g, 0, none⟩) 33 cp pg (HD.out.up HB5.out) (by have := HTD.out; omega) HPE.out.2.1 HO6.out.rd (InF.one (fun hG => by have := HD.out.lt g hG; have := HO6.out.mem.1; omega)).n (fun e => by cases e) HPE.out.2.2).mono ?_
              rintro r w6 ⟨rfl, hd6, hk6⟩
              obtain ⟨ae, hae⟩ : ∃ x, T.mayE (T.appE zi pg) = x := ⟨_, rfl⟩
              rw [hae]
              have HNX : Hid ((ae = 0 → X = tailX zi (T.app zi pg) (l.drop (i + 1))) ∧ (ae ≠ 0 → X = (T.app zi pg, ae))) := Lib.hid (by
                have h0 := HXX.out.1 (by simp)
                rw [HDR.out] at h0
                have hL : T.appL zi (pg :: l.drop (i + 1)) = if ae = 0 then (T.app zi pg).appL zi (l.drop (i + 1)) else (T.app zi pg, ae) := by
                  show (if T.mayE (T.appE zi pg) = 0 then (T.app zi pg).appL zi (l.drop (i + 1)) else (T.app zi pg, T.mayE (T.appE zi pg))) = _
                  rw [hae]
                unfold tailX at h0
                rw [hL] at h0
                refine ⟨fun e => ?_, fun e => ?_⟩
                · rw [if_pos e] at h0
                  exact h0
                · rw [if_neg e, if_pos e] at h0
                  exact h0)
              have HTN : Hid ((T.app zi pg).done ≤ 900001 + (i + 1)) := Lib.hid (by have := DevS.app_done T zi pg; have := HTD.out; omega)
              have HD6 := Lib.hid hd6
              have HK6 : Hid (Kept F w1 w6 ∧ ∀ k, grow G w5 w6 k → grow F w1 w6 k) := Lib.hid (by
                have hk5 : Kept F w1 w5 := HK.out.1.and (Kept.of_below HB5.out)
                have hg5 : ∀ k, G k → grow F w1 w5 k := fun k h => (HK.out.2 k h).elim .inl (fun h => .inr ⟨h.1, Nat.lt_of_lt_of_le h.2 HB5.out.size⟩)
                exact ⟨kept_step hk5 hg5 hk6, grow_step hg5 hk5.size hk6.size⟩)
              clear hd6 hk6 hae
              go_wp2_with fail
              go_roundg (m + 1 - (i + 1))
              case rel => exact ⟨i + 1, ae, T.app zi pg, _, by omega, rfl, rfl, by go_num, HNX.out.1, HNX.out.2, HTN.out, HD6.out, HK6.out.1, HK6.out.2⟩
              case measure => have := HQ.out; omega
            · have HXE2 : Hid (X = (T, e)) := Lib.hid (HXX.out.2 he)
              have o1 : (e == 0) = false := by simpa using he
              have o2 : (e != 0) = true := by simpa using he
              go_wp2_with fail
              go_ret
              rw [HXE2.out]
              obtain ⟨g1, g2⟩ := HLF.out HK.out.1 HK.out.2
              exact ⟨rfl, ⟨zb', cap', zs', HD.out.mono g2 (fun k hk => hk.elim (fun h1 => Nat.lt_of_lt_of_le (HF.out k h1) g1.size) (fun h1 => h1.2))⟩, g1⟩
          · obtain rfl : i = m := by omega
            by_cases he : e = 0
            · subst he
              have HXE2 : Hid (X = (T.flush, T.mayE 0)) := Lib.hid (by
                rw [HXX.out.1 (by simp), ← HPL.out, List.drop_length]
                rfl)
              go_wp2_with fail
              refine (rflush_at HD.out (by have := HTD.out; omega)).mono ?_
              rintro r w6 ⟨rfl, hd6, hk6⟩
              have HD6 := Lib.hid hd6
              have HK6 : Hid (Kept F w1 w6 ∧ ∀ k, grow G wr w6 k → grow F w1 w6 k) := Lib.hid ⟨kept_step HK.out.1 HK.out.2 hk6, grow_step HK.out.2 HK.out.1.size hk6.size⟩
              clear hd6 hk6
              go_wp2_with fail
              go_ret
              rw [HXE2.out]
              obtain ⟨g1, g2⟩ := HLF.out HK6.out.1 HK6.out.2
              obtain ⟨zb6, cap6, zs6, hd6⟩ := HD6.out
              exact ⟨rfl, ⟨zb6, cap6, zs6, hd6.mono g2 (fun k hk => hk.elim (fun h1 => Nat.lt_of_lt_of_le (HF.out k h1) g1.size) (fun h1 => h1.2))⟩, g1⟩
            · have HXE2 : Hid (X = (T, e)) := Lib.hid (HXX.out.2 he)
              have o1 : (e == 0) = false := by simpa using he
              have o2 : (e != 0) = true := by simpa using he
              go_wp2_with fail
              go_ret
              rw [HXE2.out]
              obtain ⟨g1, g2⟩ := HLF.out HK.out.1 HK.out.2
              exact ⟨rfl, ⟨zb', cap', zs', HD.out.mono g2 (fun k hk => hk.elim (fun h1 => Nat.lt_of_lt_of_le (HF.out k h1) g1.size) (fun h1 => h1.2))⟩, g1⟩
      · have q4 : (x4 != (P : Int)) = true := by simpa using k4
        have HXE : Hid (X = (S, 1)) := Lib.hid (HARG.out (.inr (.inr k4)))
        go_wp2_with fail
        refine wp_region_in (fun u => Below w1.heap.size w1 u) (Below.refl _ _).drew (by kernel_rfl) (by kernel_rfl) (fun ne => ?_)
        have r3 := fun q : In (fun u => Below w1.heap.size w1 u) => (q.ok.cell (p := ⟨w.heap.size, 3, none⟩) lk).trans e3
        have r4 := fun q : In (fun u => Below w1.heap.size w1 u) => (q.ok.cell (p := ⟨w.heap.size, 4, none⟩) lk).trans e4
        have d0 := fun q : In (fun u => Below w1.heap.size w1 u) => (q.ok.cell (p := ⟨db, 0, none⟩) ld).trans u0
        have d1 := fun q : In (fun u => Below w1.heap.size w1 u) => (q.ok.cell (p := ⟨db, 1, none⟩) ld).trans u1
        repeat (go_big_quiet_step (first | fail))
        refine wpQuiet_nil ?_
        intro nq
        obtain ⟨w2, hw2⟩ : ∃ x, nq.w = x := ⟨_, rfl⟩
        have HB2 := Lib.hid nq.ok
        rw [hw2] at HB2 ⊢
        have HK2 := Lib.hid (HK1.out.up HB2.out)
        have HD2 := Lib.hid (HD1.out.up HB2.out)
        clear r3 r4 d0 d1 hw2 nq e0 e1 e2 e3 e4 e5 e6 u0 u1
        go_wp2_with fail
        go_ret
        rw [HXE.out]
        exact ⟨rfl, (HRD0.out w2 (below_all HK1.out.1 HB2.out)), Kept.of_below (below_all HK1.out.1 HB2.out)⟩
    · have q3 : (x3 != (zn : Int)) = true := by simpa using k3
      have HXE : Hid (X = (S, 1)) := Lib.hid (HARG.out (.inr (.inl k3)))
      go_wp2_with fail
      refine wp_region_in (fun u => Below w1.heap.size w1 u) (Below.refl _ _).drew (by kernel_rfl) (by kernel_rfl) (fun ne => ?_)
      have r3 := fun q : In (fun u => Below w1.heap.size w1 u) => (q.ok.cell (p := ⟨w.heap.size, 3, none⟩) lk).trans e3
      have r4 := fun q : In (fun u => Below w1.heap.size w1 u) => (q.ok.cell (p := ⟨w.heap.size, 4, none⟩) lk).trans e4
      have d0 := fun q : In (fun u => Below w1.heap.size w1 u) => (q.ok.cell (p := ⟨db, 0, none⟩) ld).trans u0
      have d1 := fun q : In (fun u => Below w1.heap.size w1 u) => (q.ok.cell (p := ⟨db, 1, none⟩) ld).trans u1
      repeat (go_big_quiet_step (first | fail))
      refine wpQuiet_nil ?_
      intro nq
      obtain ⟨w2, hw2⟩ : ∃ x, nq.w = x := ⟨_, rfl⟩
      have HB2 := Lib.hid nq.ok
      rw [hw2] at HB2 ⊢
      have HK2 := Lib.hid (HK1.out.up HB2.out)
      have HD2 := Lib.hid (HD1.out.up HB2.out)
      clear r3 r4 d0 d1 hw2 nq e0 e1 e2 e3 e4 e5 e6 u0 u1
      go_wp2_with fail
      go_ret
      rw [HXE.out]
      exact ⟨rfl, (HRD0.out w2 (below_all HK1.out.1 HB2.out)), Kept.of_below (below_all HK1.out.1 HB2.out)⟩
end Go.Proofs.YthmpimjmajoimaaGreatDoor
