/-
  The landed slots' renew and Write.
-/
import Derived.Test.YthmpimjmajoimaaGreatDoorSw44
import Derived.Test.YthmpimjmajoimaaGreatDoorSw32
namespace Go.Proofs.YthmpimjmajoimaaGreatDoor
open Go.RowKit

/-- A zone is reset, and laid anew: the device, the error. -/
def renewS (S : DevS) (zi : Int) (l : List (List Int)) : DevS × Int :=
  if S.mayE (S.resetE zi) ≠ 0 then (S.reset zi, S.mayE (S.resetE zi))
  else if ((S.reset zi).appL zi l).2 ≠ 0 then (S.reset zi).appL zi l
  else (((S.reset zi).appL zi l).1.flush, ((S.reset zi).appL zi l).1.mayE 0)
/-- What renewing tells and does. -/
def RenDone (Z : ZBas) (F : Nat → Prop) (db : Nat) (x : DevS × Int) (w : World) (r : Ending) (w' : World) : Prop :=
  ∃ F', r = .returned (errV x.2) ∧ Z.D F' w' db x.1 ∧ Kept F w w' ∧ ∀ k, F' k → grow F w w' k
theorem grow_step {F G : Nat → Prop} {w u v : World} (h : ∀ k, G k → grow F w u k) (hs : w.heap.size ≤ u.heap.size) (hk : u.heap.size ≤ v.heap.size) : ∀ k, grow G u v k → grow F w v k := by
  intro k hk2
  rcases hk2 with h1 | h1
  · rcases h k h1 with h2 | h2
    · exact .inl h2
    · exact .inr ⟨h2.1, by omega⟩
  · exact .inr ⟨by omega, h1.2⟩
theorem kept_step {F G : Nat → Prop} {w u v : World} (h : Kept F w u) (hg : ∀ k, G k → grow F w u k) (k : Kept G u v) : Kept F w v := h.trans (k.mono (fun j _ hj => hg j hj))
/-- Rows that lie apart from what turned. -/
theorem PAcc.keep {G : Nat → Prop} {base i : Nat} {w w' : World} {C : ChkS} {v : Value} {vs : List Value} (h : PAcc base w C i v vs) (hk : Kept G w w') (hn : ∀ k, base ≤ k → ¬ G k) : PAcc base w' C i v vs :=
  ⟨h.row.keep hk (fun g e => hn g (h.row.own g e).1), h.len, fun j h1 => by
    obtain ⟨g, e, ho, hb⟩ := h.el j h1
    exact ⟨g, e, hk.blk ho (hn g hb), hb⟩⟩
set_option maxHeartbeats 2000000 in
set_option maxRecDepth 100000 in
theorem slrenew_at (Z : ZBas) {F : Nat → Prop} {w : World} {db n cc : Nat} {A : Option Addr} {S : DevS} (zi : Int) (C : ChkS) (h : Z.D F w db S) (hd : S.done ≤ 900000) (hr : RdV w w.heap.size A (u32s C.dir)) (hl : C.dir.length = n) (hw : C.words) (hrt : C.right = true) :
    Calls Tryz.prog 39 #[.pointer (some ⟨db, 0, none⟩), .int .i64 zi, ckV C (.slice A n cc)] w (RenDone Z F db (renewS S zi C.pages) w) := by
  have hle := ChkS.blocks_le hrt
  have hrb := ChkS.right_bd hrt
  obtain ⟨m, hm⟩ : ∃ m, C.blocks.length = m := ⟨_, rfl⟩
  have HM : Hid (C.pages.length = m) := Lib.hid (by rw [ChkS.pages_len, hm])
  have hm16 : m ≤ 16 := by omega
  have HPP : Hid (∀ i (hi : i < C.pages.length), C.pages[i] = C.page i ∧ (C.page i).length = 33 ∧ Byt (C.page i)) := Lib.hid (fun i hi => ⟨ChkS.pages_get hi, ChkS.page_33 (by rw [ChkS.pages_len] at hi; exact hi), ChkS.page_byt i⟩)
  have HPA : Hid (∀ u, Below w.heap.size w u → Calls Tryz.prog 75 #[ckV C (.slice A n cc)] u (fun r w' => ∃ A' c' vs, r = .returned (.tuple #[.slice A' m c', .nilIface]) ∧ PAcc u.heap.size w' C m (.slice A' m c') vs ∧ Below u.heap.size u w')) := Lib.hid (fun u hu => by
    have := slpages_at (c := cc) C (hr.up hu) hl hw hrt
    rw [hm] at this
    exact this)
  obtain ⟨l, hll⟩ : ∃ l, C.pages = l := ⟨_, rfl⟩
  rw [hll] at HM HPP ⊢
  have HF : Hid (∀ k, F k → k < w.heap.size) := Lib.hid (Z.lt h)
  have HREN : Hid (renewS S zi l = if S.mayE (S.resetE zi) ≠ 0 then (S.reset zi, S.mayE (S.resetE zi)) else if ((S.reset zi).appL zi l).2 ≠ 0 then (S.reset zi).appL zi l else (((S.reset zi).appL zi l).1.flush, ((S.reset zi).appL zi l).1.mayE 0)) := Lib.hid rfl
  obtain ⟨X, hX⟩ : ∃ X, renewS S zi l = X := ⟨_, rfl⟩
  rw [hX] at HREN ⊢
  have HH := Lib.hid h
  have HK0 := Lib.hid (KeptK.new w 40 (kList C.nu C.se C.sq C.z C.p C.b (.slice A n cc)))
  obtain ⟨x0, hx0⟩ : ∃ x, C.nu = x := ⟨_, rfl⟩
  obtain ⟨x1, hx1⟩ : ∃ x, C.se = x := ⟨_, rfl⟩
  obtain ⟨x2, hx2⟩ : ∃ x, C.sq = x := ⟨_, rfl⟩
  obtain ⟨x3, hx3⟩ : ∃ x, C.z = x := ⟨_, rfl⟩
  obtain ⟨x4, hx4⟩ : ∃ x, C.p = x := ⟨_, rfl⟩
  obtain ⟨x5, hx5⟩ : ∃ x, C.b = x := ⟨_, rfl⟩
  have hv : ckV C (.slice A n cc) = kV x0 x1 x2 x3 x4 x5 (.slice A n cc) := by rw [← hx0, ← hx1, ← hx2, ← hx3, ← hx4, ← hx5]
  rw [hv] at HPA ⊢
  rw [hx0, hx1, hx2, hx3, hx4, hx5] at HK0
  have HDN := Lib.hid hd
  clear h hr hl hw hrt hll hm hX hx0 hx1 hx2 hx3 hx4 hx5 hv hrb hle hd
  go_enter Tryz.func39, Tryz.ntmps39
  go_wp2_with fail
  refine (HPA.out _ HK0.out.1).mono ?_
  rintro r w1 ⟨A', c', vs, rfl, hpa, hb1⟩
  have HB1 := Lib.hid (below_all HK0.out.1 hb1)
  have HP1 := Lib.hid (hpa.le (base' := w.heap.size) (by have := HK0.out.1.size; omega))
  have HD1 := Lib.hid (Z.up HH.out HB1.out)
  clear hpa hb1
  go_wp2_with fail
  refine (Z.reset zi HD1.out (by have := HDN.out; omega)).mono ?_
  rintro r w2 ⟨rfl, hd2, hk2⟩
  obtain ⟨re, hre⟩ : ∃ x, S.mayE (S.resetE zi) = x := ⟨_, rfl⟩
  rw [hre] at HREN ⊢
  have HD2 := Lib.hid hd2
  have HK2 := Lib.hid hk2
  have HLF : Hid (∀ {u : World} {G : Nat → Prop}, Kept F w1 u → (∀ k, G k → grow F w1 u k) → Kept F w u ∧ ∀ k, G k → grow F w u k) := Lib.hid (fun hk hg => ⟨(Kept.of_below HB1.out).and hk, fun k h => (hg k h).elim .inl (fun h => .inr ⟨Nat.le_trans HB1.out.size h.1, h.2⟩)⟩)
  clear hd2 hk2 hre
  by_cases e0 : re = 0
  · rw [show errV re = .nilIface from if_pos e0]
    have HX1 : Hid (X = if ((S.reset zi).appL zi l).2 ≠ 0 then (S.reset zi).appL zi l else (((S.reset zi).appL zi l).1.flush, ((S.reset zi).appL zi l).1.mayE 0)) := Lib.hid (by rw [HREN.out, if_neg (by simpa using e0)])
    have HRD : Hid ((S.reset zi).done ≤ 900001) := Lib.hid (by have := DevS.reset_done S zi; have := HDN.out; omega)
    obtain ⟨S0, hS0⟩ : ∃ x, S.reset zi = x := ⟨_, rfl⟩
    rw [hS0] at HX1 HRD HD2
    clear hS0 e0
    go_wp2_with fail
    go_loopg [30] m (fun q x30 wr => ∃ (i : Nat) (T : DevS) (G : Nat → Prop), i ≤ m ∧ q = m - i ∧ x30 = .int .i64 (i : Int) ∧ S0.appL zi l = T.appL zi (l.drop i) ∧ T.done ≤ 900001 + i ∧ Z.D G wr db T ∧ Kept F w1 wr ∧ (∀ k, G k → grow F w1 wr k))
    case atStart => exact ⟨0, S0, _, by omega, by omega, rfl, by rw [List.drop_zero], HRD.out, HD2.out, HK2.out, fun k h => h⟩
    case round =>
      obtain ⟨i, T, G, hi, hq, rfl, happ, htd, hd, hk, hg⟩ := hrel
      have HQ := Lib.hid hq
      have HAP := Lib.hid happ
      have HTD := Lib.hid htd
      have HD := Lib.hid hd
      have HK := Lib.hid (And.intro hk hg)
      have HPR := Lib.hid (HP1.out.keep hk (fun k hk hf => by have := HF.out k hf; omega))
      clear hq happ htd hd hk hg
      by_cases hlt : i < m
      · have hil : i < l.length := by rw [HM.out]; exact hlt
        obtain ⟨AA, ca, he, hcc, hrd, _, _⟩ := HPR.out.row.out
        rw [HPR.out.len] at he hcc
        injection he with he1 _ he3
        subst he1 he3
        have hiv : i < vs.length := by rw [HPR.out.len]; exact hlt
        obtain ⟨b, po, rfl, hbl, hbc⟩ := hrd (by omega)
        have z0 := hbc i hiv
        obtain ⟨g, hge, hgb, hgl⟩ := HPR.out.el i hiv
        rw [hge] at z0
        have HPG := Lib.hid (HPP.out i hil)
        have HGB := Lib.hid hgb
        have HNG : Hid (¬ G g) := Lib.hid (fun h => by
          obtain ⟨g1, h1, h2, _⟩ := HP1.out.el i hiv
          rw [hge] at h1
          injection h1 with h1
          injection h1 with h1
          injection h1 with h1
          subst h1
          have hl1 := lt_of_block h2
          rcases HK.out.2 g h with h3 | h3
          · have := HF.out g h3
            omega
          · omega)
        clear hbc hge hgb hgl hrd
        have HBF : Hid (BytF (fun k => ¬ G k) wr (.slice (some ⟨g, 0, none⟩) 33 33) l[i]) := Lib.hid (by
          rw [HPG.out.1]
          have hrd := HGB.out.rd 0
          rw [List.drop_zero] at hrd
          exact ⟨_, 33, by rw [HPG.out.2.1], by rw [HPG.out.2.1]; omega, hrd, (InF.one HNG.out).n, fun e => by cases e⟩)
        obtain ⟨pg, hpg⟩ : ∃ x, l[i] = x := ⟨_, rfl⟩
        have HDR : Hid (l.drop i = pg :: l.drop (i + 1)) := Lib.hid (by rw [← hpg]; exact List.drop_eq_getElem_cons hil)
        have HPY : Hid (Byt pg ∧ pg.length ≤ 100) := Lib.hid (by rw [← hpg, HPG.out.1]; exact ⟨HPG.out.2.2, by rw [HPG.out.2.1]; omega⟩)
        rw [hpg] at HBF
        clear hpg
        go_wp2_with fail
        refine (Z.append zi _ pg HD.out (by have := HTD.out; omega) HBF.out HPY.out.1 HPY.out.2).mono ?_
        rintro r w3 ⟨rfl, hd3, hk3⟩
        obtain ⟨ae, hae⟩ : ∃ x, T.mayE (T.appE zi pg) = x := ⟨_, rfl⟩
        have HAE := Lib.hid hae
        have HD3 := Lib.hid hd3
        have HK3 : Hid (Kept F w1 w3 ∧ ∀ k, grow G wr w3 k → grow F w1 w3 k) := Lib.hid ⟨kept_step HK.out.1 HK.out.2 hk3, grow_step HK.out.2 HK.out.1.size hk3.size⟩
        rw [hae]
        clear hd3 hk3 hae
        by_cases a0 : ae = 0
        · rw [show errV ae = .nilIface from if_pos a0]
          have HNX : Hid (S0.appL zi l = (T.app zi pg).appL zi (l.drop (i + 1))) := Lib.hid (by
            rw [HAP.out, HDR.out]
            show (if T.mayE (T.appE zi pg) = 0 then (T.app zi pg).appL zi (l.drop (i + 1)) else (T.app zi pg, T.mayE (T.appE zi pg))) = _
            rw [HAE.out, if_pos a0])
          have HTN : Hid ((T.app zi pg).done ≤ 900001 + (i + 1)) := Lib.hid (by have := DevS.app_done T zi pg; have := HTD.out; omega)
          clear a0
          go_wp2_with fail
          go_roundg (m - (i + 1))
          case rel => exact ⟨i + 1, T.app zi pg, _, by omega, rfl, by go_num, HNX.out, HTN.out, HD3.out, HK3.out.1, HK3.out.2⟩
          case measure => have := HQ.out; omega
        · rw [show errV ae = .iface 31 (.int .i64 ae) from if_neg a0]
          have HXE : Hid (X = (T.app zi pg, ae)) := Lib.hid (by
            have hx : S0.appL zi l = (T.app zi pg, ae) := by
              rw [HAP.out, HDR.out]
              show (if T.mayE (T.appE zi pg) = 0 then (T.app zi pg).appL zi (l.drop (i + 1)) else (T.app zi pg, T.mayE (T.appE zi pg))) = _
              rw [HAE.out, if_neg a0]
            rw [HX1.out, hx, if_pos a0])
          have HE := Lib.hid a0
          clear a0
          go_wp2_with fail
          go_ret
          rw [HXE.out]
          obtain ⟨h1, h2⟩ := HLF.out HK3.out.1 HK3.out.2
          exact ⟨_, by show Ending.returned (.iface 31 (.int .i64 ae)) = Ending.returned (errV ae); rw [show errV ae = .iface 31 (.int .i64 ae) from if_neg HE.out], HD3.out, h1, h2⟩
      · have e : i = m := by omega
        subst e
        have HXE : Hid (X = (T.flush, T.mayE 0)) := Lib.hid (by
          have hx : S0.appL zi l = (T, 0) := by
            rw [HAP.out, ← HM.out, List.drop_length]
            rfl
          rw [HX1.out, hx]
          rfl)
        go_wp2_with fail
        refine (Z.flush HD.out (by have := HTD.out; omega)).mono ?_
        rintro r w3 ⟨rfl, hd3, hk3⟩
        have HD3 := Lib.hid hd3
        have HK3 : Hid (Kept F w1 w3 ∧ ∀ k, grow G wr w3 k → grow F w1 w3 k) := Lib.hid ⟨kept_step HK.out.1 HK.out.2 hk3, grow_step HK.out.2 HK.out.1.size hk3.size⟩
        clear hd3 hk3
        go_wp2_with fail
        go_ret
        rw [HXE.out]
        obtain ⟨h1, h2⟩ := HLF.out HK3.out.1 HK3.out.2
        exact ⟨_, rfl, HD3.out, h1, h2⟩
  · rw [show errV re = .iface 31 (.int .i64 re) from if_neg e0]
    have HXE : Hid (X = (S.reset zi, re)) := Lib.hid (by rw [HREN.out, if_pos e0])
    have HE := Lib.hid e0
    clear e0
    go_wp2_with fail
    go_ret
    rw [HXE.out]
    obtain ⟨h1, h2⟩ := HLF.out HK2.out (fun k h => h)
    exact ⟨_, by show Ending.returned (.iface 31 (.int .i64 re)) = Ending.returned (errV re); rw [show errV re = .iface 31 (.int .i64 re) from if_neg HE.out], HD2.out, h1, h2⟩
theorem renew_wr {S : DevS} {C : ChkS} (h : S.wrArg C = false) : S.wr C = renewS S (whereN S.zones.length C.nu) C.pages := by
  unfold DevS.wr renewS
  rw [if_neg (by rw [h]; decide)]
set_option maxHeartbeats 2000000 in
set_option maxRecDepth 100000 in
theorem slWrite_at (Z : ZBas) {F : Nat → Prop} {w : World} {db : Nat} {S : DevS} (C : ChkS) (v : Value) (h : Z.D F w db S) (hd : S.done ≤ 900000) (hw : C.words) (hv : RowF (fun k => ¬ F k) w v (u32s C.dir)) :
    Calls Tryz.prog 14 #[.pointer (some ⟨db, 0, none⟩), ckV C v] w (WrDone Z slX F db (S.wr C).1 (S.wr C).2 w) := by
  obtain ⟨A, cc, rfl, hcc, hrd⟩ := hv.numR
  obtain ⟨n, hn⟩ : ∃ n, C.dir.length = n := ⟨_, rfl⟩
  rw [hn] at hcc ⊢
  have hwb := ChkS.words_bd hw
  have HF : Hid (∀ k, F k → k < w.heap.size) := Lib.hid (Z.lt h)
  have HH := Lib.hid h
  have HRD := Lib.hid hrd
  have HW := Lib.hid hw
  have HN := Lib.hid hn
  have HDN := Lib.hid hd
  have hz1 := (Z.wf h).z1
  obtain ⟨zn, hzn⟩ : ∃ x, S.zones.length = x := ⟨_, rfl⟩
  obtain ⟨P, hP⟩ : ∃ x, S.P = x := ⟨_, rfl⟩
  rw [hzn] at hz1
  have HZP := Lib.hid (And.intro hzn hP)
  obtain ⟨X, hX⟩ : ∃ X, S.wr C = X := ⟨_, rfl⟩
  have HX := Lib.hid hX
  rw [hX]
  have HRB : Hid (C.right = true → 11 ≤ C.z) := Lib.hid (fun hr => (ChkS.right_bd hr).1.1)
  obtain ⟨rb, hrb⟩ : ∃ x, C.right = x := ⟨_, rfl⟩
  have HRT := Lib.hid hrb
  have HKR : Hid (∀ u, Calls Tryz.prog 36 #[ckV C (.slice A n cc)] u (BoolB rb u)) := Lib.hid (fun u => by
    have h := krightq_is C.nu C.se C.sq C.z C.p C.b A n cc u
    rw [show rightC C.z C.p C.b n = rb from by rw [← hrb, ← hn]; rfl] at h
    exact h)
  have HREN : Hid (rb = true → ∀ {u : World} (zi : Int), Below w.heap.size w u → Calls Tryz.prog 39 #[.pointer (some ⟨db, 0, none⟩), .int .i64 zi, ckV C (.slice A n cc)] u (RenDone Z F db (renewS S zi C.pages) u)) := Lib.hid (fun hr u zi hu => slrenew_at Z zi C (Z.up HH.out hu) HDN.out (HRD.out.up hu) HN.out HW.out (HRT.out.trans hr))
  have HARG : Hid (rb = false ∨ C.z ≠ (zn : Int) ∨ C.p ≠ (P : Int) → X = (S, 1)) := Lib.hid (fun hh => by
    have ha : S.wrArg C = true := by
      unfold DevS.wrArg
      rw [HRT.out, HZP.out.1, HZP.out.2]
      simp only [Bool.or_eq_true, decide_eq_true_eq, Bool.not_eq_true']
      exact hh
    rw [← HX.out]
    unfold DevS.wr
    rw [if_pos ha])
  have HOKA : Hid (rb = true → C.z = (zn : Int) → C.p = (P : Int) → X = renewS S (whereN zn C.nu) C.pages) := Lib.hid (fun h1 h2 h3 => by
    have ha : S.wrArg C = false := by
      unfold DevS.wrArg
      rw [HRT.out, HZP.out.1, HZP.out.2, h1, h2, h3]
      simp
    rw [← HX.out, renew_wr ha, HZP.out.1])
  have HK0 := Lib.hid (KeptK.new w 40 (kList C.nu C.se C.sq C.z C.p C.b (.slice A n cc)))
  obtain ⟨x0, hx0⟩ : ∃ x, C.nu = x := ⟨_, rfl⟩
  obtain ⟨x1, hx1⟩ : ∃ x, C.se = x := ⟨_, rfl⟩
  obtain ⟨x2, hx2⟩ : ∃ x, C.sq = x := ⟨_, rfl⟩
  obtain ⟨x3, hx3⟩ : ∃ x, C.z = x := ⟨_, rfl⟩
  obtain ⟨x4, hx4⟩ : ∃ x, C.p = x := ⟨_, rfl⟩
  obtain ⟨x5, hx5⟩ : ∃ x, C.b = x := ⟨_, rfl⟩
  have hv2 : ckV C (.slice A n cc) = kV x0 x1 x2 x3 x4 x5 (.slice A n cc) := by rw [← hx0, ← hx1, ← hx2, ← hx3, ← hx4, ← hx5]
  rw [hv2] at HKR HREN ⊢
  rw [hx0, hx1, hx2, hx3, hx4, hx5] at HK0
  rw [hx3, hx4] at HARG HOKA
  rw [hx0] at HOKA
  rw [hx3] at HRB
  rw [hx0] at hwb
  clear h hd hw hv hcc hrd hn hzn hP hX hrb hx0 hx1 hx2 hx3 hx4 hx5 hv2
  go_enter Tryz.func14, Tryz.ntmps14
  go_wp2_with fail
  refine (slwhere_at Z x0 (Z.up HH.out HK0.out.1) hwb.1.1 hwb.1.2).mono ?_
  rintro r w1 ⟨rfl, hb⟩
  rw [HZP.out.1]
  have HK1 := Lib.hid (HK0.out.up hb)
  clear hb
  obtain ⟨zi, hzi⟩ : ∃ x, whereN zn x0 = x := ⟨_, rfl⟩
  rw [hzi] at HOKA ⊢
  clear hzi
  go_wp2_with fail
  refine (Z.zones (Z.up HH.out HK1.out.1)).mono ?_
  rintro r w2 ⟨rfl, hb⟩
  rw [HZP.out.1]
  have HK2 := Lib.hid (HK1.out.up hb)
  clear hb
  by_cases h2 : (zn : Int) < 2
  · have HXE : Hid (X = (S, 1)) := Lib.hid (HARG.out (by
      cases hr : rb with
      | false => exact .inl rfl
      | true =>
        have := HRB.out (HRT.out.trans hr)
        exact .inr (.inl (by omega))))
    go_wp2_with fail
    refine (slwrapK_at _ _ 1 (by decide) _).mono ?_
    rintro r wW ⟨ev, rfl, hev, hbW⟩
    have HEV := Lib.hid hev
    have HBW := Lib.hid hbW
    clear hev hbW
    go_wp2_with fail
    go_ret
    rw [HXE.out]
    refine ⟨ev, F, newB w2 wW, rfl, HEV.out, Z.up HH.out (below_all HK2.out.1 HBW.out), Kept.of_below (below_all HK2.out.1 HBW.out), fun k hk => .inl hk, fun k hk => ⟨⟨Nat.le_trans HK2.out.1.size hk.1, hk.2⟩, fun hf => ?_⟩⟩
    have := HF.out k hf
    have := hk.1
    have := HK2.out.1.size
    omega
  · have e0 := HK2.out.2.cell 0 (by simp)
    have e1 := HK2.out.2.cell 1 (by simp)
    have e2 := HK2.out.2.cell 2 (by simp)
    have e3 := HK2.out.2.cell 3 (by simp)
    have e4 := HK2.out.2.cell 4 (by simp)
    have e5 := HK2.out.2.cell 5 (by simp)
    have e6 := HK2.out.2.cell 6 (by simp)
    simp only [List.getElem_cons_zero, List.getElem_cons_succ] at e0 e1 e2 e3 e4 e5 e6
    go_wp2_with fail
    refine (HKR.out _).mono ?_
    rintro r w3 ⟨rfl, hb⟩
    have HK3 := Lib.hid (HK2.out.up hb)
    clear hb e0 e1 e2 e3 e4 e5 e6
    by_cases hr : rb = true
    · rw [hr]
      have HR := Lib.hid hr
      clear hr
      have e0 := HK3.out.2.cell 0 (by simp)
      have e1 := HK3.out.2.cell 1 (by simp)
      have e2 := HK3.out.2.cell 2 (by simp)
      have e3 := HK3.out.2.cell 3 (by simp)
      have e4 := HK3.out.2.cell 4 (by simp)
      have e5 := HK3.out.2.cell 5 (by simp)
      have e6 := HK3.out.2.cell 6 (by simp)
      simp only [List.getElem_cons_zero, List.getElem_cons_succ] at e0 e1 e2 e3 e4 e5 e6
      go_wp2_with fail
      refine (slfits_at Z x3 x4 x5 (Z.up HH.out HK3.out.1)).mono ?_
      rintro r w4 ⟨rfl, hb⟩
      rw [HZP.out.1, HZP.out.2]
      have HK4 := Lib.hid (HK3.out.up hb)
      clear hb e0 e1 e2 e3 e4 e5 e6
      by_cases hf : x3 = (zn : Int) ∧ x4 = (P : Int)
      · rw [decide_eq_true hf.1, decide_eq_true hf.2, Bool.true_and]
        have HXE := Lib.hid (HOKA.out HR.out hf.1 hf.2)
        clear hf
        have e0 := HK4.out.2.cell 0 (by simp)
        have e1 := HK4.out.2.cell 1 (by simp)
        have e2 := HK4.out.2.cell 2 (by simp)
        have e3 := HK4.out.2.cell 3 (by simp)
        have e4 := HK4.out.2.cell 4 (by simp)
        have e5 := HK4.out.2.cell 5 (by simp)
        have e6 := HK4.out.2.cell 6 (by simp)
        simp only [List.getElem_cons_zero, List.getElem_cons_succ] at e0 e1 e2 e3 e4 e5 e6
        go_wp2_with fail
        refine (HREN.out HR.out zi HK4.out.1).mono ?_
        rw [← HXE.out]
        rintro r w5 ⟨F5, rfl, hd5, hk5, hf5⟩
        have HD5 := Lib.hid hd5
        have HK5 := Lib.hid (And.intro hk5 hf5)
        clear hd5 hk5 hf5
        go_wp2_with fail
        refine (slwrap_at _ _ X.2 _).mono ?_
        rintro r w6 ⟨ev, rfl, hev, hb6⟩
        have HEV := Lib.hid hev
        have HB6 := Lib.hid hb6
        clear hev hb6
        go_wp2_with fail
        go_ret
        refine ⟨ev, F5, newB w5 w6, rfl, HEV.out, Z.up HD5.out HB6.out, ((Kept.of_below HK4.out.1).and HK5.out.1).and (Kept.of_below HB6.out), fun k hk => ?_, fun k hk => ⟨⟨?_, hk.2⟩, fun hf => ?_⟩⟩
        · rcases HK5.out.2 k hk with h1 | h1
          · exact .inl h1
          · exact .inr ⟨Nat.le_trans HK4.out.1.size h1.1, Nat.lt_of_lt_of_le h1.2 HB6.out.size⟩
        · exact Nat.le_trans (Nat.le_trans HK4.out.1.size HK5.out.1.size) hk.1
        · have := Z.lt HD5.out k hf
          have := hk.1
          omega
      · have HXE : Hid (X = (S, 1)) := Lib.hid (HARG.out (.inr (by omega)))
        have hff : (decide (x3 = (zn : Int)) && decide (x4 = (P : Int))) = false := by
          rw [Bool.eq_false_iff]
          intro h
          rw [Bool.and_eq_true] at h
          exact hf ⟨of_decide_eq_true h.1, of_decide_eq_true h.2⟩
        rw [hff]
        clear hf hff
        go_wp2_with fail
        refine (slwrapK_at _ _ 1 (by decide) _).mono ?_
        rintro r wW ⟨ev, rfl, hev, hbW⟩
        have HEV := Lib.hid hev
        have HBW := Lib.hid hbW
        clear hev hbW
        go_wp2_with fail
        go_ret
        rw [HXE.out]
        refine ⟨ev, F, newB w4 wW, rfl, HEV.out, Z.up HH.out (below_all HK4.out.1 HBW.out), Kept.of_below (below_all HK4.out.1 HBW.out), fun k hk => .inl hk, fun k hk => ⟨⟨Nat.le_trans HK4.out.1.size hk.1, hk.2⟩, fun hf => ?_⟩⟩
        have := HF.out k hf
        have := hk.1
        have := HK4.out.1.size
        omega
    · have hr2 : rb = false := by simpa using hr
      rw [hr2]
      have HXE : Hid (X = (S, 1)) := Lib.hid (HARG.out (.inl hr2))
      clear hr hr2
      go_wp2_with fail
      refine (slwrapK_at _ _ 1 (by decide) _).mono ?_
      rintro r wW ⟨ev, rfl, hev, hbW⟩
      have HEV := Lib.hid hev
      have HBW := Lib.hid hbW
      clear hev hbW
      go_wp2_with fail
      go_ret
      rw [HXE.out]
      refine ⟨ev, F, newB w3 wW, rfl, HEV.out, Z.up HH.out (below_all HK3.out.1 HBW.out), Kept.of_below (below_all HK3.out.1 HBW.out), fun k hk => .inl hk, fun k hk => ⟨⟨Nat.le_trans HK3.out.1.size hk.1, hk.2⟩, fun hf => ?_⟩⟩
      have := HF.out k hf
      have := hk.1
      have := HK3.out.1.size
      omega
end Go.Proofs.YthmpimjmajoimaaGreatDoor
