/-
  SlotReads: the law's walk.
  The landed slots' pages (of a checkpoint that may be).
-/
import Derived.Test.YthmpimjmajoimaaGreatDoorSr37
import Derived.Test.YthmpimjmajoimaaGreatDoorSr42
import Derived.Test.YthmpimjmajoimaaGreatDoorSr32
namespace Go.Proofs.YthmpimjmajoimaaGreatDoor
open Go.RowKit

theorem Rows3.upS {w w' : World} {v : Value} {l : List (List (List Int))} (h : Rows3 w v l) (hb : Below w.heap.size w w') : Rows3 w' v l := by
  obtain ⟨A, c, vs, e, hc, hr, h0, hl, hx⟩ := h
  exact ⟨A, c, vs, e, hc, hr.up hb, h0, hl, fun i h1 h2 => (RowsF.mono ((hx i h1 h2).up hb) (fun k hk => Nat.lt_of_lt_of_le hk hb.size))⟩
def LimS (z : List (List Int)) : Prop := z.length ≤ 30 ∧ ∀ b ∈ z, b.length ≤ 100
theorem chk_dir {l : List (List Int)} (h : readGE (blk17 l) = 0) : (chkOf l).dir.length ≤ 16 := by
  have hr : rightB (numAt (blk17 l).flatten 3) (numAt (blk17 l).flatten 4) (numAt (blk17 l).flatten 5) = true := by
    unfold readGE at h
    split at h
    · cases h
    · split at h
      · cases h
      · rename_i h2
        simpa using h2
  unfold rightB at hr
  simp only [decide_eq_true_eq] at hr
  have hb := (bnd_bd (numAt (blk17 l).flatten 3) (numAt (blk17 l).flatten 4)).2
  have ht := tab_le hr.1 (by omega)
  show (readDir (blk17 l)).length ≤ 16
  unfold readDir
  rw [List.length_map, List.length_range]
  omega
theorem slC_dir (S : DevS) (zi : Int) : (S.slC zi).dir.length ≤ 16 := by
  unfold DevS.slC
  split
  · rename_i h
    refine chk_dir ?_
    unfold DevS.slE at h
    split at h
    · cases h
    · split at h
      · cases h
      · split at h
        · rename_i h2
          unfold holdB at h2
          simp only [Bool.and_eq_true, decide_eq_true_eq] at h2
          exact h2.2.1
        · cases h
  · simp [ChkS.zero]
theorem newC_dir (S : DevS) : S.newC.dir.length ≤ 16 := by
  unfold DevS.newC
  split
  · simp [ChkS.zero]
  · split
    · exact slC_dir S _
    · split
      · exact slC_dir S _
      · split
        · exact slC_dir S _
        · split
          · exact slC_dir S _
          · exact slC_dir S _
/-- Both devices, of one state, apart from what lay there. -/
structure TwoS (Z : ZBas) (w0 w : World) (db rb zb cap : Nat) (zs : List Value) (S : DevS) (F1 F2 : Nat → Prop) : Prop where
  d : Z.D F1 w db S
  r : RD F2 w rb zb cap zs S
  old : Below w0.heap.size w0 w
theorem TwoS.up {Z : ZBas} {w0 w w' : World} {db rb zb cap : Nat} {zs : List Value} {S : DevS} {F1 F2 : Nat → Prop} (h : TwoS Z w0 w db rb zb cap zs S F1 F2) (hb : Below w.heap.size w w') : TwoS Z w0 w' db rb zb cap zs S F1 F2 :=
  ⟨Z.up h.d hb, h.r.up hb, below_all h.old hb⟩
set_option maxHeartbeats 4000000 in
set_option maxRecDepth 100000 in
theorem sreads_true {Z : ZBas} {X : EOps} (O : SlOps Z X) {w : World} (hg : Gl w) (p : Int) (v : Value) (L : List (List (List Int))) (hv : Rows3 w v L) (hby : ∀ z ∈ L, ∀ b ∈ z, Byt b) : Calls Tryz.prog 4 #[.int .i64 p, v] w (BoolB true w) := by
  have HGL := Lib.hid hg
  have HV := Lib.hid hv
  have HBY := Lib.hid hby
  obtain ⟨LA, lc, ls, rfl, hlc, hlr, _, hls, hlx⟩ := hv
  obtain ⟨N, hN⟩ : ∃ N, L.length = N := ⟨_, rfl⟩
  have HLR := Lib.hid (And.intro hlr (And.intro hls hlx))
  have HN := Lib.hid hN
  rw [hN] at hlc HV
  rw [hN]
  clear hg hlr hls hlx hN hby
  go_enter Tryz.func4, Tryz.ntmps4
  go_wp2_with fail
  refine (sawake_true O HGL.out).mono ?_
  rintro r w2 ⟨rfl, hb⟩
  have HB2 := Lib.hid hb
  clear hb
  by_cases h30 : 30 < N
  · go_wp2_with fail
    go_ret
    exact ⟨rfl, HB2.out⟩
  go_wp2_with fail
  go_loopg [29] N (fun q x wr => ∃ i : Nat, i ≤ N ∧ q = N - i ∧ x = .int .i64 i ∧ (∀ j (h : j < L.length), j < i → LimS L[j]) ∧ w2 = wr)
  case atStart => exact ⟨0, by omega, by omega, rfl, fun j _ h => absurd h (by omega), rfl⟩
  case round =>
    obtain ⟨i, hi, hq, rfl, hlim, rfl⟩ := hrel
    have HQ := Lib.hid hq
    have HLM := Lib.hid hlim
    clear hq hlim
    by_cases hlt : i < N
    · have hil : i < L.length := by rw [HN.out]; exact hlt
      have hils : i < ls.length := by rw [HLR.out.2.1]; exact hil
      obtain ⟨lb, lo, rfl, hlb, hcell⟩ := HLR.out.1 (by omega)
      have hci := hcell i hils
      obtain ⟨B, Bc, ws, hlv, hBc, hbr, _, hB0, hwl, hwx⟩ := (HLR.out.2.2 i hils hil).out
      rw [hlv] at hci
      obtain ⟨z, hz⟩ : ∃ z, L[i] = z := ⟨_, rfl⟩
      rw [hz] at hci hBc hwl hwx
      obtain ⟨zl, hzl⟩ : ∃ zl, z.length = zl := ⟨_, rfl⟩
      rw [hzl] at hci hBc
      have HZ := Lib.hid (And.intro hz (And.intro hzl (And.intro hbr (And.intro hwl hwx))))
      have kl0 : w2.cell? ⟨lb, lo + i, none⟩ = some (.slice B zl Bc) := (HB2.out.cell (p := ⟨lb, lo + i, none⟩) hlb).trans hci
      clear hlv hci hbr hwl hwx hz hzl hB0 hcell
      by_cases hz30 : 30 < zl
      · go_wp2_with fail
        go_ret
        exact ⟨rfl, HB2.out⟩
      · go_wp2_with fail
        go_loopg [38] zl (fun q x wr => ∃ k : Nat, k ≤ zl ∧ q = zl - k ∧ x = .int .i64 k ∧ (∀ j (h : j < z.length), j < k → z[j].length ≤ 100) ∧ w2 = wr)
        case atStart => exact ⟨0, by omega, by omega, rfl, fun j _ h => absurd h (by omega), rfl⟩
        case round =>
          obtain ⟨k, hk, hq2, rfl, hpl, rfl⟩ := hrel
          have HQ2 := Lib.hid hq2
          have HPL := Lib.hid hpl
          clear hq2 hpl
          by_cases hkz : k < zl
          · have hkzl : k < z.length := by rw [HZ.out.2.1]; exact hkz
            have hkws : k < ws.length := by rw [HZ.out.2.2.2.1]; exact hkzl
            obtain ⟨rb', ro, rfl, hrb, hrc⟩ := HZ.out.2.2.1 (by omega)
            have hwc := hrc k hkws
            obtain ⟨XA, Xc, hxv, hxc, hxr, _, hx0⟩ := HZ.out.2.2.2.2 k hkws hkzl
            rw [hxv] at hwc
            obtain ⟨xl, hxl⟩ : ∃ xl, z[k].length = xl := ⟨_, rfl⟩
            rw [hxl] at hwc
            have HXL := Lib.hid hxl
            have kr1 : w2.cell? ⟨rb', ro + k, none⟩ = some (.slice XA xl Xc) := (HB2.out.cell (p := ⟨rb', ro + k, none⟩) hrb).trans hwc
            clear hxv hxl hx0 hxr hrc hwc hxc
            by_cases hx100 : 100 < xl
            · go_wp2_with fail
              go_ret
              exact ⟨rfl, HB2.out⟩
            · go_wp2_with fail
              go_roundg (zl - (k + 1))
              case rel => exact ⟨k + 1, by omega, rfl, by go_num, fun j h hj => (by
                by_cases e : j = k
                · subst e
                  rw [HXL.out]
                  omega
                · exact HPL.out j h (by omega)), rfl⟩
              case measure => have := HQ2.out; omega
          · obtain rfl : k = zl := by omega
            go_wp2_with fail
            go_roundg (N - (i + 1))
            case rel => exact ⟨i + 1, by omega, rfl, by go_num, fun j h hj => (by
              by_cases e : j = i
              · subst e
                rw [HZ.out.1]
                refine ⟨by rw [HZ.out.2.1]; omega, fun b hb => ?_⟩
                obtain ⟨t, ht, rfl⟩ := List.getElem_of_mem hb
                exact HPL.out t ht (by rw [← HZ.out.2.1]; exact ht)
              · exact HLM.out j h (by omega)), rfl⟩
            case measure => have := HQ.out; omega
    · obtain rfl : i = N := by omega
      have HLIM : Hid (∀ z ∈ L, z.length ≤ 30 ∧ ∀ b ∈ z, b.length ≤ 100) := Lib.hid (fun z hz => by
        obtain ⟨j, hj, rfl⟩ := List.getElem_of_mem hz
        exact HLM.out j hj (by rw [← HN.out]; exact hj))
      have HV2 : Hid (Rows3 w2 (.slice LA i lc) L) := Lib.hid (HV.out.upS HB2.out)
      clear HLM HQ
      go_wp2_with fail
      refine (Z.load p _ L HV2.out HBY.out (by rw [HN.out]; omega) HLIM.out).mono ?_
      cases hnw : loadD p L with
      | none =>
        rintro r w3 ⟨rfl, hb⟩
        have HB3 := Lib.hid (below_all HB2.out hb)
        have HV3 := Lib.hid (HV2.out.upS hb)
        clear hb
        obtain ⟨e1, he1⟩ : ∃ e, errV 1 = e := ⟨_, rfl⟩
        rw [he1]
        go_wp2_with fail
        refine (rload_at p _ L HV3.out HBY.out).mono ?_
        rw [hnw]
        rintro r w4 ⟨rfl, hb⟩
        have HB4 := Lib.hid (below_all HB3.out hb)
        clear hb
        go_wp2_with fail
        go_ret
        exact ⟨rfl, HB4.out⟩
      | some S =>
        have HS0 : Hid (S.done = 0) := Lib.hid (by
          unfold loadD at hnw
          split at hnw
          · have := Option.some.inj hnw
            subst this
            rfl
          · cases hnw)
        rintro r w3 ⟨db, rfl, hd, hb⟩
        have HB3 := Lib.hid (below_all HB2.out hb)
        have HV3 := Lib.hid (HV2.out.upS hb)
        have HD3 := Lib.hid hd
        clear hd hb
        go_wp2_with fail
        refine (rload_at p _ L HV3.out HBY.out).mono ?_
        rw [hnw]
        rintro r w4 ⟨rb, rfl, ⟨zb, cap, zs, hr⟩, hb⟩
        have HT4 : Hid (TwoS Z w w4 db rb zb cap zs S _ _) := Lib.hid ⟨Z.up HD3.out hb, hr, below_all HB3.out hb⟩
        clear hr hb HD3 HB3 HV3 HV2 hnw
        go_wp2_with fail
        go_loopg [72] i (fun q x wr => ∃ j : Nat, j ≤ i ∧ q = i - j ∧ x = .int .i64 (j : Int) ∧ TwoS Z w wr db rb zb cap zs S (fun k => w2.heap.size ≤ k ∧ k < w3.heap.size) (fun k => w3.heap.size ≤ k ∧ k < w4.heap.size))
        case atStart => exact ⟨0, by omega, by omega, rfl, HT4.out⟩
        case round =>
          clear HT4
          obtain ⟨j, hj, hq, rfl, ht⟩ := hrel
          have HQ := Lib.hid hq
          have HT := Lib.hid ht
          clear hq ht
          by_cases hlt : j < i
          · obtain ⟨co, hco⟩ : ∃ x, S.slC (j : Int) = x := ⟨_, rfl⟩
            obtain ⟨ke, hke⟩ : ∃ x, S.slE (j : Int) = x := ⟨_, rfl⟩
            have hdir : co.dir.length ≤ 16 := by rw [← hco]; exact slC_dir S _
            obtain ⟨x0, x1, x2, x3, x4, x5, dd⟩ := co
            simp only at hdir
            obtain ⟨kk, hkk⟩ : ∃ x, dd.length = x := ⟨_, rfl⟩
            rw [hkk] at hdir
            have HKK := Lib.hid hkk
            have HXL : Hid ((u32s dd).length = kk) := Lib.hid (by rw [u32s_len, hkk])
            clear hkk
            go_wp2_with fail
            refine (O.read (j : Int) HT.out.d).mono ?_
            rw [hco, hke]
            rintro r wl ⟨sv, ev, rfl, hs, he, hb⟩
            have hs : RowF (newB wr wl) wl sv (u32s dd) := hs
            rw [show ckV ⟨x0, x1, x2, x3, x4, x5, dd⟩ sv = kV x0 x1 x2 x3 x4 x5 sv from rfl]
            have HE := Lib.hid he
            obtain ⟨Aa, ca, rfl, hqa⟩ := hs
            rw [HXL.out] at hqa ⊢
            obtain ⟨wa, hwa⟩ : ∃ u, wl.alloc (.cells #[.int .u32 x0, .int .u32 x1, .int .u32 x2, .int .i64 x3, .int .i64 x4, .int .i64 x5, .slice Aa kk ca] 40) = u := ⟨_, rfl⟩
            have hb6 : Below wl.heap.size wl wa := by rw [← hwa]; exact (Below.refl _ _).alloc (Nat.le_refl _) _
            obtain ⟨Ba, hBa⟩ : ∃ x, wl.heap.size = x := ⟨_, rfl⟩
            have HXa : Hid (Blk wa Ba 40 [.int .u32 x0, .int .u32 x1, .int .u32 x2, .int .i64 x3, .int .i64 x4, .int .i64 x5, .slice Aa kk ca]) := Lib.hid (by rw [← hwa, ← hBa]; exact heap_alloc_new wl _)
            have HRa : Hid (RdV wa wa.heap.size Aa (u32s dd)) := Lib.hid (hqa.2.1.up hb6)
            have HTa := Lib.hid (HT.out.up (below_all hb hb6))
            have HEa := Lib.hid (X.up HE.out hb6)
            clear hs hb hb6 hqa he HE
            go_wp2_with fail
            refine (rsread_at (j : Int) HTa.out.r).mono ?_
            rw [hco, hke]
            rintro r wd ⟨sv, rfl, hs, hb⟩
            have hs : RowF (newB wa wd) wd sv (u32s dd) := hs
            rw [show ckV ⟨x0, x1, x2, x3, x4, x5, dd⟩ sv = kV x0 x1 x2 x3 x4 x5 sv from rfl]
            obtain ⟨Ab, cb, rfl, hqb⟩ := hs
            rw [HXL.out] at hqb ⊢
            obtain ⟨wb, hwb⟩ : ∃ u, wd.alloc (.cells #[.int .u32 x0, .int .u32 x1, .int .u32 x2, .int .i64 x3, .int .i64 x4, .int .i64 x5, .slice Ab kk cb] 46) = u := ⟨_, rfl⟩
            have hb6 : Below wd.heap.size wd wb := by rw [← hwb]; exact (Below.refl _ _).alloc (Nat.le_refl _) _
            obtain ⟨Bb, hBb⟩ : ∃ x, wd.heap.size = x := ⟨_, rfl⟩
            have HXb : Hid (Blk wb Bb 46 [.int .u32 x0, .int .u32 x1, .int .u32 x2, .int .i64 x3, .int .i64 x4, .int .i64 x5, .slice Ab kk cb]) := Lib.hid (by rw [← hwb, ← hBb]; exact heap_alloc_new wd _)
            have HRb : Hid (RdV wb wb.heap.size Ab (u32s dd)) := Lib.hid (hqb.2.1.up hb6)
            have hbw := below_all hb hb6
            have HTb := Lib.hid (HTa.out.up hbw)
            have HEb := Lib.hid (X.up HEa.out hbw)
            have HXc := Lib.hid (HXa.out.up hbw (lt_of_block HXa.out))
            have HRc := Lib.hid (HRa.out.up hbw)
            clear hs hb hb6 hqb hbw HEa HXa HRa HTa hco hke
            go_wp2_with fail
            have a0 := HXc.out.cell 0 (by simp)
            have b0 := HXb.out.cell 0 (by simp)
            have a1 := HXc.out.cell 1 (by simp)
            have b1 := HXb.out.cell 1 (by simp)
            have a2 := HXc.out.cell 2 (by simp)
            have b2 := HXb.out.cell 2 (by simp)
            have a3 := HXc.out.cell 3 (by simp)
            have b3 := HXb.out.cell 3 (by simp)
            have a4 := HXc.out.cell 4 (by simp)
            have b4 := HXb.out.cell 4 (by simp)
            have a5 := HXc.out.cell 5 (by simp)
            have b5 := HXb.out.cell 5 (by simp)
            have a6 := HXc.out.cell 6 (by simp)
            have b6 := HXb.out.cell 6 (by simp)
            simp only [List.getElem_cons_zero, List.getElem_cons_succ] at a0 b0 a1 b1 a2 b2 a3 b3 a4 b4 a5 b5 a6 b6
            have la := lt_of_block HXc.out
            have lb := lt_of_block HXb.out
            have hne : (ke != ke) = false := by simp
            have heq : (ke == ke) = true := by simp
            have hsm : sameC x0 x1 x2 x3 x4 x5 dd x0 x1 x2 x3 x4 x5 dd = true := by simp [sameC]
            refine wp_region_in (fun u => Below wb.heap.size wb u) (Below.refl _ _).drew (by kernel_rfl) (by kernel_rfl) (fun ne => ?_)
            have cD := fun q : In (fun u => Below wb.heap.size wb u) => X.code (X.up HEb.out q.ok) (HGL.out.below (below_all HTb.out.old q.ok))
            have oD := fun q : In (fun u => Below wb.heap.size wb u) => slown_at x0 x1 x2 x3 x4 x5 Aa kk ca q.w
            have sD := fun q : In (fun u => Below wb.heap.size wb u) => rksame_is (n := kk) (m := kk) (c := ca) (c2 := cb) x0 x1 x2 x3 x4 x5 x0 x1 x2 x3 x4 x5 (HRc.out.up q.ok) (HRb.out.up q.ok) HKK.out HKK.out (by omega)
            rw [hsm] at sD
            have ra0 := fun q : In (fun u => Below wb.heap.size wb u) => (q.ok.cell (p := ⟨Ba, 0, none⟩) la).trans a0
            have rb0 := fun q : In (fun u => Below wb.heap.size wb u) => (q.ok.cell (p := ⟨Bb, 0, none⟩) lb).trans b0
            have ra1 := fun q : In (fun u => Below wb.heap.size wb u) => (q.ok.cell (p := ⟨Ba, 1, none⟩) la).trans a1
            have rb1 := fun q : In (fun u => Below wb.heap.size wb u) => (q.ok.cell (p := ⟨Bb, 1, none⟩) lb).trans b1
            have ra2 := fun q : In (fun u => Below wb.heap.size wb u) => (q.ok.cell (p := ⟨Ba, 2, none⟩) la).trans a2
            have rb2 := fun q : In (fun u => Below wb.heap.size wb u) => (q.ok.cell (p := ⟨Bb, 2, none⟩) lb).trans b2
            have ra3 := fun q : In (fun u => Below wb.heap.size wb u) => (q.ok.cell (p := ⟨Ba, 3, none⟩) la).trans a3
            have rb3 := fun q : In (fun u => Below wb.heap.size wb u) => (q.ok.cell (p := ⟨Bb, 3, none⟩) lb).trans b3
            have ra4 := fun q : In (fun u => Below wb.heap.size wb u) => (q.ok.cell (p := ⟨Ba, 4, none⟩) la).trans a4
            have rb4 := fun q : In (fun u => Below wb.heap.size wb u) => (q.ok.cell (p := ⟨Bb, 4, none⟩) lb).trans b4
            have ra5 := fun q : In (fun u => Below wb.heap.size wb u) => (q.ok.cell (p := ⟨Ba, 5, none⟩) la).trans a5
            have rb5 := fun q : In (fun u => Below wb.heap.size wb u) => (q.ok.cell (p := ⟨Bb, 5, none⟩) lb).trans b5
            have ra6 := fun q : In (fun u => Below wb.heap.size wb u) => (q.ok.cell (p := ⟨Ba, 6, none⟩) la).trans a6
            have rb6 := fun q : In (fun u => Below wb.heap.size wb u) => (q.ok.cell (p := ⟨Bb, 6, none⟩) lb).trans b6
            repeat (go_big_quiet_step (first
              | (go_at_call 13; with_reducible exact In.more (fun h1 h2 => below_all h1 h2) (cD _))
              | (go_at_call 16; with_reducible exact In.more (fun h1 h2 => below_all h1 h2) (oD _))
              | (go_at_call 20; with_reducible exact In.more (fun h1 h2 => below_all h1 h2) (sD _))))
            refine wpQuiet_nil ?_
            intro nq
            obtain ⟨wn, hwn⟩ : ∃ x, nq.w = x := ⟨_, rfl⟩
            have HBN := Lib.hid nq.ok
            rw [hwn] at HBN ⊢
            have HTn := Lib.hid (HTb.out.up HBN.out)
            clear ra0 rb0 a0 b0 ra1 rb1 a1 b1 ra2 rb2 a2 b2 ra3 rb3 a3 b3 ra4 rb4 a4 b4 ra5 rb5 a5 b5 ra6 rb6 a6 b6 cD oD sD hwn nq hsm la lb hne heq
            go_wp2_with fail
            go_roundg (i - (j + 1))
            case rel => exact ⟨j + 1, by omega, rfl, by go_num, HTn.out⟩
            case measure => have := HQ.out; omega
          · obtain rfl : j = i := by omega
            obtain ⟨co, hco⟩ : ∃ x, S.newC = x := ⟨_, rfl⟩
            obtain ⟨ke, hke⟩ : ∃ x, S.newE = x := ⟨_, rfl⟩
            have hdir : co.dir.length ≤ 16 := by rw [← hco]; exact newC_dir S
            obtain ⟨x0, x1, x2, x3, x4, x5, dd⟩ := co
            simp only at hdir
            obtain ⟨kk, hkk⟩ : ∃ x, dd.length = x := ⟨_, rfl⟩
            rw [hkk] at hdir
            have HKK := Lib.hid hkk
            have HXL : Hid ((u32s dd).length = kk) := Lib.hid (by rw [u32s_len, hkk])
            clear hkk
            go_wp2_with fail
            refine (O.newest HT.out.d).mono ?_
            rw [hco, hke]
            rintro r wl ⟨sv, ev, rfl, hs, he, hb⟩
            have hs : RowF (newB wr wl) wl sv (u32s dd) := hs
            rw [show ckV ⟨x0, x1, x2, x3, x4, x5, dd⟩ sv = kV x0 x1 x2 x3 x4 x5 sv from rfl]
            have HE := Lib.hid he
            obtain ⟨Aa, ca, rfl, hqa⟩ := hs
            rw [HXL.out] at hqa ⊢
            obtain ⟨wa, hwa⟩ : ∃ u, wl.alloc (.cells #[.int .u32 x0, .int .u32 x1, .int .u32 x2, .int .i64 x3, .int .i64 x4, .int .i64 x5, .slice Aa kk ca] 40) = u := ⟨_, rfl⟩
            have hb6 : Below wl.heap.size wl wa := by rw [← hwa]; exact (Below.refl _ _).alloc (Nat.le_refl _) _
            obtain ⟨Ba, hBa⟩ : ∃ x, wl.heap.size = x := ⟨_, rfl⟩
            have HXa : Hid (Blk wa Ba 40 [.int .u32 x0, .int .u32 x1, .int .u32 x2, .int .i64 x3, .int .i64 x4, .int .i64 x5, .slice Aa kk ca]) := Lib.hid (by rw [← hwa, ← hBa]; exact heap_alloc_new wl _)
            have HRa : Hid (RdV wa wa.heap.size Aa (u32s dd)) := Lib.hid (hqa.2.1.up hb6)
            have HTa := Lib.hid (HT.out.up (below_all hb hb6))
            have HEa := Lib.hid (X.up HE.out hb6)
            clear hs hb hb6 hqa he HE
            go_wp2_with fail
            refine (rsnewest_at HTa.out.r).mono ?_
            rw [hco, hke]
            rintro r wd ⟨sv, rfl, hs, hb⟩
            have hs : RowF (newB wa wd) wd sv (u32s dd) := hs
            rw [show ckV ⟨x0, x1, x2, x3, x4, x5, dd⟩ sv = kV x0 x1 x2 x3 x4 x5 sv from rfl]
            obtain ⟨Ab, cb, rfl, hqb⟩ := hs
            rw [HXL.out] at hqb ⊢
            obtain ⟨wb, hwb⟩ : ∃ u, wd.alloc (.cells #[.int .u32 x0, .int .u32 x1, .int .u32 x2, .int .i64 x3, .int .i64 x4, .int .i64 x5, .slice Ab kk cb] 46) = u := ⟨_, rfl⟩
            have hb6 : Below wd.heap.size wd wb := by rw [← hwb]; exact (Below.refl _ _).alloc (Nat.le_refl _) _
            obtain ⟨Bb, hBb⟩ : ∃ x, wd.heap.size = x := ⟨_, rfl⟩
            have HXb : Hid (Blk wb Bb 46 [.int .u32 x0, .int .u32 x1, .int .u32 x2, .int .i64 x3, .int .i64 x4, .int .i64 x5, .slice Ab kk cb]) := Lib.hid (by rw [← hwb, ← hBb]; exact heap_alloc_new wd _)
            have HRb : Hid (RdV wb wb.heap.size Ab (u32s dd)) := Lib.hid (hqb.2.1.up hb6)
            have hbw := below_all hb hb6
            have HTb := Lib.hid (HTa.out.up hbw)
            have HEb := Lib.hid (X.up HEa.out hbw)
            have HXc := Lib.hid (HXa.out.up hbw (lt_of_block HXa.out))
            have HRc := Lib.hid (HRa.out.up hbw)
            clear hs hb hb6 hqb hbw HEa HXa HRa HTa hco hke
            go_wp2_with fail
            have a0 := HXc.out.cell 0 (by simp)
            have b0 := HXb.out.cell 0 (by simp)
            have a1 := HXc.out.cell 1 (by simp)
            have b1 := HXb.out.cell 1 (by simp)
            have a2 := HXc.out.cell 2 (by simp)
            have b2 := HXb.out.cell 2 (by simp)
            have a3 := HXc.out.cell 3 (by simp)
            have b3 := HXb.out.cell 3 (by simp)
            have a4 := HXc.out.cell 4 (by simp)
            have b4 := HXb.out.cell 4 (by simp)
            have a5 := HXc.out.cell 5 (by simp)
            have b5 := HXb.out.cell 5 (by simp)
            have a6 := HXc.out.cell 6 (by simp)
            have b6 := HXb.out.cell 6 (by simp)
            simp only [List.getElem_cons_zero, List.getElem_cons_succ] at a0 b0 a1 b1 a2 b2 a3 b3 a4 b4 a5 b5 a6 b6
            have la := lt_of_block HXc.out
            have lb := lt_of_block HXb.out
            have hne : (ke != ke) = false := by simp
            have heq : (ke == ke) = true := by simp
            have hsm : sameC x0 x1 x2 x3 x4 x5 dd x0 x1 x2 x3 x4 x5 dd = true := by simp [sameC]
            refine wp_region_in (fun u => Below wb.heap.size wb u) (Below.refl _ _).drew (by kernel_rfl) (by kernel_rfl) (fun ne => ?_)
            have cD := fun q : In (fun u => Below wb.heap.size wb u) => X.code (X.up HEb.out q.ok) (HGL.out.below (below_all HTb.out.old q.ok))
            have oD := fun q : In (fun u => Below wb.heap.size wb u) => slown_at x0 x1 x2 x3 x4 x5 Aa kk ca q.w
            have sD := fun q : In (fun u => Below wb.heap.size wb u) => rksame_is (n := kk) (m := kk) (c := ca) (c2 := cb) x0 x1 x2 x3 x4 x5 x0 x1 x2 x3 x4 x5 (HRc.out.up q.ok) (HRb.out.up q.ok) HKK.out HKK.out (by omega)
            rw [hsm] at sD
            have ra0 := fun q : In (fun u => Below wb.heap.size wb u) => (q.ok.cell (p := ⟨Ba, 0, none⟩) la).trans a0
            have rb0 := fun q : In (fun u => Below wb.heap.size wb u) => (q.ok.cell (p := ⟨Bb, 0, none⟩) lb).trans b0
            have ra1 := fun q : In (fun u => Below wb.heap.size wb u) => (q.ok.cell (p := ⟨Ba, 1, none⟩) la).trans a1
            have rb1 := fun q : In (fun u => Below wb.heap.size wb u) => (q.ok.cell (p := ⟨Bb, 1, none⟩) lb).trans b1
            have ra2 := fun q : In (fun u => Below wb.heap.size wb u) => (q.ok.cell (p := ⟨Ba, 2, none⟩) la).trans a2
            have rb2 := fun q : In (fun u => Below wb.heap.size wb u) => (q.ok.cell (p := ⟨Bb, 2, none⟩) lb).trans b2
            have ra3 := fun q : In (fun u => Below wb.heap.size wb u) => (q.ok.cell (p := ⟨Ba, 3, none⟩) la).trans a3
            have rb3 := fun q : In (fun u => Below wb.heap.size wb u) => (q.ok.cell (p := ⟨Bb, 3, none⟩) lb).trans b3
            have ra4 := fun q : In (fun u => Below wb.heap.size wb u) => (q.ok.cell (p := ⟨Ba, 4, none⟩) la).trans a4
            have rb4 := fun q : In (fun u => Below wb.heap.size wb u) => (q.ok.cell (p := ⟨Bb, 4, none⟩) lb).trans b4
            have ra5 := fun q : In (fun u => Below wb.heap.size wb u) => (q.ok.cell (p := ⟨Ba, 5, none⟩) la).trans a5
            have rb5 := fun q : In (fun u => Below wb.heap.size wb u) => (q.ok.cell (p := ⟨Bb, 5, none⟩) lb).trans b5
            have ra6 := fun q : In (fun u => Below wb.heap.size wb u) => (q.ok.cell (p := ⟨Ba, 6, none⟩) la).trans a6
            have rb6 := fun q : In (fun u => Below wb.heap.size wb u) => (q.ok.cell (p := ⟨Bb, 6, none⟩) lb).trans b6
            have zD := fun q : In (fun u => Below wb.heap.size wb u) => Z.ops (Z.up HTb.out.d q.ok)
            have lD := fun q : In (fun u => Below wb.heap.size wb u) => slalike_at Z (Z.up HTb.out.d q.ok) (HTb.out.r.up q.ok) (HGL.out.below (below_all HTb.out.old q.ok))
            rw [HS0.out] at zD
            repeat (go_big_quiet_step (first
              | (go_at_call 13; with_reducible exact In.more (fun h1 h2 => below_all h1 h2) (cD _))
              | (go_at_call 16; with_reducible exact In.more (fun h1 h2 => below_all h1 h2) (oD _))
              | (go_at_call 20; with_reducible exact In.more (fun h1 h2 => below_all h1 h2) (sD _))
              | (go_at_call 27; with_reducible exact In.more (fun h1 h2 => below_all h1 h2) (zD _))
              | (go_at_call 17; with_reducible exact In.more (fun h1 h2 => below_all h1 h2) (lD _))))
            refine wpQuiet_nil ?_
            intro nq
            obtain ⟨wn, hwn⟩ : ∃ x, nq.w = x := ⟨_, rfl⟩
            have HBN := Lib.hid nq.ok
            rw [hwn] at HBN ⊢
            have HTn := Lib.hid (HTb.out.up HBN.out)
            clear ra0 rb0 a0 b0 ra1 rb1 a1 b1 ra2 rb2 a2 b2 ra3 rb3 a3 b3 ra4 rb4 a4 b4 ra5 rb5 a5 b5 ra6 rb6 a6 b6 cD oD sD hwn nq hsm la lb hne heq
            clear zD lD
            go_wp2_with fail
            go_ret
            exact ⟨rfl, HTn.out.old⟩
end Go.Proofs.YthmpimjmajoimaaGreatDoor
namespace Go.Proofs.YthmpimjmajoimaaGreatDoor
open Go.RowKit

/-- The first i pages of a checkpoint, as rows. -/
structure PAcc (base : Nat) (w : World) (C : ChkS) (i : Nat) (v : Value) (vs : List Value) : Prop where
  row : RowV w base 61 v vs
  len : vs.length = i
  el : ∀ j (h : j < vs.length), ∃ g, vs[j] = .slice (some ⟨g, 0, none⟩) 33 33 ∧ Blk8 w g (C.page j) ∧ base ≤ g
theorem PAcc.kept {base i : Nat} {w w' : World} {C : ChkS} {v : Value} {vs : List Value} {row : Option Nat} (h : PAcc base w C i v vs) (hg : w.grownBy w' row) (hf : Far2 base w row) : PAcc base w' C i v vs :=
  ⟨h.row.kept hg (fun g e => by obtain ⟨hb, o, ho, hc⟩ := own_cells h.row g e; exact hf.ne hb ho hc), h.len, fun j h1 => by
    obtain ⟨g, e, ho, hb⟩ := h.el j h1
    exact ⟨g, e, (hg.block g (lt_of_block ho) (hf.ne hb ho rfl)).trans ho, hb⟩⟩
theorem PAcc.rise {base i : Nat} {w w' : World} {C : ChkS} {v : Value} {vs : List Value} (h : PAcc base w C i v vs) (hb : Below w.heap.size w w') : PAcc base w' C i v vs := h.kept (grown_none hb) (fun _ e => by cases e)
theorem PAcc.step {base i g : Nat} {w w4 : World} {C : ChkS} {v v4 : Value} {vs : List Value} (h : PAcc base w C i v vs) (hg : w.grownBy w4 v.ownBlock) (hr : RowV w4 base 61 v4 (vs ++ [.slice (some ⟨g, 0, none⟩) 33 33])) (ho : Blk8 w g (C.page i)) (hb : base ≤ g) :
    PAcc base w4 C (i + 1) v4 (vs ++ [.slice (some ⟨g, 0, none⟩) 33 33]) := by
  have far : ∀ {g : Nat} {xs : List Int}, Blk8 w g xs → Blk8 w4 g xs := fun {g xs} ho => by
    refine (hg.block g (lt_of_block ho) (fun e => ?_)).trans ho
    rcases h.row.2 with ⟨rfl, _⟩ | ⟨g', cap, cur, rfl, _, hx, _⟩
    · cases e
    · have e : g = g' := by simpa [Value.ownBlock] using e
      subst e
      have ho2 : w.heap[g]? = _ := ho
      rw [hx] at ho2
      injection ho2 with ho2
      injection ho2 with _ ht
      exact absurd ht (by decide)
  refine ⟨hr, by simp [h.len], fun j h1 => ?_⟩
  by_cases hji : j < vs.length
  · obtain ⟨g', e, ho', hb'⟩ := h.el j hji
    exact ⟨g', by rw [List.getElem_append_left hji]; exact e, far ho', hb'⟩
  · have hlen := h.len
    have : j = i := by rw [List.length_append] at h1; simp at h1; omega
    subst this
    refine ⟨g, ?_, far ho, hb⟩
    rw [List.getElem_append_right (by omega)]
    simp
theorem PAcc.le {base base' i : Nat} {w : World} {C : ChkS} {v : Value} {vs : List Value} (h : PAcc base w C i v vs) (hb : base' ≤ base) : PAcc base' w C i v vs :=
  ⟨h.row.le hb, h.len, fun j h1 => by
    obtain ⟨g, e, ho, hg⟩ := h.el j h1
    exact ⟨g, e, ho, Nat.le_trans hb hg⟩⟩
set_option maxHeartbeats 2000000 in
set_option maxRecDepth 100000 in
theorem slpages_at {A : Option Addr} {n c : Nat} {w : World} (C : ChkS) (hr : RdV w w.heap.size A (u32s C.dir)) (hl : C.dir.length = n) (hw : C.words) (h : C.right = true) :
    Calls Tryz.prog 75 #[ckV C (.slice A n c)] w (fun r w' => ∃ A' c' vs, r = .returned (.tuple #[.slice A' C.blocks.length c', .nilIface]) ∧ PAcc w.heap.size w' C C.blocks.length (.slice A' C.blocks.length c') vs ∧ Below w.heap.size w w') := by
  have hle := ChkS.blocks_le h
  have hrb := ChkS.right_bd h
  have hwb := ChkS.words_bd hw
  have HBI : Hid (∀ i, i < C.blocks.length → (C.blocks.getD i []).length = 16 ∧ Byt (C.blocks.getD i [])) := Lib.hid (fun i hi => ⟨ChkS.block_16 hi, ChkS.block_byt i⟩)
  obtain ⟨m, hm⟩ : ∃ m, C.blocks.length = m := ⟨_, rfl⟩
  have hbl : blocksC C.nu C.se C.sq C.z C.p C.b C.dir = C.blocks := rfl
  rw [hm] at hle HBI ⊢
  have HPG : Hid (∀ i, C.page i = pageB 5 C.se (i : Int) C.nu (C.blocks.getD i [])) := Lib.hid (fun i => rfl)
  have HM := Lib.hid hm
  have hm16 : m ≤ 16 := by omega
  have HKB : Hid (∀ u, Below w.heap.size w u → Calls Tryz.prog 102 #[ckV C (.slice A n c)] u (fun r w' => ∃ (g cap : Nat) (ys : List Nat), r = .returned (.tuple #[.slice (some ⟨g, 0, none⟩) m cap, .nilIface]) ∧ Rows16 w' u.heap.size g cap ys C.blocks ∧ Below u.heap.size u w')) := Lib.hid (fun u hu => by
    have := kblocks_ok (c := c) C.nu C.se C.sq C.z C.p C.b (hr.up hu) hl hw (by unfold ChkS.right at h; rw [hl] at h; exact h)
    rw [hbl, hm] at this
    exact this)
  have HK0 := Lib.hid (KeptK.new w 40 (kList C.nu C.se C.sq C.z C.p C.b (.slice A n c)))
  obtain ⟨nu, hnu⟩ : ∃ x, C.nu = x := ⟨_, rfl⟩
  obtain ⟨se, hse⟩ : ∃ x, C.se = x := ⟨_, rfl⟩
  obtain ⟨sq, hsq⟩ : ∃ x, C.sq = x := ⟨_, rfl⟩
  obtain ⟨z, hz⟩ : ∃ x, C.z = x := ⟨_, rfl⟩
  obtain ⟨p, hp⟩ : ∃ x, C.p = x := ⟨_, rfl⟩
  obtain ⟨b, hb⟩ : ∃ x, C.b = x := ⟨_, rfl⟩
  rw [hnu, hse] at hwb HPG
  rw [hnu, hse, hsq, hz, hp, hb] at HK0
  have hv : ckV C (.slice A n c) = kV nu se sq z p b (.slice A n c) := by rw [← hnu, ← hse, ← hsq, ← hz, ← hp, ← hb]
  rw [hv] at HKB ⊢
  clear hr hl hw h hbl hm hnu hse hsq hz hp hb hv hrb
  go_enter Tryz.func75, Tryz.ntmps75
  go_wp2_with fail
  refine (HKB.out _ HK0.out.1).mono ?_
  rintro r w1 ⟨g, cap, ys, rfl, hrw, hb1⟩
  have HK1 := Lib.hid (HK0.out.up hb1)
  have HRW := Lib.hid hrw
  have HYL : Hid (ys.length = m) := Lib.hid (by rw [hrw.len, HM.out])
  have HP0 : Hid (PAcc w1.heap.size w1 C 0 (.slice none 0 0) []) := Lib.hid ⟨World.ownsRow_nil _ _ _ _, rfl, fun j h => absurd h (by simp)⟩
  clear hrw hb1
  go_wp2_with fail
  go_loopg [6, 21] m (fun q x6 x21 wr => ∃ (i : Nat) (A' : Option Addr) (c' : Nat) (vs : List Value), i ≤ m ∧ q = m - i ∧ x6 = .slice A' i c' ∧ x21 = .int .i64 (i : Int) ∧ PAcc w1.heap.size wr C i (.slice A' i c') vs ∧ Below w1.heap.size w1 wr)
  case atStart => exact ⟨0, none, 0, [], by omega, by omega, rfl, rfl, HP0.out, Below.refl _ _⟩
  case round =>
    clear HP0
    have HRW1 := HRW
    clear HRW
    obtain ⟨i, A', c', vs, hi, hq, rfl, rfl, hpa, hbw⟩ := hrel
    have HQ := Lib.hid hq
    have HPA := Lib.hid hpa
    have HBW := Lib.hid hbw
    have HK := Lib.hid (HK1.out.up hbw)
    have HRW := Lib.hid (HRW1.out.up hbw)
    clear hq hpa hbw
    by_cases hlt : i < m
    · have hyl : i < ys.length := by rw [HYL.out]; exact hlt
      have hbl : i < C.blocks.length := by rw [HM.out]; exact hlt
      obtain ⟨y, hy⟩ : ∃ y, ys[i] = y := ⟨_, rfl⟩
      have hcell := HRW.out.own.cell i (by rw [List.length_map]; exact hyl)
      rw [List.getElem_map, hy] at hcell
      have hcell : wr.cell? ⟨g, i, none⟩ = some (.slice (some ⟨y, 0, none⟩) 16 16) := hcell
      have HBY := Lib.hid (HRW.out.row i hyl hbl)
      rw [hy] at HBY
      obtain ⟨blk, hblk⟩ : ∃ x, C.blocks[i] = x := ⟨_, rfl⟩
      have HBE : Hid (C.blocks.getD i [] = blk) := Lib.hid (by rw [List.getD_eq_getElem?_getD, List.getElem?_eq_getElem hbl, Option.getD_some]; exact hblk)
      rw [hblk] at HBY
      have HB16 := Lib.hid (HBI.out i hlt)
      rw [HBE.out] at HB16
      have e0 := HK.out.2.cell 0 (by simp)
      have e1 := HK.out.2.cell 1 (by simp)
      simp only [List.getElem_cons_zero, List.getElem_cons_succ] at e0 e1
      clear hy hblk
      go_wp2_with fail
      refine (slof_at se nu (i : Int) wr (by omega) (by omega)).mono ?_
      rintro r w3 ⟨rfl, hb3⟩
      have HPA3 := Lib.hid (HPA.out.rise hb3)
      have HBW3 := Lib.hid (HBW.out.trans (hb3.mono HBW.out.size))
      have HK3 := Lib.hid (HK.out.up hb3)
      have HRD : Hid (Rd w3 w3.heap.size (some ⟨y, 0, none⟩) blk) := Lib.hid (by
        have h := Blk8.rd (Blk.up HBY.out.1 hb3 (lt_of_block HBY.out.1)) 0
        rwa [List.drop_zero] at h)
      clear hb3 e0 e1 hcell
      go_wp2_with fail
      refine (bytes_ok 5 se (i : Int) nu (some ⟨y, 0, none⟩) blk 16 w3 HRD.out HB16.out.2 HB16.out.1 (by omega) (by decide) hwb.2 (by omega) hwb.1).mono ?_
      rintro r w5 ⟨gp, rfl, hgp, hgb, hb5⟩
      have HPA5 := Lib.hid (HPA3.out.rise hb5)
      have HBW5 := Lib.hid (HBW3.out.trans (hb5.mono HBW3.out.size))
      have HGP : Hid (Blk8 w5 gp (C.page i) ∧ w1.heap.size ≤ gp) := Lib.hid ⟨by rw [HPG.out, HBE.out]; exact hgp, by have := HBW3.out.size; omega⟩
      clear hgp hgb hb5
      obtain ⟨w6, hw6⟩ : ∃ u, w5.alloc (.cells #[.slice (some ⟨gp, 0, none⟩) 33 33] 61) = u := ⟨_, rfl⟩
      have hb6 : Below w5.heap.size w5 w6 := by rw [← hw6]; exact (Below.refl _ _).alloc (Nat.le_refl _) _
      have HPA6 := Lib.hid (HPA5.out.rise hb6)
      have HBW6 := Lib.hid (HBW5.out.trans (hb6.mono HBW5.out.size))
      have HGP6 : Hid (Blk8 w6 gp (C.page i) ∧ w1.heap.size ≤ gp) := Lib.hid ⟨Blk.up HGP.out.1 hb6 (lt_of_block HGP.out.1), HGP.out.2⟩
      have HRO : Hid (RdV w6 w6.heap.size (some ⟨w5.heap.size, 0, none⟩) [.slice (some ⟨gp, 0, none⟩) 33 33]) := Lib.hid (by rw [← hw6]; exact rdv_one w5 _ _)
      have HVL : Hid (vs.length = i) := Lib.hid HPA6.out.len
      clear hb6 HPA HPA3 HPA5 HK HK3 HRW HGP HBY HRD HBW HBW3 HBW5
      go_wp2_with (first
        | (at_builtin; refine appR _ rfl (.tmp 40) (.tmp 42) 60 61 (.slice none 0 0) 24 rfl Tryz.underlying60 infoRow rfl (by decide) w1.heap.size i 1 1 (.slice A' i c') vs [.slice (some ⟨gp, 0, none⟩) 33 33] (some ⟨w5.heap.size, 0, none⟩) rfl HPA6.out.row HVL.out rfl rfl HRO.out (fun e => by cases e) (fun u hu => by simp at hu; subst hu; rfl) ?h1 ?h2 ?_; (case h1 => omega); (case h2 => exact HBW6.out.size); intro v7 w7 ho hg; obtain ⟨A7, c7, rfl⟩ : ∃ X c, v7 = .slice X (i + 1) c := (by obtain ⟨X, c, e, _⟩ := ho.out; exact ⟨X, c, by rw [e, app_one_len HVL.out]⟩); have HN7 := Lib.hid (HPA6.out.step hg ho HGP6.out.1 HGP6.out.2); have HBW7 := Lib.hid (HBW6.out.grown hg HBW6.out.size (fun k e => (HPA6.out.row.own k e).1)); clear ho hg)
        | fail)
      go_roundg (m - (i + 1))
      case rel => exact ⟨i + 1, A7, c7, _, by omega, rfl, rfl, by go_num, HN7.out, HBW7.out⟩
      case measure => have := HQ.out; omega
    · have e : i = m := by omega
      subst e
      go_wp2_with fail
      go_ret2
      exact ⟨A', c', vs, rfl, HPA.out.le HK1.out.1.size, below_all HK1.out.1 HBW.out⟩
end Go.Proofs.YthmpimjmajoimaaGreatDoor
