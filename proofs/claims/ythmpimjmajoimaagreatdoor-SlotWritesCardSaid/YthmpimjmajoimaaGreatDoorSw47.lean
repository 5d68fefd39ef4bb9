/-
  SlotWrites: the law's walk.
-/
import Derived.Test.YthmpimjmajoimaaGreatDoorSw43
import Derived.Test.YthmpimjmajoimaaGreatDoorSw46
namespace Go.Proofs.YthmpimjmajoimaaGreatDoor
open Go.RowKit

namespace DevS
theorem mayS_lenW (S : DevS) (e : Int) : (S.mayS e).zones.length = S.zones.length := by
  unfold mayS
  split
  · rfl
  · split
    · rfl
    · split
      · rfl
      · rfl
theorem app_lenW (S : DevS) (zi : Int) (b : List Int) : (S.app zi b).zones.length = S.zones.length := by
  unfold app
  split
  · rw [len_put, mayS_lenW]
  · rw [mayS_lenW]
theorem reset_lenW (S : DevS) (zi : Int) : (S.reset zi).zones.length = S.zones.length := by
  unfold reset
  split
  · rw [len_put, mayS_lenW]
  · rw [mayS_lenW]
theorem flush_lenW (S : DevS) : S.flush.zones.length = S.zones.length := by
  unfold flush
  split
  · simp
  · rw [mayS_lenW]
theorem appL_lenW (zi : Int) : ∀ (l : List (List Int)) (S : DevS), (S.appL zi l).1.zones.length = S.zones.length
  | [], _ => rfl
  | b :: r, S => by
    unfold appL
    split
    · rw [appL_lenW zi r, app_lenW]
    · exact app_lenW S zi b
theorem wr_lenW (S : DevS) (c : ChkS) : (S.wr c).1.zones.length = S.zones.length := by
  unfold wr
  split
  · rfl
  · split
    · exact reset_lenW S _
    · split
      · rw [appL_lenW, reset_lenW]
      · show ((S.reset _).appL _ c.pages).1.flush.zones.length = _
        rw [flush_lenW, appL_lenW, reset_lenW]
end DevS
/-- Both devices, of one state, apart from each other and from what lay there. -/
structure TwoR (Z : ZBas) (w0 w : World) (db rb : Nat) (S : DevS) (F1 F2 : Nat → Prop) : Prop where
  d : Z.D F1 w db S
  r : RDev F2 w rb S
  ap : ∀ k, F1 k → ¬ F2 k
  f1 : ∀ k, F1 k → w0.heap.size ≤ k
  f2 : ∀ k, F2 k → w0.heap.size ≤ k
  old : Below w0.heap.size w0 w
theorem RDev.lt {F : Nat → Prop} {w : World} {rb : Nat} {S : DevS} (h : RDev F w rb S) : ∀ k, F k → k < w.heap.size := by
  obtain ⟨_, _, _, h⟩ := h
  exact h.lt
theorem RDev.keepW {F G : Nat → Prop} {w w' : World} {rb : Nat} {S : DevS} (h : RDev F w rb S) (hk : Kept G w w') (hn : ∀ k, F k → ¬ G k) : RDev F w' rb S := by
  obtain ⟨a, b, c, h⟩ := h
  exact ⟨a, b, c, h.keep hk hn⟩
theorem RDev.upW {F : Nat → Prop} {w w' : World} {rb : Nat} {S : DevS} (h : RDev F w rb S) (hb : Below w.heap.size w w') : RDev F w' rb S := by
  obtain ⟨a, b, c, h⟩ := h
  exact ⟨a, b, c, h.up hb⟩
theorem TwoR.up {Z : ZBas} {w0 w w' : World} {db rb : Nat} {S : DevS} {F1 F2 : Nat → Prop} (h : TwoR Z w0 w db rb S F1 F2) (hb : Below w.heap.size w w') : TwoR Z w0 w' db rb S F1 F2 :=
  ⟨Z.up h.d hb, h.r.upW hb, h.ap, h.f1, h.f2, below_all h.old hb⟩
/-- The landed device is S', and the document's still S. -/
structure HalfR (Z : ZBas) (w0 w : World) (db rb : Nat) (S S' : DevS) (F1 F2 : Nat → Prop) : Prop where
  d : Z.D F1 w db S'
  r : RDev F2 w rb S
  ap : ∀ k, F1 k → ¬ F2 k
  f1 : ∀ k, F1 k → w0.heap.size ≤ k
  f2 : ∀ k, F2 k → w0.heap.size ≤ k
  old : Below w0.heap.size w0 w
theorem HalfR.up {Z : ZBas} {w0 w w' : World} {db rb : Nat} {S S' : DevS} {F1 F2 : Nat → Prop} (h : HalfR Z w0 w db rb S S' F1 F2) (hb : Below w.heap.size w w') : HalfR Z w0 w' db rb S S' F1 F2 :=
  ⟨Z.up h.d hb, h.r.upW hb, h.ap, h.f1, h.f2, below_all h.old hb⟩
theorem TwoR.left {Z : ZBas} {w0 w w' : World} {db rb : Nat} {S S' : DevS} {F1 F2 F1' : Nat → Prop} (h : TwoR Z w0 w db rb S F1 F2) (hd : Z.D F1' w' db S') (hk : Kept F1 w w') (hg : ∀ k, F1' k → grow F1 w w' k) : HalfR Z w0 w' db rb S S' F1' F2 := by
  have hs := h.old.size
  refine ⟨hd, h.r.keepW hk (fun k h2 h1 => h.ap k h1 h2), fun k h1 h2 => ?_, fun k h1 => ?_, h.f2, ?_⟩
  · rcases hg k h1 with h3 | h3
    · exact h.ap k h3 h2
    · have := h.r.lt k h2
      omega
  · rcases hg k h1 with h3 | h3
    · exact h.f1 k h3
    · omega
  · exact h.old.trans (hk.below hs h.f1)
theorem HalfR.right {Z : ZBas} {w0 w w' : World} {db rb : Nat} {S S' : DevS} {F1 F2 : Nat → Prop} (h : HalfR Z w0 w db rb S S' F1 F2) (hr : RDev (grow F2 w w') w' rb S') (hk : Kept F2 w w') : TwoR Z w0 w' db rb S' F1 (grow F2 w w') := by
  have hs := h.old.size
  refine ⟨Z.keep h.d hk h.ap, hr, fun k h1 h2 => ?_, h.f1, fun k h2 => ?_, h.old.trans (hk.below hs h.f2)⟩
  · rcases h2 with h3 | h3
    · exact h.ap k h1 h3
    · have := Z.lt h.d k h1
      omega
  · rcases h2 with h3 | h3
    · exact h.f2 k h3
    · omega
theorem TwoR.fused {Z : ZBas} {w0 w w' : World} {db rb : Nat} {S S' : DevS} {F1 F2 : Nat → Prop} (h : TwoR Z w0 w db rb S F1 F2) (hd : Z.D (grow F1 w w') w' db S') (hk : Kept F1 w w') : HalfR Z w0 w' db rb S S' (grow F1 w w') F2 := h.left hd hk (fun _ h => h)
set_option maxHeartbeats 4000000 in
set_option maxRecDepth 100000 in
theorem swrites_true {Z : ZBas} {X : EOps} (O : SlOps Z X) {w : World} (hg : Gl w) (z p f : Int) (hf : f ≤ 9223372036854775807) {A : Option Addr} {n c : Nat} {l : List ChkS} (hl : l.length = n) (hA : ChksF (fun k => k < w.heap.size) w A l) (hok : ∀ c ∈ l, ChkOk c) :
    Calls Tryz.prog 3 #[.int .i64 z, .int .i64 p, .int .i64 f, .slice A n c] w (BoolB true w) := by
  have HGL := Lib.hid hg
  have HL := Lib.hid hl
  have HA := Lib.hid hA
  have HOK := Lib.hid hok
  clear hg hl hA hok
  go_enter Tryz.func3, Tryz.ntmps3
  go_wp2_with fail
  refine (sawake_true O HGL.out).mono ?_
  rintro r w1 ⟨rfl, hb⟩
  have HB1 := Lib.hid hb
  clear hb
  go_wp2_with fail
  refine (slarge_is (c := c) HL.out (HA.out.up HB1.out)).mono ?_
  rintro r w2 ⟨rfl, hb⟩
  have HB2 := Lib.hid (below_all HB1.out hb)
  clear hb HB1
  cases hlb : largeC l with
  | true =>
    go_wp2_with fail
    go_ret
    exact ⟨rfl, HB2.out⟩
  | false =>
    have HLG := Lib.hid (largeC_bd hlb)
    have hn30 : n ≤ 30 := by have := HLG.out.1; have := HL.out; omega
    clear hlb
    go_wp2_with fail
    refine (Z.new z p).mono ?_
    cases hnw : newD z p with
    | none =>
      rintro r w3 ⟨rfl, hb⟩
      have HB3 := Lib.hid (below_all HB2.out hb)
      clear hb
      obtain ⟨e1, he1⟩ : ∃ e, errV 1 = e := ⟨_, rfl⟩
      rw [he1]
      go_wp2_with fail
      refine (rnew_at z p).mono ?_
      rw [hnw]
      rintro r w4 ⟨rfl, hb⟩
      have HB4 := Lib.hid (below_all HB3.out hb)
      clear hb
      go_wp2_with fail
      go_ret
      exact ⟨rfl, HB4.out⟩
    | some S0 =>
      have HS0 : Hid (S0.done = 0 ∧ (S0.zones.length : Int) = z) := Lib.hid (by
        unfold newD at hnw
        split at hnw
        · have := Option.some.inj hnw
          subst this
          exact ⟨rfl, by simp [DevS.new]; omega⟩
        · cases hnw)
      rintro r w3 ⟨db, rfl, hd, hb⟩
      have HB3 := Lib.hid (below_all HB2.out hb)
      have HD3 := Lib.hid hd
      have hs3 := HB2.out.size
      have hs4 := hb.size
      clear hd hb
      go_wp2_with fail
      refine (rnew_at z p).mono ?_
      rw [hnw]
      rintro r w4 ⟨rb, rfl, hr, hb⟩
      have HT4 : Hid (TwoR Z w w4 db rb S0 (fun k => w2.heap.size ≤ k ∧ k < w3.heap.size) (fun k => w3.heap.size ≤ k ∧ k < w4.heap.size)) := Lib.hid ⟨Z.up HD3.out hb, hr, fun k h1 h2 => by omega, fun k h => by omega, fun k h => by omega, below_all HB3.out hb⟩
      clear hr hb HD3 HB3 hs3 hs4 hnw
      go_wp2_with fail
      refine (Z.fuse f HT4.out.d hf).mono ?_
      rintro r w5 ⟨rfl, hd5, hk5⟩
      have HT5 := Lib.hid (HT4.out.fused hd5 hk5)
      clear hd5 hk5 HT4
      go_wp2_with fail
      obtain ⟨zb0, cap0, zs0, hr5⟩ := HT5.out.r
      refine (rfuse_at f hr5 hf).mono ?_
      rintro r w6 ⟨rfl, hr6, hk6⟩
      have HT6 := Lib.hid (HT5.out.right hr6 hk6)
      have HS1 : Hid ((S0.fuse f).done = 0 ∧ ((S0.fuse f).zones.length : Int) = z) := Lib.hid HS0.out
      obtain ⟨S1, hS1⟩ : ∃ x, S0.fuse f = x := ⟨_, rfl⟩
      rw [hS1] at HT6 HS1
      clear hr6 hk6 HT5 hr5 hS1 HS0
      go_wp2_with fail
      go_loopg [59] n (fun q x wr => ∃ (i : Nat) (S : DevS) (F1 F2 : Nat → Prop), i ≤ n ∧ q = n - i ∧ x = .int .i64 (i : Int) ∧ S.done ≤ 20 * i ∧ (S.zones.length : Int) = z ∧ TwoR Z w wr db rb S F1 F2)
      case atStart => exact ⟨0, S1, _, _, by omega, by omega, rfl, by rw [HS1.out.1]; omega, HS1.out.2, HT6.out⟩
      case round =>
        clear HT6 HS1
        obtain ⟨i, S, F1, F2, hi, hq, rfl, hsd, hsz, ht⟩ := hrel
        have HQ := Lib.hid hq
        have HSD := Lib.hid hsd
        have HSZ := Lib.hid hsz
        have HT := Lib.hid ht
        clear hq hsd hsz ht
        by_cases hlt : i < n
        · have hil : i < l.length := by rw [HL.out]; exact hlt
          obtain ⟨lb, lo, rfl, hlb, _, hx⟩ := HA.out (by omega)
          obtain ⟨v, hv, h0, h1, h2, h3, h4, h5, h6⟩ := hx i hil
          have HCK := Lib.hid (HOK.out l[i] (List.getElem_mem hil))
          have hdl := HLG.out.2 l[i] (List.getElem_mem hil)
          obtain ⟨C, hC⟩ : ∃ C, l[i] = C := ⟨_, rfl⟩
          rw [hC] at hv h0 h1 h2 h3 h4 h5 HCK hdl
          obtain ⟨VA, vc, rfl, hvc, hvr⟩ := hv.numR
          obtain ⟨vn, hvn⟩ : ∃ m, C.dir.length = m := ⟨_, rfl⟩
          have HVN := Lib.hid hvn
          rw [hvn] at h6 hv hvc
          have HV : Hid (RowF (fun k => k < w.heap.size) w (.slice VA vn vc) (u32s C.dir)) := Lib.hid hv
          have HVR := Lib.hid hvr
          have k0 := (HT.out.old.cell (p := ⟨lb, lo + i * 7, none⟩) hlb).trans h0
          have k1 := (HT.out.old.cell (p := ⟨lb, lo + i * 7 + 1, none⟩) hlb).trans h1
          have k2 := (HT.out.old.cell (p := ⟨lb, lo + i * 7 + 2, none⟩) hlb).trans h2
          have k3 := (HT.out.old.cell (p := ⟨lb, lo + i * 7 + 3, none⟩) hlb).trans h3
          have k4 := (HT.out.old.cell (p := ⟨lb, lo + i * 7 + 4, none⟩) hlb).trans h4
          have k5 := (HT.out.old.cell (p := ⟨lb, lo + i * 7 + 5, none⟩) hlb).trans h5
          have k6 := (HT.out.old.cell (p := ⟨lb, lo + i * 7 + 6, none⟩) hlb).trans h6
          obtain ⟨ke, hke⟩ : ∃ x, (S.wr C).2 = x := ⟨_, rfl⟩
          obtain ⟨S', hS'⟩ : ∃ x, (S.wr C).1 = x := ⟨_, rfl⟩
          have HSD' : Hid (S'.done ≤ 20 * (i + 1)) := Lib.hid (by rw [← hS']; have := DevS.wr_done S C; have := HSD.out; omega)
          have HSZ' : Hid ((S'.zones.length : Int) = z) := Lib.hid (by rw [← hS', DevS.wr_lenW]; exact HSZ.out)
          have hsd9 : S.done ≤ 900000 := by have := HSD.out; omega
          have HWR : Hid (∀ u, Z.D F1 u db S → RowF (fun k => ¬ F1 k) u (.slice VA vn vc) (u32s C.dir) → Calls Tryz.prog 14 #[.pointer (some ⟨db, 0, none⟩), ckV C (.slice VA vn vc)] u (WrDone Z X F1 db S' ke u)) := Lib.hid (fun u hd hr => by
            have := O.write C (.slice VA vn vc) hd hsd9 HCK.out.1 HCK.out.2.1 HCK.out.2.2.1 HCK.out.2.2.2 hdl hr
            rw [hke, hS'] at this
            exact this)
          have HWD : Hid (∀ u, RDev F2 u rb S → Below w.heap.size w u → Calls Tryz.prog 15 #[.pointer (some ⟨rb, 0, none⟩), ckV C (.slice VA vn vc)] u (DoneIs F2 rb S' ke u)) := Lib.hid (fun u hr hb => by
            obtain ⟨a, b, c', hr⟩ := hr
            have := rswrite_at (cc := vc) C hr hsd9 HCK.out.1 (HVR.out.up hb) HVN.out
            rw [hke, hS'] at this
            exact this)
          have HAL : Hid (∀ (u : World) (G1 G2 : Nat → Prop), TwoR Z w u db rb S' G1 G2 → Calls Tryz.prog 17 #[.pointer (some ⟨db, 0, none⟩), .pointer (some ⟨rb, 0, none⟩)] u (BoolB true u)) := Lib.hid (fun u G1 G2 ht => by
            obtain ⟨a, b, c', hr⟩ := ht.r
            exact slalike_at Z ht.d hr (HGL.out.below ht.old))
          have hnu := (ChkS.words_bd HCK.out.1).1
          obtain ⟨x0, hx0⟩ : ∃ x, C.nu = x := ⟨_, rfl⟩
          obtain ⟨x1, hx1⟩ : ∃ x, C.se = x := ⟨_, rfl⟩
          obtain ⟨x2, hx2⟩ : ∃ x, C.sq = x := ⟨_, rfl⟩
          obtain ⟨x3, hx3⟩ : ∃ x, C.z = x := ⟨_, rfl⟩
          obtain ⟨x4, hx4⟩ : ∃ x, C.p = x := ⟨_, rfl⟩
          obtain ⟨x5, hx5⟩ : ∃ x, C.b = x := ⟨_, rfl⟩
          have hv2 : ckV C (.slice VA vn vc) = kV x0 x1 x2 x3 x4 x5 (.slice VA vn vc) := by rw [← hx0, ← hx1, ← hx2, ← hx3, ← hx4, ← hx5]
          rw [hv2] at HWR HWD
          rw [hx0] at k0 hnu
          rw [hx1] at k1
          rw [hx2] at k2
          rw [hx3] at k3
          rw [hx4] at k4
          rw [hx5] at k5
          obtain ⟨w5, hw5⟩ : ∃ u, wr.alloc (.cells #[.int .u32 x0, .int .u32 x1, .int .u32 x2, .int .i64 x3, .int .i64 x4, .int .i64 x5, .slice VA vn vc] 40) = u := ⟨_, rfl⟩
          have hb5 : Below wr.heap.size wr w5 := by rw [← hw5]; exact (Below.refl _ _).alloc (Nat.le_refl _) _
          obtain ⟨CB, hCB⟩ : ∃ x, wr.heap.size = x := ⟨_, rfl⟩
          have HX5 : Hid (Blk w5.drew CB 40 [.int .u32 x0, .int .u32 x1, .int .u32 x2, .int .i64 x3, .int .i64 x4, .int .i64 x5, .slice VA vn vc]) := Lib.hid (by rw [← hw5, ← hCB]; exact heap_alloc_new wr _)
          have HT5 := Lib.hid ((HT.out.up hb5).up (Below.refl w5.heap.size w5).drew)
          have HCB : Hid (∀ k, F1 k → k < CB) := Lib.hid (fun k h => by rw [← hCB]; exact Z.lt HT.out.d k h)
          have HCBF : Hid (¬ F2 CB) := Lib.hid (fun h => by have := HT.out.r.lt CB h; omega)
          have K5 : Hid ((fun w' => w'.cell? ⟨CB, 0, none⟩ = some (.int .u32 x0) ∧ w'.cell? ⟨CB, 1, none⟩ = some (.int .u32 x1) ∧ w'.cell? ⟨CB, 2, none⟩ = some (.int .u32 x2) ∧ w'.cell? ⟨CB, 3, none⟩ = some (.int .i64 x3) ∧ w'.cell? ⟨CB, 4, none⟩ = some (.int .i64 x4) ∧ w'.cell? ⟨CB, 5, none⟩ = some (.int .i64 x5) ∧ w'.cell? ⟨CB, 6, none⟩ = some (.slice VA vn vc)) w5.drew) := Lib.hid (by have h := HX5.out; exact ⟨h.cell 0 (by simp), h.cell 1 (by simp), h.cell 2 (by simp), h.cell 3 (by simp), h.cell 4 (by simp), h.cell 5 (by simp), h.cell 6 (by simp)⟩)
          have HV5 : Hid (RowF (fun k => ¬ F1 k) w5.drew (.slice VA vn vc) (u32s C.dir)) := Lib.hid ((HV.out.up HT5.out.old).mono (fun k h h2 => by have := HT.out.f1 k h2; omega))
          have hne : (ke != ke) = false := by simp
          clear hv hvr hvc hvn h0 h1 h2 h3 h4 h5 h6 hx hlb hb5 hke hS' hx0 hx1 hx2 hx3 hx4 hx5 hv2 HT hC
          go_wp2_with fail
          go_region_held3 (fun w' => w'.cell? ⟨CB, 0, none⟩ = some (.int .u32 x0) ∧ w'.cell? ⟨CB, 1, none⟩ = some (.int .u32 x1) ∧ w'.cell? ⟨CB, 2, none⟩ = some (.int .u32 x2) ∧ w'.cell? ⟨CB, 3, none⟩ = some (.int .i64 x3) ∧ w'.cell? ⟨CB, 4, none⟩ = some (.int .i64 x4) ∧ w'.cell? ⟨CB, 5, none⟩ = some (.int .i64 x5) ∧ w'.cell? ⟨CB, 6, none⟩ = some (.slice VA vn vc))
            (first | exact K5.out | exact K6.out | exact K7.out | exact K8.out | exact K9.out | exact K10.out)
            (first
              | (go_at_call 14; (with_reducible refine (HWR.out _ HT5.out.d HV5.out).mono ?_); rintro r w6 ⟨ev, F1', G6, rfl, hev, hd6, hk6, hf6, hg6⟩; have HT6 := Lib.hid (HT5.out.left hd6 hk6 hf6); have HX6 := Lib.hid (hk6.blk HX5.out (fun h => by have := HCB.out _ h; omega)); have K6 : Hid ((fun w' => w'.cell? ⟨CB, 0, none⟩ = some (.int .u32 x0) ∧ w'.cell? ⟨CB, 1, none⟩ = some (.int .u32 x1) ∧ w'.cell? ⟨CB, 2, none⟩ = some (.int .u32 x2) ∧ w'.cell? ⟨CB, 3, none⟩ = some (.int .i64 x3) ∧ w'.cell? ⟨CB, 4, none⟩ = some (.int .i64 x4) ∧ w'.cell? ⟨CB, 5, none⟩ = some (.int .i64 x5) ∧ w'.cell? ⟨CB, 6, none⟩ = some (.slice VA vn vc)) w6) := Lib.hid (by have h := HX6.out; exact ⟨h.cell 0 (by simp), h.cell 1 (by simp), h.cell 2 (by simp), h.cell 3 (by simp), h.cell 4 (by simp), h.cell 5 (by simp), h.cell 6 (by simp)⟩); have HE6 := Lib.hid hev; have HV6 := Lib.hid (HV5.out.keep hk6 (fun j h h2 => h h2)); clear hev hd6 hk6 hf6 hg6)
              | (go_at_call 13; (with_reducible refine (X.code HE6.out (HGL.out.below HT6.out.old)).mono ?_); rintro r w7 ⟨rfl, hb⟩; have HT7 := Lib.hid (HT6.out.up hb); have HX7 := Lib.hid (HX6.out.up hb (lt_of_block HX6.out)); have K7 : Hid ((fun w' => w'.cell? ⟨CB, 0, none⟩ = some (.int .u32 x0) ∧ w'.cell? ⟨CB, 1, none⟩ = some (.int .u32 x1) ∧ w'.cell? ⟨CB, 2, none⟩ = some (.int .u32 x2) ∧ w'.cell? ⟨CB, 3, none⟩ = some (.int .i64 x3) ∧ w'.cell? ⟨CB, 4, none⟩ = some (.int .i64 x4) ∧ w'.cell? ⟨CB, 5, none⟩ = some (.int .i64 x5) ∧ w'.cell? ⟨CB, 6, none⟩ = some (.slice VA vn vc)) w7) := Lib.hid (by have h := HX7.out; exact ⟨h.cell 0 (by simp), h.cell 1 (by simp), h.cell 2 (by simp), h.cell 3 (by simp), h.cell 4 (by simp), h.cell 5 (by simp), h.cell 6 (by simp)⟩); clear hb)
              | (go_at_call 16; (with_reducible refine (slown_at x0 x1 x2 x3 x4 x5 VA vn vc _).mono ?_); rintro r w8 ⟨rfl, hb⟩; have HT8 := Lib.hid (HT7.out.up hb); have HX8 := Lib.hid (HX7.out.up hb (lt_of_block HX7.out)); have K8 : Hid ((fun w' => w'.cell? ⟨CB, 0, none⟩ = some (.int .u32 x0) ∧ w'.cell? ⟨CB, 1, none⟩ = some (.int .u32 x1) ∧ w'.cell? ⟨CB, 2, none⟩ = some (.int .u32 x2) ∧ w'.cell? ⟨CB, 3, none⟩ = some (.int .i64 x3) ∧ w'.cell? ⟨CB, 4, none⟩ = some (.int .i64 x4) ∧ w'.cell? ⟨CB, 5, none⟩ = some (.int .i64 x5) ∧ w'.cell? ⟨CB, 6, none⟩ = some (.slice VA vn vc)) w8) := Lib.hid (by have h := HX8.out; exact ⟨h.cell 0 (by simp), h.cell 1 (by simp), h.cell 2 (by simp), h.cell 3 (by simp), h.cell 4 (by simp), h.cell 5 (by simp), h.cell 6 (by simp)⟩); clear hb)
              | (go_at_call 15; (with_reducible refine (HWD.out _ HT8.out.r HT8.out.old).mono ?_); rintro r w9 ⟨rfl, hr9, hk9⟩; have HT9 := Lib.hid (HT8.out.right hr9 hk9); have HX9 := Lib.hid (hk9.blk HX8.out (HCBF.out)); have K9 : Hid ((fun w' => w'.cell? ⟨CB, 0, none⟩ = some (.int .u32 x0) ∧ w'.cell? ⟨CB, 1, none⟩ = some (.int .u32 x1) ∧ w'.cell? ⟨CB, 2, none⟩ = some (.int .u32 x2) ∧ w'.cell? ⟨CB, 3, none⟩ = some (.int .i64 x3) ∧ w'.cell? ⟨CB, 4, none⟩ = some (.int .i64 x4) ∧ w'.cell? ⟨CB, 5, none⟩ = some (.int .i64 x5) ∧ w'.cell? ⟨CB, 6, none⟩ = some (.slice VA vn vc)) w9) := Lib.hid (by have h := HX9.out; exact ⟨h.cell 0 (by simp), h.cell 1 (by simp), h.cell 2 (by simp), h.cell 3 (by simp), h.cell 4 (by simp), h.cell 5 (by simp), h.cell 6 (by simp)⟩); clear hr9 hk9)
              | (go_at_call 17; (with_reducible refine (HAL.out _ _ _ HT9.out).mono ?_); rintro r w10 ⟨rfl, hb⟩; have HT10 := Lib.hid (HT9.out.up hb); have HX10 := Lib.hid (HX9.out.up hb (lt_of_block HX9.out)); have K10 : Hid ((fun w' => w'.cell? ⟨CB, 0, none⟩ = some (.int .u32 x0) ∧ w'.cell? ⟨CB, 1, none⟩ = some (.int .u32 x1) ∧ w'.cell? ⟨CB, 2, none⟩ = some (.int .u32 x2) ∧ w'.cell? ⟨CB, 3, none⟩ = some (.int .i64 x3) ∧ w'.cell? ⟨CB, 4, none⟩ = some (.int .i64 x4) ∧ w'.cell? ⟨CB, 5, none⟩ = some (.int .i64 x5) ∧ w'.cell? ⟨CB, 6, none⟩ = some (.slice VA vn vc)) w10) := Lib.hid (by have h := HX10.out; exact ⟨h.cell 0 (by simp), h.cell 1 (by simp), h.cell 2 (by simp), h.cell 3 (by simp), h.cell 4 (by simp), h.cell 5 (by simp), h.cell 6 (by simp)⟩); clear hb))
          obtain ⟨zbx, capx, zsx, hrx⟩ := HT10.out.r
          have HTS : Hid (TwoS Z w10 w10 db rb zbx capx zsx S' F1' (grow F2 w8 w9)) := Lib.hid ⟨HT10.out.d, hrx, Below.refl _ _⟩
          have HAPF : Hid ((∀ k, F1' k → ¬ grow F2 w8 w9 k) ∧ (∀ k, F1' k → w.heap.size ≤ k) ∧ (∀ k, grow F2 w8 w9 k → w.heap.size ≤ k) ∧ Below w.heap.size w w10) := Lib.hid ⟨HT10.out.ap, HT10.out.f1, HT10.out.f2, HT10.out.old⟩
          have HGL := Lib.hid (HGL.out.below HT10.out.old)
          have hzb : 1 ≤ z ∧ z ≤ 24 := by
            have h1 := (Z.wf HT10.out.d).z0
            have h2 := (Z.wf HT10.out.d).z1
            have := HSZ'.out
            omega
          obtain ⟨nu0, hnu0⟩ : ∃ y, x0 = y := ⟨_, rfl⟩
          have HC0 : Hid (w10.cell? ⟨CB, 0, none⟩ = some (.int .u32 nu0)) := Lib.hid (by rw [← hnu0]; exact HX10.out.cell 0 (by simp))
          have HCL := Lib.hid (lt_of_block HX10.out)
          have HNU : Hid (0 ≤ nu0 ∧ nu0 ≤ 4294967295) := Lib.hid (by rw [← hnu0]; exact hnu)
          have hw3 : IntKind.i64.wrap (z - 3) = z - 3 := IntWalk.i64_in _ (by omega)
          clear hrx HT5 HT6 HT7 HT8 HT9 HT10 HX5 HX6 HX7 HX8 HX9 HX10 K5 K6 K7 K8 K9 K10 HE6 HV5 HV6 HWR HWD HAL HCB HCBF HCK HV HVR HVN hnu hne k0 k1 k2 k3 k4 k5 k6 hdl hsd9 hnu0
          go_wp2_with fail
          go_loopg [15] 4 (fun q x wr => ∃ k : Nat, k ≤ 4 ∧ q = 4 - k ∧ x = .int .i64 (z - 3 + (k : Int)) ∧ TwoS Z w10 wr db rb zbx capx zsx S' F1' (grow F2 w8 w9))
          case atStart => exact ⟨0, by omega, by omega, congrArg (Value.int .i64) (by omega), HTS.out⟩
          case round =>
            clear HTS
            obtain ⟨k, hk, hq2, rfl, ht⟩ := hrel
            have HQ2 := Lib.hid hq2
            have HT := Lib.hid ht
            clear hq2 ht
            obtain ⟨zz, hzz⟩ : ∃ x, z - 3 + (k : Int) = x := ⟨_, rfl⟩
            have HZZ := Lib.hid hzz
            rw [hzz]
            by_cases hk4 : k < 4
            · have hle : zz ≤ z := by omega
              have hw4 : IntKind.i64.wrap (zz + 1) = zz + 1 := IntWalk.i64_in _ (by omega)
              clear hzz
              obtain ⟨co, hco⟩ : ∃ x, S'.slC zz = x := ⟨_, rfl⟩
              obtain ⟨ke, hke⟩ : ∃ x, S'.slE zz = x := ⟨_, rfl⟩
              have hdir : co.dir.length ≤ 16 := by rw [← hco]; exact slC_dir S' _
              obtain ⟨x0, x1, x2, x3, x4, x5, dd⟩ := co
              simp only at hdir
              obtain ⟨kk, hkk⟩ : ∃ x, dd.length = x := ⟨_, rfl⟩
              rw [hkk] at hdir
              have HKK := Lib.hid hkk
              have HXL : Hid ((u32s dd).length = kk) := Lib.hid (by rw [u32s_len, hkk])
              clear hkk
              go_wp2_with fail
              refine (O.read zz HT.out.d).mono ?_
              rw [hco, hke]
              rintro r wl ⟨sv, ev, rfl, hs, he, hb⟩
              have hs : RowF (newB wr wl) wl sv (u32s dd) := hs
              rw [show ckV ⟨x0, x1, x2, x3, x4, x5, dd⟩ sv = kV x0 x1 x2 x3 x4 x5 sv from rfl]
              have HE := Lib.hid he
              obtain ⟨Aa, ca, rfl, hqa⟩ := hs
              rw [HXL.out] at hqa ⊢
              obtain ⟨wa, hwa⟩ : ∃ u, wl.alloc (.cells #[.int .u32 x0, .int .u32 x1, .int .u32 x2, .int .i64 x3, .int .i64 x4, .int .i64 x5, .slice Aa kk ca] 40) = u := ⟨_, rfl⟩
              have hb6 : Below wl.heap.size wl wa := by rw [← hwa]; exact (Below.refl _ _).alloc (Nat.le_refl _) _
              obtain ⟨Ba, hBa⟩ : ∃ x, wl.heap.size = x := ⟨_, rfl⟩
              have HXa : Hid (Blk wa Ba 40 [.int .u32 x0, .int .u32 x1, .int .u32 x2, .int .i64 x3, .int .i64 x4, .int .i64 x5, .slice Aa kk ca]) := Lib.hid (by rw [← hwa, ← hBa]; exact heap_alloc_new wl _)
              have HRa : Hid (RdV wa wa.heap.size Aa (u32s dd)) := Lib.hid (hqa.2.1.up hb6)
              have HTa := Lib.hid (HT.out.up (below_all hb hb6))
              have HEa := Lib.hid (X.up HE.out hb6)
              clear hs hb hb6 hqa he HE
              go_wp2_with fail
              refine (rsread_at zz HTa.out.r).mono ?_
              rw [hco, hke]
              rintro r wd ⟨sv, rfl, hs, hb⟩
              have hs : RowF (newB wa wd) wd sv (u32s dd) := hs
              rw [show ckV ⟨x0, x1, x2, x3, x4, x5, dd⟩ sv = kV x0 x1 x2 x3 x4 x5 sv from rfl]
              obtain ⟨Ab, cb, rfl, hqb⟩ := hs
              rw [HXL.out] at hqb ⊢
              obtain ⟨wb, hwb⟩ : ∃ u, wd.alloc (.cells #[.int .u32 x0, .int .u32 x1, .int .u32 x2, .int .i64 x3, .int .i64 x4, .int .i64 x5, .slice Ab kk cb] 46) = u := ⟨_, rfl⟩
              have hb6 : Below wd.heap.size wd wb := by rw [← hwb]; exact (Below.refl _ _).alloc (Nat.le_refl _) _
              obtain ⟨Bb, hBb⟩ : ∃ x, wd.heap.size = x := ⟨_, rfl⟩
              have HXb : Hid (Blk wb Bb 46 [.int .u32 x0, .int .u32 x1, .int .u32 x2, .int .i64 x3, .int .i64 x4, .int .i64 x5, .slice Ab kk cb]) := Lib.hid (by rw [← hwb, ← hBb]; exact heap_alloc_new wd _)
              have HRb : Hid (RdV wb wb.heap.size Ab (u32s dd)) := Lib.hid (hqb.2.1.up hb6)
              have hbw := below_all hb hb6
              have HTb := Lib.hid (HTa.out.up hbw)
              have HEb := Lib.hid (X.up HEa.out hbw)
              have HXc := Lib.hid (HXa.out.up hbw (lt_of_block HXa.out))
              have HRc := Lib.hid (HRa.out.up hbw)
              clear hs hb hb6 hqb hbw HEa HXa HRa HTa hco hke
              go_wp2_with fail
              have a0 := HXc.out.cell 0 (by simp)
              have b0 := HXb.out.cell 0 (by simp)
              have a1 := HXc.out.cell 1 (by simp)
              have b1 := HXb.out.cell 1 (by simp)
              have a2 := HXc.out.cell 2 (by simp)
              have b2 := HXb.out.cell 2 (by simp)
              have a3 := HXc.out.cell 3 (by simp)
              have b3 := HXb.out.cell 3 (by simp)
              have a4 := HXc.out.cell 4 (by simp)
              have b4 := HXb.out.cell 4 (by simp)
              have a5 := HXc.out.cell 5 (by simp)
              have b5 := HXb.out.cell 5 (by simp)
              have a6 := HXc.out.cell 6 (by simp)
              have b6 := HXb.out.cell 6 (by simp)
              simp only [List.getElem_cons_zero, List.getElem_cons_succ] at a0 b0 a1 b1 a2 b2 a3 b3 a4 b4 a5 b5 a6 b6
              have la := lt_of_block HXc.out
              have lb := lt_of_block HXb.out
              have hne : (ke != ke) = false := by simp
              have heq : (ke == ke) = true := by simp
              have hsm : sameC x0 x1 x2 x3 x4 x5 dd x0 x1 x2 x3 x4 x5 dd = true := by simp [sameC]
              refine wp_region_in (fun u => Below wb.heap.size wb u) (Below.refl _ _).drew (by kernel_rfl) (by kernel_rfl) (fun ne => ?_)
              have cD := fun q : In (fun u => Below wb.heap.size wb u) => X.code (X.up HEb.out q.ok) (HGL.out.below (below_all HTb.out.old q.ok))
              have oD := fun q : In (fun u => Below wb.heap.size wb u) => slown_at x0 x1 x2 x3 x4 x5 Aa kk ca q.w
              have sD := fun q : In (fun u => Below wb.heap.size wb u) => rksame_is (n := kk) (m := kk) (c := ca) (c2 := cb) x0 x1 x2 x3 x4 x5 x0 x1 x2 x3 x4 x5 (HRc.out.up q.ok) (HRb.out.up q.ok) HKK.out HKK.out (by omega)
              rw [hsm] at sD
              have ra0 := fun q : In (fun u => Below wb.heap.size wb u) => (q.ok.cell (p := ⟨Ba, 0, none⟩) la).trans a0
              have rb0 := fun q : In (fun u => Below wb.heap.size wb u) => (q.ok.cell (p := ⟨Bb, 0, none⟩) lb).trans b0
              have ra1 := fun q : In (fun u => Below wb.heap.size wb u) => (q.ok.cell (p := ⟨Ba, 1, none⟩) la).trans a1
              have rb1 := fun q : In (fun u => Below wb.heap.size wb u) => (q.ok.cell (p := ⟨Bb, 1, none⟩) lb).trans b1
              have ra2 := fun q : In (fun u => Below wb.heap.size wb u) => (q.ok.cell (p := ⟨Ba, 2, none⟩) la).trans a2
              have rb2 := fun q : In (fun u => Below wb.heap.size wb u) => (q.ok.cell (p := ⟨Bb, 2, none⟩) lb).trans b2
              have ra3 := fun q : In (fun u => Below wb.heap.size wb u) => (q.ok.cell (p := ⟨Ba, 3, none⟩) la).trans a3
              have rb3 := fun q : In (fun u => Below wb.heap.size wb u) => (q.ok.cell (p := ⟨Bb, 3, none⟩) lb).trans b3
              have ra4 := fun q : In (fun u => Below wb.heap.size wb u) => (q.ok.cell (p := ⟨Ba, 4, none⟩) la).trans a4
              have rb4 := fun q : In (fun u => Below wb.heap.size wb u) => (q.ok.cell (p := ⟨Bb, 4, none⟩) lb).trans b4
              have ra5 := fun q : In (fun u => Below wb.heap.size wb u) => (q.ok.cell (p := ⟨Ba, 5, none⟩) la).trans a5
              have rb5 := fun q : In (fun u => Below wb.heap.size wb u) => (q.ok.cell (p := ⟨Bb, 5, none⟩) lb).trans b5
              have ra6 := fun q : In (fun u => Below wb.heap.size wb u) => (q.ok.cell (p := ⟨Ba, 6, none⟩) la).trans a6
              have rb6 := fun q : In (fun u => Below wb.heap.size wb u) => (q.ok.cell (p := ⟨Bb, 6, none⟩) lb).trans b6
              repeat (go_big_quiet_step (first
                | (go_at_call 13; with_reducible exact In.more (fun h1 h2 => below_all h1 h2) (cD _))
                | (go_at_call 16; with_reducible exact In.more (fun h1 h2 => below_all h1 h2) (oD _))
                | (go_at_call 20; with_reducible exact In.more (fun h1 h2 => below_all h1 h2) (sD _))))
              refine wpQuiet_nil ?_
              intro nq
              obtain ⟨wn, hwn⟩ : ∃ x, nq.w = x := ⟨_, rfl⟩
              have HBN := Lib.hid nq.ok
              rw [hwn] at HBN ⊢
              have HTn := Lib.hid (HTb.out.up HBN.out)
              clear ra0 rb0 a0 b0 ra1 rb1 a1 b1 ra2 rb2 a2 b2 ra3 rb3 a3 b3 ra4 rb4 a4 b4 ra5 rb5 a5 b5 ra6 rb6 a6 b6 cD oD sD hwn nq hsm la lb hne heq
              go_wp2_with fail
              go_roundg (4 - (k + 1))
              case rel => exact ⟨k + 1, by omega, rfl, congrArg (Value.int .i64) (by have := HZZ.out; have := hw4; omega), HTn.out⟩
              case measure => have := HQ2.out; omega
            · have hle : ¬ zz ≤ z := by omega
              clear hzz
              obtain ⟨co, hco⟩ : ∃ x, S'.newC = x := ⟨_, rfl⟩
              obtain ⟨ke, hke⟩ : ∃ x, S'.newE = x := ⟨_, rfl⟩
              have hdir : co.dir.length ≤ 16 := by rw [← hco]; exact newC_dir S'
              obtain ⟨x0, x1, x2, x3, x4, x5, dd⟩ := co
              simp only at hdir
              obtain ⟨kk, hkk⟩ : ∃ x, dd.length = x := ⟨_, rfl⟩
              rw [hkk] at hdir
              have HKK := Lib.hid hkk
              have HXL : Hid ((u32s dd).length = kk) := Lib.hid (by rw [u32s_len, hkk])
              clear hkk
              go_wp2_with fail
              refine (O.newest HT.out.d).mono ?_
              rw [hco, hke]
              rintro r wl ⟨sv, ev, rfl, hs, he, hb⟩
              have hs : RowF (newB wr wl) wl sv (u32s dd) := hs
              rw [show ckV ⟨x0, x1, x2, x3, x4, x5, dd⟩ sv = kV x0 x1 x2 x3 x4 x5 sv from rfl]
              have HE := Lib.hid he
              obtain ⟨Aa, ca, rfl, hqa⟩ := hs
              rw [HXL.out] at hqa ⊢
              obtain ⟨wa, hwa⟩ : ∃ u, wl.alloc (.cells #[.int .u32 x0, .int .u32 x1, .int .u32 x2, .int .i64 x3, .int .i64 x4, .int .i64 x5, .slice Aa kk ca] 40) = u := ⟨_, rfl⟩
              have hb6 : Below wl.heap.size wl wa := by rw [← hwa]; exact (Below.refl _ _).alloc (Nat.le_refl _) _
              obtain ⟨Ba, hBa⟩ : ∃ x, wl.heap.size = x := ⟨_, rfl⟩
              have HXa : Hid (Blk wa Ba 40 [.int .u32 x0, .int .u32 x1, .int .u32 x2, .int .i64 x3, .int .i64 x4, .int .i64 x5, .slice Aa kk ca]) := Lib.hid (by rw [← hwa, ← hBa]; exact heap_alloc_new wl _)
              have HRa : Hid (RdV wa wa.heap.size Aa (u32s dd)) := Lib.hid (hqa.2.1.up hb6)
              have HTa := Lib.hid (HT.out.up (below_all hb hb6))
              have HEa := Lib.hid (X.up HE.out hb6)
              clear hs hb hb6 hqa he HE
              go_wp2_with fail
              refine (rsnewest_at HTa.out.r).mono ?_
              rw [hco, hke]
              rintro r wd ⟨sv, rfl, hs, hb⟩
              have hs : RowF (newB wa wd) wd sv (u32s dd) := hs
              rw [show ckV ⟨x0, x1, x2, x3, x4, x5, dd⟩ sv = kV x0 x1 x2 x3 x4 x5 sv from rfl]
              obtain ⟨Ab, cb, rfl, hqb⟩ := hs
              rw [HXL.out] at hqb ⊢
              obtain ⟨wb, hwb⟩ : ∃ u, wd.alloc (.cells #[.int .u32 x0, .int .u32 x1, .int .u32 x2, .int .i64 x3, .int .i64 x4, .int .i64 x5, .slice Ab kk cb] 46) = u := ⟨_, rfl⟩
              have hb6 : Below wd.heap.size wd wb := by rw [← hwb]; exact (Below.refl _ _).alloc (Nat.le_refl _) _
              obtain ⟨Bb, hBb⟩ : ∃ x, wd.heap.size = x := ⟨_, rfl⟩
              have HXb : Hid (Blk wb Bb 46 [.int .u32 x0, .int .u32 x1, .int .u32 x2, .int .i64 x3, .int .i64 x4, .int .i64 x5, .slice Ab kk cb]) := Lib.hid (by rw [← hwb, ← hBb]; exact heap_alloc_new wd _)
              have HRb : Hid (RdV wb wb.heap.size Ab (u32s dd)) := Lib.hid (hqb.2.1.up hb6)
              have hbw := below_all hb hb6
              have HTb := Lib.hid (HTa.out.up hbw)
              have HEb := Lib.hid (X.up HEa.out hbw)
              have HXc := Lib.hid (HXa.out.up hbw (lt_of_block HXa.out))
              have HRc := Lib.hid (HRa.out.up hbw)
              clear hs hb hb6 hqb hbw HEa HXa HRa HTa hco hke
              by_cases hz2 : 2 ≤ z
              · go_wp2_with fail
                have a0 := HXc.out.cell 0 (by simp)
                have b0 := HXb.out.cell 0 (by simp)
                have a1 := HXc.out.cell 1 (by simp)
                have b1 := HXb.out.cell 1 (by simp)
                have a2 := HXc.out.cell 2 (by simp)
                have b2 := HXb.out.cell 2 (by simp)
                have a3 := HXc.out.cell 3 (by simp)
                have b3 := HXb.out.cell 3 (by simp)
                have a4 := HXc.out.cell 4 (by simp)
                have b4 := HXb.out.cell 4 (by simp)
                have a5 := HXc.out.cell 5 (by simp)
                have b5 := HXb.out.cell 5 (by simp)
                have a6 := HXc.out.cell 6 (by simp)
                have b6 := HXb.out.cell 6 (by simp)
                simp only [List.getElem_cons_zero, List.getElem_cons_succ] at a0 b0 a1 b1 a2 b2 a3 b3 a4 b4 a5 b5 a6 b6
                have la := lt_of_block HXc.out
                have lb := lt_of_block HXb.out
                have hne : (ke != ke) = false := by simp
                have heq : (ke == ke) = true := by simp
                have hsm : sameC x0 x1 x2 x3 x4 x5 dd x0 x1 x2 x3 x4 x5 dd = true := by simp [sameC]
                refine wp_region_in (fun u => Below wb.heap.size wb u) (Below.refl _ _).drew (by kernel_rfl) (by kernel_rfl) (fun ne => ?_)
                have cD := fun q : In (fun u => Below wb.heap.size wb u) => X.code (X.up HEb.out q.ok) (HGL.out.below (below_all HTb.out.old q.ok))
                have oD := fun q : In (fun u => Below wb.heap.size wb u) => slown_at x0 x1 x2 x3 x4 x5 Aa kk ca q.w
                have sD := fun q : In (fun u => Below wb.heap.size wb u) => rksame_is (n := kk) (m := kk) (c := ca) (c2 := cb) x0 x1 x2 x3 x4 x5 x0 x1 x2 x3 x4 x5 (HRc.out.up q.ok) (HRb.out.up q.ok) HKK.out HKK.out (by omega)
                rw [hsm] at sD
                have ra0 := fun q : In (fun u => Below wb.heap.size wb u) => (q.ok.cell (p := ⟨Ba, 0, none⟩) la).trans a0
                have rb0 := fun q : In (fun u => Below wb.heap.size wb u) => (q.ok.cell (p := ⟨Bb, 0, none⟩) lb).trans b0
                have ra1 := fun q : In (fun u => Below wb.heap.size wb u) => (q.ok.cell (p := ⟨Ba, 1, none⟩) la).trans a1
                have rb1 := fun q : In (fun u => Below wb.heap.size wb u) => (q.ok.cell (p := ⟨Bb, 1, none⟩) lb).trans b1
                have ra2 := fun q : In (fun u => Below wb.heap.size wb u) => (q.ok.cell (p := ⟨Ba, 2, none⟩) la).trans a2
                have rb2 := fun q : In (fun u => Below wb.heap.size wb u) => (q.ok.cell (p := ⟨Bb, 2, none⟩) lb).trans b2
                have ra3 := fun q : In (fun u => Below wb.heap.size wb u) => (q.ok.cell (p := ⟨Ba, 3, none⟩) la).trans a3
                have rb3 := fun q : In (fun u => Below wb.heap.size wb u) => (q.ok.cell (p := ⟨Bb, 3, none⟩) lb).trans b3
                have ra4 := fun q : In (fun u => Below wb.heap.size wb u) => (q.ok.cell (p := ⟨Ba, 4, none⟩) la).trans a4
                have rb4 := fun q : In (fun u => Below wb.heap.size wb u) => (q.ok.cell (p := ⟨Bb, 4, none⟩) lb).trans b4
                have ra5 := fun q : In (fun u => Below wb.heap.size wb u) => (q.ok.cell (p := ⟨Ba, 5, none⟩) la).trans a5
                have rb5 := fun q : In (fun u => Below wb.heap.size wb u) => (q.ok.cell (p := ⟨Bb, 5, none⟩) lb).trans b5
                have ra6 := fun q : In (fun u => Below wb.heap.size wb u) => (q.ok.cell (p := ⟨Ba, 6, none⟩) la).trans a6
                have rb6 := fun q : In (fun u => Below wb.heap.size wb u) => (q.ok.cell (p := ⟨Bb, 6, none⟩) lb).trans b6
                obtain ⟨wv, hwv⟩ : ∃ x, whereN S'.zones.length nu0 = x := ⟨_, rfl⟩
                have hwne : (wv != wv) = false := by simp
                have hge1 : decide (2 ≤ z) = true := decide_eq_true hz2
                have hge2 : decide (z ≥ 2) = true := decide_eq_true hz2
                have hge3 : decide (z < 2) = false := decide_eq_false (by omega)
                have c0 := (HTb.out.old.cell (p := ⟨CB, 0, none⟩) HCL.out).trans HC0.out
                have lcb : CB < wb.heap.size := Nat.lt_of_lt_of_le HCL.out HTb.out.old.size
                have rc0 := fun q : In (fun u => Below wb.heap.size wb u) => (q.ok.cell (p := ⟨CB, 0, none⟩) lcb).trans c0
                have h2z : 2 ≤ S'.zones.length := by have := HSZ'.out; omega
                have pD := fun q : In (fun u => Below wb.heap.size wb u) => O.place nu0 (Z.up HTb.out.d q.ok) h2z HNU.out.1 HNU.out.2
                have wD := fun q : In (fun u => Below wb.heap.size wb u) => rswhere_at nu0 (HTb.out.r.up q.ok) h2z HNU.out.1 HNU.out.2
                rw [hwv] at pD wD
                repeat (go_big_quiet_step (first
                  | (go_at_call 13; with_reducible exact In.more (fun h1 h2 => below_all h1 h2) (cD _))
                  | (go_at_call 16; with_reducible exact In.more (fun h1 h2 => below_all h1 h2) (oD _))
                  | (go_at_call 20; with_reducible exact In.more (fun h1 h2 => below_all h1 h2) (sD _))
                  | (go_at_call 23; with_reducible exact In.more (fun h1 h2 => below_all h1 h2) (pD _))
                  | (go_at_call 24; with_reducible exact In.same (wD _))))
                refine wpQuiet_nil ?_
                intro nq
                obtain ⟨wn, hwn⟩ : ∃ x, nq.w = x := ⟨_, rfl⟩
                have HBN := Lib.hid nq.ok
                rw [hwn] at HBN ⊢
                have HTn := Lib.hid (HTb.out.up HBN.out)
                clear ra0 rb0 a0 b0 ra1 rb1 a1 b1 ra2 rb2 a2 b2 ra3 rb3 a3 b3 ra4 rb4 a4 b4 ra5 rb5 a5 b5 ra6 rb6 a6 b6 cD oD sD hwn nq hsm la lb hne heq
                clear rc0 pD wD c0 lcb hwne hwv hge1 hge2 hge3
                go_wp2_with fail
                go_roundg (n - (i + 1))
                case rel => exact ⟨i + 1, S', F1', _, by omega, rfl, by go_num, HSD'.out, HSZ'.out, HTn.out.d, ⟨zbx, capx, zsx, HTn.out.r⟩, HAPF.out.1, HAPF.out.2.1, HAPF.out.2.2.1, below_all HAPF.out.2.2.2 HTn.out.old⟩
                case measure => have := HQ.out; omega
              · go_wp2_with fail
                have a0 := HXc.out.cell 0 (by simp)
                have b0 := HXb.out.cell 0 (by simp)
                have a1 := HXc.out.cell 1 (by simp)
                have b1 := HXb.out.cell 1 (by simp)
                have a2 := HXc.out.cell 2 (by simp)
                have b2 := HXb.out.cell 2 (by simp)
                have a3 := HXc.out.cell 3 (by simp)
                have b3 := HXb.out.cell 3 (by simp)
                have a4 := HXc.out.cell 4 (by simp)
                have b4 := HXb.out.cell 4 (by simp)
                have a5 := HXc.out.cell 5 (by simp)
                have b5 := HXb.out.cell 5 (by simp)
                have a6 := HXc.out.cell 6 (by simp)
                have b6 := HXb.out.cell 6 (by simp)
                simp only [List.getElem_cons_zero, List.getElem_cons_succ] at a0 b0 a1 b1 a2 b2 a3 b3 a4 b4 a5 b5 a6 b6
                have la := lt_of_block HXc.out
                have lb := lt_of_block HXb.out
                have hne : (ke != ke) = false := by simp
                have heq : (ke == ke) = true := by simp
                have hsm : sameC x0 x1 x2 x3 x4 x5 dd x0 x1 x2 x3 x4 x5 dd = true := by simp [sameC]
                refine wp_region_in (fun u => Below wb.heap.size wb u) (Below.refl _ _).drew (by kernel_rfl) (by kernel_rfl) (fun ne => ?_)
                have cD := fun q : In (fun u => Below wb.heap.size wb u) => X.code (X.up HEb.out q.ok) (HGL.out.below (below_all HTb.out.old q.ok))
                have oD := fun q : In (fun u => Below wb.heap.size wb u) => slown_at x0 x1 x2 x3 x4 x5 Aa kk ca q.w
                have sD := fun q : In (fun u => Below wb.heap.size wb u) => rksame_is (n := kk) (m := kk) (c := ca) (c2 := cb) x0 x1 x2 x3 x4 x5 x0 x1 x2 x3 x4 x5 (HRc.out.up q.ok) (HRb.out.up q.ok) HKK.out HKK.out (by omega)
                rw [hsm] at sD
                have ra0 := fun q : In (fun u => Below wb.heap.size wb u) => (q.ok.cell (p := ⟨Ba, 0, none⟩) la).trans a0
                have rb0 := fun q : In (fun u => Below wb.heap.size wb u) => (q.ok.cell (p := ⟨Bb, 0, none⟩) lb).trans b0
                have ra1 := fun q : In (fun u => Below wb.heap.size wb u) => (q.ok.cell (p := ⟨Ba, 1, none⟩) la).trans a1
                have rb1 := fun q : In (fun u => Below wb.heap.size wb u) => (q.ok.cell (p := ⟨Bb, 1, none⟩) lb).trans b1
                have ra2 := fun q : In (fun u => Below wb.heap.size wb u) => (q.ok.cell (p := ⟨Ba, 2, none⟩) la).trans a2
                have rb2 := fun q : In (fun u => Below wb.heap.size wb u) => (q.ok.cell (p := ⟨Bb, 2, none⟩) lb).trans b2
                have ra3 := fun q : In (fun u => Below wb.heap.size wb u) => (q.ok.cell (p := ⟨Ba, 3, none⟩) la).trans a3
                have rb3 := fun q : In (fun u => Below wb.heap.size wb u) => (q.ok.cell (p := ⟨Bb, 3, none⟩) lb).trans b3
                have ra4 := fun q : In (fun u => Below wb.heap.size wb u) => (q.ok.cell (p := ⟨Ba, 4, none⟩) la).trans a4
                have rb4 := fun q : In (fun u => Below wb.heap.size wb u) => (q.ok.cell (p := ⟨Bb, 4, none⟩) lb).trans b4
                have ra5 := fun q : In (fun u => Below wb.heap.size wb u) => (q.ok.cell (p := ⟨Ba, 5, none⟩) la).trans a5
                have rb5 := fun q : In (fun u => Below wb.heap.size wb u) => (q.ok.cell (p := ⟨Bb, 5, none⟩) lb).trans b5
                have ra6 := fun q : In (fun u => Below wb.heap.size wb u) => (q.ok.cell (p := ⟨Ba, 6, none⟩) la).trans a6
                have rb6 := fun q : In (fun u => Below wb.heap.size wb u) => (q.ok.cell (p := ⟨Bb, 6, none⟩) lb).trans b6
                have hge1 : decide (2 ≤ z) = false := decide_eq_false (by omega)
                have hge2 : decide (z ≥ 2) = false := decide_eq_false (by omega)
                have hge3 : z < 2 := by omega
                repeat (go_big_quiet_step (first
                  | (go_at_call 13; with_reducible exact In.more (fun h1 h2 => below_all h1 h2) (cD _))
                  | (go_at_call 16; with_reducible exact In.more (fun h1 h2 => below_all h1 h2) (oD _))
                  | (go_at_call 20; with_reducible exact In.more (fun h1 h2 => below_all h1 h2) (sD _))))
                refine wpQuiet_nil ?_
                intro nq
                obtain ⟨wn, hwn⟩ : ∃ x, nq.w = x := ⟨_, rfl⟩
                have HBN := Lib.hid nq.ok
                rw [hwn] at HBN ⊢
                have HTn := Lib.hid (HTb.out.up HBN.out)
                clear ra0 rb0 a0 b0 ra1 rb1 a1 b1 ra2 rb2 a2 b2 ra3 rb3 a3 b3 ra4 rb4 a4 b4 ra5 rb5 a5 b5 ra6 rb6 a6 b6 cD oD sD hwn nq hsm la lb hne heq
                clear hge1 hge2 hge3
                go_wp2_with fail
                go_roundg (n - (i + 1))
                case rel => exact ⟨i + 1, S', F1', _, by omega, rfl, by go_num, HSD'.out, HSZ'.out, HTn.out.d, ⟨zbx, capx, zsx, HTn.out.r⟩, HAPF.out.1, HAPF.out.2.1, HAPF.out.2.2.1, below_all HAPF.out.2.2.2 HTn.out.old⟩
                case measure => have := HQ.out; omega
        · obtain rfl : i = n := by omega
          go_wp2_with fail
          go_ret
          exact ⟨rfl, HT.out.old⟩
end Go.Proofs.YthmpimjmajoimaaGreatDoor
