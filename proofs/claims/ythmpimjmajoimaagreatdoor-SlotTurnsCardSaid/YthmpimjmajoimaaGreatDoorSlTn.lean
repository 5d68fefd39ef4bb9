/-
  Slots that take turns: the law's walk.
-/
-- NAMES
import Derived.Test.YthmpimjmajoimaaGreatDoorSm33
namespace Go.Proofs.YthmpimjmajoimaaGreatDoor
open Go.RowKit

/-- The device while checkpoints are written: the geometry's block gb, the last one's block lb; i were written. -/
structure TurnW (Z : ZBas) (w0 w : World) (F : Nat → Prop) (db gb lb : Nat) (S : DevS) (z p b : Int) (i : Nat) (last : ChkS) (sv : Value) : Prop where
  d : Z.D F w db S
  o : Out F w (fun k => k < w0.heap.size ∨ k = gb ∨ k = lb)
  g : Blk w gb 37 [.int .i64 z, .int .i64 p, .int .i64 b]
  l : BoxC (fun k => k < w0.heap.size ∨ k = lb) w lb last sv
  ne : gb ≠ lb
  lo : ∀ k, F k → w0.heap.size ≤ k
  lg : w0.heap.size ≤ gb ∧ w0.heap.size ≤ lb
  old : Below w0.heap.size w0 w
  t : Turns S z.toNat p.toNat i last
  dn : S.done ≤ i * 20
section
variable {Z : ZBas} {w0 w w' : World} {F F' : Nat → Prop} {db gb lb i : Nat} {S S' : DevS} {z p b : Int} {last c : ChkS} {sv sv' : Value}
theorem TurnW.up (h : TurnW Z w0 w F db gb lb S z p b i last sv) (hb : Below w.heap.size w w') : TurnW Z w0 w' F db gb lb S z p b i last sv :=
  ⟨Z.up h.d hb, h.o.up hb.size, h.g.up hb (lt_of_block h.g), h.l.up hb, h.ne, h.lo, h.lg, wbelow h.old hb, h.t, h.dn⟩
/-- The device is another one. -/
theorem TurnW.done {j : Nat} (h : TurnW Z w0 w F db gb lb S z p b i last sv) (hd : Z.D F' w' db S') (hk : Kept F w w') (hf : ∀ k, F' k → grow F w w' k) (ht : Turns S' z.toNat p.toNat j last) (hn : S'.done ≤ j * 20) : TurnW Z w0 w' F' db gb lb S' z p b j last sv :=
  ⟨hd, h.o.done hk.size hf, hk.blk h.g (h.o gb (.inr (.inl rfl))).2, h.l.keep hk (fun k e => h.o k (e.imp id .inr)), h.ne, fun k e => (hf k e).elim (h.lo k) (fun e => Nat.le_trans h.old.size e.1), h.lg, h.old.trans (hk.below h.old.size h.lo), ht, hn⟩
/-- Another one is the last one. -/
theorem TurnW.put (h : TurnW Z w0 w F db gb lb S z p b i last sv) {u : World} (hk : Kept (fun k => k = lb) w u) (hu : Blk u lb 40 (ckC c sv')) (hr : RowF (fun k => k < w0.heap.size) w sv' (u32s c.dir)) (ht : Turns S z.toNat p.toNat i c) : TurnW Z w0 u F db gb lb S z p b i c sv' := by
  have hlb := (h.o lb (.inr (.inr rfl))).2
  have h0 := h.old.size
  refine ⟨Z.keep h.d hk (fun k hf e => hlb (e ▸ hf)), h.o.up hk.size, hk.blk h.g h.ne, ⟨hu, (hr.keep hk (fun k e1 e2 => by have := h.lg.2; omega)).mono (fun k e => .inl e), .inr rfl⟩, h.ne, h.lo, h.lg, h.old.trans (hk.below h0 (fun k e => by rw [e]; exact h.lg.2)), ht, h.dn⟩
theorem TurnW.cells (h : TurnW Z w0 w F db gb lb S z p b i last sv) : w.cell? ⟨gb, 0, none⟩ = some (.int .i64 z) ∧ w.cell? ⟨gb, 1, none⟩ = some (.int .i64 p) ∧ w.cell? ⟨gb, 2, none⟩ = some (.int .i64 b) := ⟨h.g.cell 0 (by simp), h.g.cell 1 (by simp), h.g.cell 2 (by simp)⟩
end
set_option maxHeartbeats 16000000 in
set_option maxRecDepth 100000 in
theorem sturns_true {Z : ZBas} {X : EOps} (O : SlOps Z X) {w0 : World} (hg : Gl w0) (z p b nu fuse : Int) {A : Option Addr} {n c : Nat} {l : List ChkS} {vk vt : Value} {keep : List Int} {tear : List Bool} (hl : l.length = n) (hA : ChksF (fun k => k < w0.heap.size) w0 A l) (hok : ∀ c ∈ l, ChkOk c) (_hnu : 0 ≤ nu ∧ nu ≤ 4294967295) (hf : fuse ≤ 9223372036854775807)
    (hk : RowF (fun k => k < w0.heap.size) w0 vk (kCells keep)) (ht : RowF (fun k => k < w0.heap.size) w0 vt (tCells tear)) (hwd : ∀ n ∈ keep, Wd n) :
    Calls Tryz.prog 5 #[.agg #[.int .i64 z, .int .i64 p, .int .i64 b], .int .u32 nu, .slice A n c, .int .i64 fuse, vk, vt] w0 (BoolB true w0) := by
  obtain ⟨wa, hwa⟩ : ∃ u, w0.alloc (.cells #[.int .i64 z, .int .i64 p, .int .i64 b] 37) = u := ⟨_, rfl⟩
  have hba : Below w0.heap.size w0 wa := by rw [← hwa]; exact (Below.refl _ _).alloc (Nat.le_refl _) _
  have hgb : Blk wa w0.heap.size 37 [.int .i64 z, .int .i64 p, .int .i64 b] := by rw [← hwa]; exact heap_alloc_new w0 _
  have HAW := Lib.hid (sawake_true O (hg.below hba))
  have HG := Lib.hid hg
  have HBA := Lib.hid hba
  have HGB := Lib.hid hgb
  have HK := Lib.hid hk
  have HT := Lib.hid ht
  obtain ⟨KA, kc, rfl, _, _, _, _⟩ := hk
  obtain ⟨TA, tc, rfl, _, _, _, _⟩ := ht
  obtain ⟨mk, hmk⟩ : ∃ m, (kCells keep).length = m := ⟨_, rfl⟩
  obtain ⟨mt, hmt⟩ : ∃ m, (tCells tear).length = m := ⟨_, rfl⟩
  rw [hmk] at HK ⊢
  rw [hmt] at HT ⊢
  have HMK : Hid (keep.length = mk) := Lib.hid (by rw [← hmk, kCells_len])
  have HMT : Hid (tear.length = mt) := Lib.hid (by rw [← hmt, tCells_len])
  have HL := Lib.hid hl
  have HA := Lib.hid hA
  have HOK := Lib.hid hok
  have HWD := Lib.hid hwd
  obtain ⟨gb, hgbe⟩ : ∃ x, w0.heap.size = x := ⟨_, rfl⟩
  have HGE := Lib.hid hgbe
  rw [hgbe] at HGB
  clear hg hba hgb hmk hmt hl hA hok hwd
  go_enter Tryz.func5, Tryz.ntmps5
  go_wp2_with fail
  clear hwa hgbe
  refine HAW.out.mono ?_
  rintro r w1 ⟨rfl, hb⟩
  have HB1 := Lib.hid (wbelow HBA.out hb)
  have HG1 := Lib.hid (HGB.out.up hb (lt_of_block HGB.out))
  have y0 := HG1.out.cell 0 (by simp)
  have y1 := HG1.out.cell 1 (by simp)
  have y2 := HG1.out.cell 2 (by simp)
  simp only [List.getElem_cons_zero, List.getElem_cons_succ] at y0 y1 y2
  clear hb HAW HBA HGB
  go_wp2_with fail
  refine (rright_is z p b w1).mono ?_
  rintro r w2 ⟨rfl, hb⟩
  have HB2 := Lib.hid (wbelow HB1.out hb)
  have HG2 := Lib.hid (HG1.out.up hb (lt_of_block HG1.out))
  clear y0 y1 y2 hb HB1 HG1
  cases hrb : rightB z p b with
  | false =>
    go_wp2_with fail
    go_ret
    exact ⟨rfl, HB2.out⟩
  | true =>
    have HR := Lib.hid hrb
    clear hrb
    go_wp2_with fail
    refine (slarge_is (c := c) HL.out (HA.out.keep (Kept.of_below (F := fun _ => False) HB2.out) (fun _ _ => id))).mono ?_
    rintro r w3 ⟨rfl, hb⟩
    have HB3 := Lib.hid (wbelow HB2.out hb)
    have HG3 := Lib.hid (HG2.out.up hb (lt_of_block HG2.out))
    clear hb HB2 HG2
    cases hlb : largeC l with
    | true =>
      go_wp2_with fail
      go_ret
      exact ⟨rfl, HB3.out⟩
    | false =>
      have HLG := Lib.hid (largeC_bd hlb)
      clear hlb
      by_cases hf0 : fuse < 0
      · go_wp2_with fail
        go_ret
        exact ⟨rfl, HB3.out⟩
      by_cases hk1 : 100 < mk
      · go_wp2_with fail
        go_ret
        exact ⟨rfl, HB3.out⟩
      by_cases ht1 : 100 < mt
      · go_wp2_with fail
        go_ret
        exact ⟨rfl, HB3.out⟩
      have HF0 := Lib.hid hf0
      have HK1 := Lib.hid hk1
      have HT1 := Lib.hid ht1
      have y0 := HG3.out.cell 0 (by simp)
      have y1 := HG3.out.cell 1 (by simp)
      simp only [List.getElem_cons_zero, List.getElem_cons_succ] at y0 y1
      go_wp2_with fail
      clear hf0 hk1 ht1
      refine (Z.new z p).mono ?_
      have hrr := rightB_bd HR.out
      rw [show newD z p = some (DevS.new z.toNat p.toNat) from by unfold newD; rw [if_pos (by omega)]]
      rintro r w4 ⟨db, rfl, hd, hb⟩
      obtain ⟨w5, hw5⟩ : ∃ u, w4.alloc (.cells #[.int .u32 0, .int .u32 0, .int .u32 0, .int .i64 0, .int .i64 0, .int .i64 0, .slice none 0 0] 40) = u := ⟨_, rfl⟩
      have H5 : Hid (TurnW Z w0 w5 (newB w3 w4) db gb w4.heap.size (DevS.new z.toNat p.toNat) z p b 0 ChkS.zero (.slice none 0 0)) := Lib.hid (by
        have hb5 : Below w4.heap.size w4 w5 := by rw [← hw5]; exact (Below.refl _ _).alloc (Nat.le_refl _) _
        have z5 : w5.heap.size = w4.heap.size + 1 := by rw [← hw5]; simp
        have e3 := lt_of_block HG3.out
        have e4 := hb.size
        have e0 := HB3.out.size
        have eg := HGE.out
        refine ⟨Z.up hd hb5, fun k hk => ⟨by omega, fun e => by have := e.1; have := e.2; omega⟩, HG3.out.up (wbelow hb hb5) e3, ⟨by rw [← hw5]; exact heap_alloc_new w4 _, RowF.nil _ _, .inr rfl⟩, by omega, fun k e => by have := e.1; omega, ⟨by omega, by omega⟩, wbelow HB3.out (wbelow hb hb5), Turns.new, by simp [DevS.new]⟩)
      obtain ⟨lb, hlb⟩ : ∃ x, w4.heap.size = x := ⟨_, rfl⟩
      have HLB := Lib.hid hlb
      rw [hlb] at H5
      clear hd hb hrr y0 y1 HB3 HG3
      go_wp2_with fail
      clear hw5 hlb
      go_loopg [16, 59] n (fun q x y wr => ∃ i : Nat, i ≤ n ∧ q = n - i ∧ x = .bool (decide (0 < i)) ∧ y = .int .i64 (i : Int) ∧ ∃ F S last sv, TurnW Z w0 wr F db gb lb S z p b i last sv ∧ (0 < i → last.nu = (nu + (i : Int) - 1) % 4294967296) ∧ last.dir.length ≤ 100)
      case atStart => exact ⟨0, by omega, by omega, rfl, rfl, _, _, _, _, H5.out, fun h => by omega, by decide⟩
      case round =>
        clear H5
        obtain ⟨i, hi, hq, rfl, rfl, F, S, last, sv, ht, hnl, hld⟩ := hrel
        have HQ := Lib.hid hq
        have HW := Lib.hid ht
        have HNL := Lib.hid hnl
        have HLD := Lib.hid hld
        have HNL := Lib.hid hnl
        have HLD := Lib.hid hld
        have HNL := Lib.hid hnl
        have HLD := Lib.hid hld
        have HNL := Lib.hid hnl
        have HLD := Lib.hid hld
        have HNL := Lib.hid hnl
        have HLD := Lib.hid hld
        have HR2 := Lib.hid (rightB_bd HR.out)
        clear hq ht hnl hld
        by_cases hlt : i < n
        · have hll : i < l.length := by rw [HL.out]; exact hlt
          obtain ⟨bb, o, rfl, hbl, _, hx⟩ := HA.out (by omega)
          obtain ⟨v, hv, h0, h1, h2, h3, h4, h5, h6⟩ := hx i hll
          have HV := Lib.hid (hv.keep (Kept.of_below (F := fun _ => False) HW.out.old) (fun _ _ => id))
          have HV0 := Lib.hid hv
          obtain ⟨Av, cv, rfl, _, _⟩ := hv.numR
          have ho := HW.out.old
          have k0 := (ho.cell (p := ⟨bb, o + i * 7, none⟩) hbl).trans h0
          have k1 := (ho.cell (p := ⟨bb, o + i * 7 + 1, none⟩) hbl).trans h1
          have k2 := (ho.cell (p := ⟨bb, o + i * 7 + 2, none⟩) hbl).trans h2
          have k3 := (ho.cell (p := ⟨bb, o + i * 7 + 3, none⟩) hbl).trans h3
          have k4 := (ho.cell (p := ⟨bb, o + i * 7 + 4, none⟩) hbl).trans h4
          have k5 := (ho.cell (p := ⟨bb, o + i * 7 + 5, none⟩) hbl).trans h5
          have k6 := (ho.cell (p := ⟨bb, o + i * 7 + 6, none⟩) hbl).trans h6
          have HCK := Lib.hid (HOK.out _ (List.getElem_mem hll))
          have HDL := Lib.hid (HLG.out.2 _ (List.getElem_mem hll))
          obtain ⟨c0, hc0⟩ : ∃ x, l[i] = x := ⟨_, rfl⟩
          rw [hc0] at k0 k1 k2 k3 k4 k5 k6 HV HV0 HCK HDL
          obtain ⟨nd, hnd⟩ : ∃ x, c0.dir.length = x := ⟨_, rfl⟩
          have HND := Lib.hid hnd
          rw [hnd] at k6 HV HV0 HDL
          obtain ⟨w6, hw6⟩ : ∃ u, wr.alloc (.cells #[.int .u32 c0.nu, .int .u32 c0.se, .int .u32 c0.sq, .int .i64 c0.z, .int .i64 c0.p, .int .i64 c0.b, .slice Av nd cv] 40) = u := ⟨_, rfl⟩
          have hb6 : Below wr.heap.size wr w6 := by rw [← hw6]; exact (Below.refl _ _).alloc (Nat.le_refl _) _
          have hx6 : Blk w6 wr.heap.size 40 [.int .u32 c0.nu, .int .u32 c0.se, .int .u32 c0.sq, .int .i64 c0.z, .int .i64 c0.p, .int .i64 c0.b, .slice Av nd cv] := by rw [← hw6]; exact heap_alloc_new wr _
          obtain ⟨y0, y1, y2⟩ := (HW.out.up hb6).cells
          have x0 := hx6.cell 0 (by simp)
          have x3 := hx6.cell 3 (by simp)
          have x4 := hx6.cell 4 (by simp)
          have x5 := hx6.cell 5 (by simp)
          simp only [List.getElem_cons_zero, List.getElem_cons_succ] at x0 x3 x4 x5
          have xf := fun k => hx6.free k
          obtain ⟨cb, hcb⟩ : ∃ x, wr.heap.size = x := ⟨_, rfl⟩
          rw [hcb] at x0 x3 x4 x5 xf
          obtain ⟨nn, hnn⟩ : ∃ x, (nu + (i : Int)) % 4294967296 = x := ⟨_, rfl⟩
          have HNN := Lib.hid hnn
          obtain ⟨w7, hw7⟩ : ∃ u, ((((w6.setCell ⟨cb, 3, none⟩ (.int .i64 z)).setCell ⟨cb, 4, none⟩ (.int .i64 p)).setCell ⟨cb, 5, none⟩ (.int .i64 b)).setCell ⟨cb, 0, none⟩ (.int .u32 nn)) = u := ⟨_, rfl⟩
          obtain ⟨ch, hch⟩ : ∃ x : ChkS, (⟨nn, c0.se, c0.sq, z, p, b, c0.dir⟩ : ChkS) = x := ⟨_, rfl⟩
          have HCH := Lib.hid hch
          have H7 : Hid (TurnW Z w0 w7 F db gb lb S z p b i last sv ∧ BoxC (fun k => k < w0.heap.size ∨ k = cb) w7 cb ch (.slice Av nd cv) ∧ Out F w7 (fun k => k < w0.heap.size ∨ k = cb) ∧ cb ≠ lb ∧ w0.heap.size ≤ cb) := Lib.hid (by
            rw [hcb] at hx6
            have b7 := (((hx6.put 3 (.int .i64 z)).put 4 (.int .i64 p)).put 5 (.int .i64 b)).put 0 (.int .u32 nn)
            rw [hw7] at b7
            have k7 : Kept (fun k => k = cb) wr w7 := by
              have h1 : Kept (fun k => k = cb) wr w6 := Kept.of_below hb6
              have h2 := (((h1.put (g := cb) (.inl rfl) 3 (.int .i64 z)).put (g := cb) (.inl rfl) 4 (.int .i64 p)).put (g := cb) (.inl rfl) 5 (.int .i64 b)).put (g := cb) (.inl rfl) 0 (.int .u32 nn)
              rw [hw7] at h2
              exact h2
            have hb7 : Below wr.heap.size wr w7 := k7.below (Nat.le_refl _) (fun k e => by omega)
            have hc7 := lt_of_block b7
            have h0 := HW.out.old.size
            have hlb2 := (HW.out.o lb (.inr (.inr rfl))).1
            refine ⟨HW.out.up hb7, ⟨?_, by rw [← hch]; exact (HV.out.up hb7).mono (fun k e => Or.inl e), .inr rfl⟩, fun k hk => ?_, by omega, by omega⟩
            · rw [← hch]
              exact b7
            · rcases hk with hk | hk
              · exact (HW.out.o.up hb7.size) k (.inl hk)
              · exact ⟨by omega, fun e => by have := Z.lt HW.out.d k e; omega⟩)
          clear hb6 hx6 hch HV
          go_wp2_with fail
          clear hw6 hw7 hcb hnn x0 x3 x4 x5 xf k0 k1 k2 k3 k4 k5 k6 y0 y1 y2
          have HTB : Hid (∀ m : In (fun u => Below w7.heap.size w7 u), Calls Tryz.prog 29 #[.int .i64 b] m.w (fun e w' => e = .returned (.int .i64 (tab b)) ∧ m.w = w')) := Lib.hid (fun m => tables_is b m.w (by have := HR2.out; omega))
          obtain ⟨tb, htb⟩ : ∃ x, tab b = x := ⟨_, rfl⟩
          have HTBE := Lib.hid htb
          rw [htb] at HTB
          clear htb
          have HTE : Hid ((nd : Int) = tb → (fun x : Bool => x = false) ((nd : Int) != tb)) := Lib.hid (fun h => by show ((nd : Int) != tb) = false; rw [h]; simp)
          by_cases hnt : (nd : Int) = tb
          · have q : ((nd : Int) != tb) = false := HTE.out hnt
            have HNT := Lib.hid hnt
            clear hnt HTE
            refine wp_region_in (fun u => Below w7.heap.size w7 u) (Below.refl _ _).drew (by kernel_rfl) (by kernel_rfl) (fun ne => ?_)
            have y6 := fun m : In (fun u => Below w7.heap.size w7 u) => (H7.out.2.1.up m.ok).cells.2.2.2.2.2.2
            have y2 := fun m : In (fun u => Below w7.heap.size w7 u) => (H7.out.1.up m.ok).cells.2.2
            repeat (go_big_quiet_step (first | (go_at_call 29; (with_reducible exact In.same (HTB.out _)))))
            refine wpQuiet_nil ?_
            intro nq
            have H8 := Lib.hid (And.intro (H7.out.1.up nq.ok) (And.intro (H7.out.2.1.up nq.ok) (And.intro (H7.out.2.2.1.up nq.ok.size) H7.out.2.2.2)))
            obtain ⟨w8, hw8⟩ : ∃ u, nq.w = u := ⟨_, rfl⟩
            rw [hw8] at H8 ⊢
            clear hw8 y6 y2 q HTB H7
            have HFIT : Hid (Fit z.toNat p.toNat ch) := Lib.hid (by
              have hr2 := HR2.out
              have hck := HCK.out
              have hnn2 := HNN.out
              rw [← HCH.out]
              refine ⟨?_, ?_, by show z = _; omega, by show p = _; omega⟩
              · show rightC z p b c0.dir.length = true
                unfold rightC
                rw [HR.out, HND.out, HNT.out, HTBE.out]
                simp
              · have hw := hck.1
                intro x hx
                simp only [List.mem_cons] at hx
                rcases hx with rfl | hx
                · exact ⟨by omega, by omega⟩
                · exact hw x (by simp only [List.mem_cons]; exact .inr hx))
            have HNU : Hid (0 < i → ch.nu = (last.nu + 1) % 4294967296) := Lib.hid (fun h => by
              rw [← HCH.out, HNL.out h]
              show nn = _
              have := HNN.out
              omega)
            have HZ2 : Hid (2 ≤ z.toNat) := Lib.hid (by have := HR2.out; omega)
            have HCD : Hid (ch.dir.length ≤ 100) := Lib.hid (by rw [← HCH.out]; show c0.dir.length ≤ 100; rw [HND.out]; exact HDL.out)
            have HCW : Hid (Wide ch.z ∧ Wide ch.p ∧ Wide ch.b) := Lib.hid (by
              rw [← HCH.out]
              have := HR2.out
              exact ⟨⟨by show (-9223372036854775808 : Int) ≤ z; omega, by show z ≤ 9223372036854775807; omega⟩, ⟨by show (-9223372036854775808 : Int) ≤ p; omega, by show p ≤ 9223372036854775807; omega⟩, ⟨by show (-9223372036854775808 : Int) ≤ b; omega, by show b ≤ 9223372036854775807; omega⟩⟩)
            by_cases h1 : i = 1
            · have q1 : ((i : Int) == 1) = true := by simp; omega
              have HI1 := Lib.hid h1
              clear h1
              go_wp2_with fail
              refine (Z.fuse fuse H8.out.1.d hf).mono ?_
              rintro r w9 ⟨rfl, hd, hk⟩
              have H9 : Hid (TurnW Z w0 w9 (grow F w8 w9) db gb lb (S.fuse fuse) z p b i last sv ∧ BoxC (fun k => k < w0.heap.size ∨ k = cb) w9 cb ch (.slice Av nd cv) ∧ Out (grow F w8 w9) w9 (fun k => k < w0.heap.size ∨ k = cb) ∧ cb ≠ lb ∧ w0.heap.size ≤ cb) :=
                Lib.hid ⟨H8.out.1.done hd hk (fun k h => h) (H8.out.1.t.fuse (by have := HI1.out; omega) fuse) H8.out.1.dn, H8.out.2.1.keep hk H8.out.2.2.1, H8.out.2.2.1.done hk.size (fun k h => h), H8.out.2.2.2⟩
              obtain ⟨F9, hF9⟩ : ∃ G, grow F w8 w9 = G := ⟨_, rfl⟩
              obtain ⟨S9, hS9⟩ : ∃ G, S.fuse fuse = G := ⟨_, rfl⟩
              rw [hF9, hS9] at H9
              clear hd hk hF9 hS9 H8
              obtain ⟨k0, k1, k2, k3, k4, k5, k6⟩ := H9.out.2.1.cells
              go_wp2_with fail
              clear q1
              refine (O.write ch _ H9.out.1.d (Nat.le_trans H9.out.1.dn (by have h1 := HLG.out.1; have h2 := HL.out; omega)) HFIT.out.w HCW.out.1 HCW.out.2.1 HCW.out.2.2 HCD.out (H9.out.2.1.2.1.mono (fun k hk => (H9.out.2.2.1 k hk).2))).mono ?_
              rintro r wb ⟨vb, Fb, Gb, rfl, he, hd, hk, hff, hgg⟩
              obtain ⟨Sb, hSb⟩ : ∃ x, (S9.wr ch).1 = x := ⟨_, rfl⟩
              obtain ⟨eb, heb⟩ : ∃ x, (S9.wr ch).2 = x := ⟨_, rfl⟩
              rw [heb] at he
              have HBX := Lib.hid (And.intro (H9.out.2.1.keep hk H9.out.2.2.1) (H9.out.2.2.1.done hk.size hff))
              have HBB := Lib.hid (H9.out.1.old.trans (hk.below H9.out.1.old.size H9.out.1.lo))
              clear k0 k1 k2 k3 k4 k5 k6
              by_cases h0 : eb = 0
              · subst h0
                obtain rfl := X.none he
                have HW2 : Hid (Z.D Fb wb db (S9.wr ch).1 ∧ Kept F9 w9 wb ∧ (∀ k, Fb k → grow F9 w9 wb k)) := Lib.hid ⟨hd, hk, hff⟩
                have HTW := Lib.hid (H9.out.1.t.write HZ2.out HFIT.out HNU.out heb)
                have HDW : Hid ((S9.wr ch).1.done ≤ (i + 1) * 20) := Lib.hid (by have h1 := DevS.wr_done S9 ch; have h2 := H9.out.1.dn; omega)
                obtain ⟨k0, k1, k2, k3, k4, k5, k6⟩ := HBX.out.1.cells
                have HLB := Lib.hid (H9.out.1.l.keep hk (fun k e => H9.out.1.o k (e.imp id .inr)))
                have hlc := fun k => HLB.out.1.free k
                obtain ⟨l0, l1, l2, l3, l4, l5, l6⟩ := HLB.out.cells
                obtain ⟨wc, hwc⟩ : ∃ u, (((((((wb.setCell ⟨lb, 0, none⟩ (.int .u32 ch.nu)).setCell ⟨lb, 1, none⟩ (.int .u32 ch.se)).setCell ⟨lb, 2, none⟩ (.int .u32 ch.sq)).setCell ⟨lb, 3, none⟩ (.int .i64 ch.z)).setCell ⟨lb, 4, none⟩ (.int .i64 ch.p)).setCell ⟨lb, 5, none⟩ (.int .i64 ch.b)).setCell ⟨lb, 6, none⟩ (.slice Av nd cv)) = u := ⟨_, rfl⟩
                have HNX : Hid (∃ F S, TurnW Z w0 wc F db gb lb S z p b (i + 1) ch (.slice Av nd cv)) := Lib.hid (by
                  have hkc : Kept (fun k => k = lb) wb wc := by
                    have h := (((((((Kept.refl (fun k => k = lb) wb).put (g := lb) (.inl rfl) 0 (.int .u32 ch.nu)).put (g := lb) (.inl rfl) 1 (.int .u32 ch.se)).put (g := lb) (.inl rfl) 2 (.int .u32 ch.sq)).put (g := lb) (.inl rfl) 3 (.int .i64 ch.z)).put (g := lb) (.inl rfl) 4 (.int .i64 ch.p)).put (g := lb) (.inl rfl) 5 (.int .i64 ch.b)).put (g := lb) (.inl rfl) 6 (.slice Av nd cv)
                    rw [hwc] at h
                    exact h
                  have hbc := ((((((HLB.out.1.put 0 (.int .u32 ch.nu)).put 1 (.int .u32 ch.se)).put 2 (.int .u32 ch.sq)).put 3 (.int .i64 ch.z)).put 4 (.int .i64 ch.p)).put 5 (.int .i64 ch.b)).put 6 (.slice Av nd cv)
                  rw [hwc] at hbc
                  have hbc : Blk wc lb 40 (ckC ch (.slice Av nd cv)) := hbc
                  have hlt0 := HW.out.lg.2
                  have hold := H9.out.1.old.size
                  -- the device, the geometry, the last one's block
                  have hgB := hk.blk H9.out.1.g (H9.out.1.o gb (.inr (.inl rfl))).2
                  have hO := H9.out.1.o.done hk.size hff
                  have hlbF := (hO lb (.inr (.inr rfl))).2
                  have hB2 := HBB.out
                  have hBc := hB2.trans (hkc.below hB2.size (fun k e => by rw [e]; exact hlt0))
                  have hrow : RowF (fun k => k < w0.heap.size) wc (.slice Av nd cv) (u32s ch.dir) := by
                    rw [← HCH.out]
                    exact HV0.out.keep (Kept.of_below (F := fun _ => False) (hBc.mono (Nat.le_refl _))) (fun _ _ => id)
                  exact ⟨Fb, (S9.wr ch).1, Z.keep hd hkc (fun k hf e => hlbF (e ▸ hf)), hO.up hkc.size, hkc.blk hgB H9.out.1.ne, ⟨hbc, hrow.mono (fun k e => .inl e), .inr rfl⟩, H9.out.1.ne, fun k e => (hff k e).elim (H9.out.1.lo k) (fun e => Nat.le_trans H9.out.1.old.size e.1), H9.out.1.lg, hBc, HTW.out, HDW.out⟩)
                have HNN2 : Hid (0 < i + 1 → ch.nu = (nu + ((i + 1 : Nat) : Int) - 1) % 4294967296) := Lib.hid (fun _ => by
                  rw [← HCH.out]
                  show nn = _
                  rw [← HNN.out, show nu + ((i + 1 : Nat) : Int) - 1 = nu + (i : Int) by omega])
                clear he hd hk hff hgg HW2 HTW HDW
                go_wp2_with fail
                clear hwc k0 k1 k2 k3 k4 k5 k6 l0 l1 l2 l3 l4 l5 l6 hlc
                go_roundg (n - (i + 1))
                case rel =>
                  obtain ⟨F', S', h'⟩ := HNX.out
                  have h30a := HLG.out.1
                  have h30b := HL.out
                  refine ⟨i + 1, by omega, rfl, by simp, ?_, F', S', ch, _, h', HNN2.out, HCD.out⟩
                  rw [show wrap64 ((i : Int) + 1) = ((i + 1 : Nat) : Int) from by unfold RowKit.wrap64; omega]
                case measure => have := HQ.out; omega
              · obtain ⟨Tb, xb, rfl⟩ := X.some he h0
                have HERR : Hid (X.E Gb wb eb (.iface Tb xb) ∧ ∀ k, Gb k → k < wb.heap.size ∧ ¬ Fb k) := Lib.hid ⟨he, fun k hk => ⟨(hgg k hk).1.2, (hgg k hk).2⟩⟩
                have HDN := Lib.hid (H9.out.1.t.down HZ2.out HFIT.out HNU.out (by rw [heb]; exact h0) keep tear)
                rw [heb, hSb] at HDN
                rw [hSb] at hd
                have HDB := Lib.hid hd
                have HOB := Lib.hid (H9.out.1.o.done hk.size hff)
                have HLB := Lib.hid (H9.out.1.l.keep hk (fun k e => H9.out.1.o k (e.imp id .inr)))
                have HLO : Hid (∀ k, Fb k → w0.heap.size ≤ k) := Lib.hid (fun k e => (hff k e).elim (H9.out.1.lo k) (fun e => Nat.le_trans H9.out.1.old.size e.1))
                have d0 : decide (0 < i) = true := by simpa using HDN.out.2.1
                rw [d0]
                clear he hd hk hff hgg heb hSb h0 d0
                go_wp2_with fail
                refine (Z.crash _ _ keep tear HDB.out ((HK.out.keep (Kept.of_below (F := fun _ => False) HBB.out) (fun _ _ => id)).mono (fun k e => (HOB.out k (.inl e)).2)) ((HT.out.keep (Kept.of_below (F := fun _ => False) HBB.out) (fun _ _ => id)).mono (fun k e => (HOB.out k (.inl e)).2)) (by rw [HMK.out]; have := HK1.out; omega) (by rw [HMT.out]; have := HT1.out; omega) HWD.out).mono ?_
                rintro r w3 ⟨rfl, hd, hk⟩
                have HL3 := Lib.hid (HLB.out.keep hk (fun k e => HOB.out k (e.imp id .inr)))
                have HC3 := Lib.hid (HBX.out.1.keep hk HBX.out.2)
                have HE3 := Lib.hid (X.keep HERR.out.1 hk (fun k e => (HERR.out.2 k e).2))
                have HB3 := Lib.hid (HBB.out.trans (hk.below HBB.out.size HLO.out))
                have HD3 := Lib.hid hd
                clear hd hk
                go_wp2_with fail
                refine (O.newest HD3.out).mono ?_
                rintro r w4 ⟨s4, v4, rfl, hr, he, hb⟩
                obtain ⟨A4, c4, rfl, _, _⟩ := hr.numR
                obtain ⟨cn, hcn⟩ : ∃ x, (Sb.crash keep tear).newC = x := ⟨_, rfl⟩
                rw [hcn] at hr HDN ⊢
                rw [HDN.out.2.2.1] at he
                obtain rfl := X.none he
                obtain ⟨n4, hn4⟩ : ∃ x, cn.dir.length = x := ⟨_, rfl⟩
                rw [hn4] at hr ⊢
                obtain ⟨w5, hw5⟩ : ∃ u, w4.alloc (.cells #[.int .u32 cn.nu, .int .u32 cn.se, .int .u32 cn.sq, .int .i64 cn.z, .int .i64 cn.p, .int .i64 cn.b, .slice A4 n4 c4] 40) = u := ⟨_, rfl⟩
                have hbx := BoxC.told hr hw5 hb.size
                have hbb := wbelow hb hbx.2
                have HN5 := Lib.hid hbx.1
                have HL5 := Lib.hid (HL3.out.up hbb)
                have HC5 := Lib.hid (HC3.out.up hbb)
                have HE5 := Lib.hid (X.up HE3.out hbb)
                have HB5 := Lib.hid (wbelow HB3.out hbb)
                have HCN : Hid (cn.dir.length ≤ 100) := Lib.hid (by
                  rcases HDN.out.2.2.2 with e | e
                  · rw [e]; exact HLD.out
                  · rw [e]; exact HCD.out)
                have HE7 := Lib.hid HDN.out.1
                have HDE := Lib.hid HDN.out.2.2.2
                clear hr he hb hbx hbb hcn HDN
                go_wp2_with fail
                clear hw5 hn4
                obtain rfl := HE7.out
                refine (X.code HE5.out (HG.out.below HB5.out)).mono ?_
                rintro r w6 ⟨rfl, hb⟩
                have HN6 := Lib.hid (HN5.out.up hb)
                have HL6 := Lib.hid (HL5.out.up hb)
                have HC6 := Lib.hid (HC5.out.up hb)
                have HB6 := Lib.hid (wbelow HB5.out hb)
                obtain ⟨a0, a1, a2, a3, a4, a5, a6⟩ := HN6.out.cells
                obtain ⟨l0, l1, l2, l3, l4, l5, l6⟩ := HL6.out.cells
                have hsvf := HL6.out.2.1.numR
                obtain ⟨As, cs, rfl, _, _⟩ := hsvf
                clear hb HN5 HL5 HC5 HB5
                go_wp2_with fail
                clear a0 a1 a2 a3 a4 a5 a6 l0 l1 l2 l3 l4 l5 l6
                refine (csame_at cn last HN6.out.2.1 HL6.out.2.1 (Nat.le_trans HCN.out (by decide)) (Nat.le_trans HLD.out (by decide))).mono ?_
                rintro r w7 ⟨rfl, hb⟩
                have HN7 := Lib.hid (HN6.out.up hb)
                have HC7 := Lib.hid (HC6.out.up hb)
                have HB7 := Lib.hid (wbelow HB6.out hb)
                clear hb HN6 HL6 HC6 HB6
                cases hsm : sameS cn last with
                | true =>
                  clear hsm
                  go_wp2_with fail
                  go_ret
                  exact ⟨rfl, HB7.out⟩
                | false =>
                  obtain ⟨a0, a1, a2, a3, a4, a5, a6⟩ := HN7.out.cells
                  obtain ⟨l0, l1, l2, l3, l4, l5, l6⟩ := HC7.out.cells
                  have HSM := Lib.hid hsm
                  clear hsm
                  go_wp2_with fail
                  clear a0 a1 a2 a3 a4 a5 a6 l0 l1 l2 l3 l4 l5 l6
                  refine (csame_at cn ch HN7.out.2.1 HC7.out.2.1 (Nat.le_trans HCN.out (by decide)) (Nat.le_trans HCD.out (by decide))).mono ?_
                  have HTT : Hid (sameS cn ch = true) := Lib.hid (by
                    rcases HDE.out with e | e
                    · have := HSM.out
                      rw [e, sameS_self] at this
                      cases this
                    · rw [e, sameS_self])
                  rw [HTT.out]
                  rintro r w8 ⟨rfl, hb⟩
                  have HB8 := Lib.hid (wbelow HB7.out hb)
                  clear hb
                  go_wp2_with fail
                  go_ret
                  exact ⟨rfl, HB8.out⟩
            · have q1 : ((i : Int) == 1) = false := by simp; omega
              clear h1
              have H9 := Lib.hid H8.out
              clear H8
              obtain ⟨k0, k1, k2, k3, k4, k5, k6⟩ := H9.out.2.1.cells
              go_wp2_with fail
              clear q1
              refine (O.write ch _ H9.out.1.d (Nat.le_trans H9.out.1.dn (by have h1 := HLG.out.1; have h2 := HL.out; omega)) HFIT.out.w HCW.out.1 HCW.out.2.1 HCW.out.2.2 HCD.out (H9.out.2.1.2.1.mono (fun k hk => (H9.out.2.2.1 k hk).2))).mono ?_
              rintro r wb ⟨vb, Fb, Gb, rfl, he, hd, hk, hff, hgg⟩
              obtain ⟨Sb, hSb⟩ : ∃ x, (S.wr ch).1 = x := ⟨_, rfl⟩
              obtain ⟨eb, heb⟩ : ∃ x, (S.wr ch).2 = x := ⟨_, rfl⟩
              rw [heb] at he
              have HBX := Lib.hid (And.intro (H9.out.2.1.keep hk H9.out.2.2.1) (H9.out.2.2.1.done hk.size hff))
              have HBB := Lib.hid (H9.out.1.old.trans (hk.below H9.out.1.old.size H9.out.1.lo))
              clear k0 k1 k2 k3 k4 k5 k6
              by_cases h0 : eb = 0
              · subst h0
                obtain rfl := X.none he
                have HW2 : Hid (Z.D Fb wb db (S.wr ch).1 ∧ Kept F w8 wb ∧ (∀ k, Fb k → grow F w8 wb k)) := Lib.hid ⟨hd, hk, hff⟩
                have HTW := Lib.hid (H9.out.1.t.write HZ2.out HFIT.out HNU.out heb)
                have HDW : Hid ((S.wr ch).1.done ≤ (i + 1) * 20) := Lib.hid (by have h1 := DevS.wr_done S ch; have h2 := H9.out.1.dn; omega)
                obtain ⟨k0, k1, k2, k3, k4, k5, k6⟩ := HBX.out.1.cells
                have HLB := Lib.hid (H9.out.1.l.keep hk (fun k e => H9.out.1.o k (e.imp id .inr)))
                have hlc := fun k => HLB.out.1.free k
                obtain ⟨l0, l1, l2, l3, l4, l5, l6⟩ := HLB.out.cells
                obtain ⟨wc, hwc⟩ : ∃ u, (((((((wb.setCell ⟨lb, 0, none⟩ (.int .u32 ch.nu)).setCell ⟨lb, 1, none⟩ (.int .u32 ch.se)).setCell ⟨lb, 2, none⟩ (.int .u32 ch.sq)).setCell ⟨lb, 3, none⟩ (.int .i64 ch.z)).setCell ⟨lb, 4, none⟩ (.int .i64 ch.p)).setCell ⟨lb, 5, none⟩ (.int .i64 ch.b)).setCell ⟨lb, 6, none⟩ (.slice Av nd cv)) = u := ⟨_, rfl⟩
                have HNX : Hid (∃ F S, TurnW Z w0 wc F db gb lb S z p b (i + 1) ch (.slice Av nd cv)) := Lib.hid (by
                  have hkc : Kept (fun k => k = lb) wb wc := by
                    have h := (((((((Kept.refl (fun k => k = lb) wb).put (g := lb) (.inl rfl) 0 (.int .u32 ch.nu)).put (g := lb) (.inl rfl) 1 (.int .u32 ch.se)).put (g := lb) (.inl rfl) 2 (.int .u32 ch.sq)).put (g := lb) (.inl rfl) 3 (.int .i64 ch.z)).put (g := lb) (.inl rfl) 4 (.int .i64 ch.p)).put (g := lb) (.inl rfl) 5 (.int .i64 ch.b)).put (g := lb) (.inl rfl) 6 (.slice Av nd cv)
                    rw [hwc] at h
                    exact h
                  have hbc := ((((((HLB.out.1.put 0 (.int .u32 ch.nu)).put 1 (.int .u32 ch.se)).put 2 (.int .u32 ch.sq)).put 3 (.int .i64 ch.z)).put 4 (.int .i64 ch.p)).put 5 (.int .i64 ch.b)).put 6 (.slice Av nd cv)
                  rw [hwc] at hbc
                  have hbc : Blk wc lb 40 (ckC ch (.slice Av nd cv)) := hbc
                  have hlt0 := HW.out.lg.2
                  have hold := H9.out.1.old.size
                  -- the device, the geometry, the last one's block
                  have hgB := hk.blk H9.out.1.g (H9.out.1.o gb (.inr (.inl rfl))).2
                  have hO := H9.out.1.o.done hk.size hff
                  have hlbF := (hO lb (.inr (.inr rfl))).2
                  have hB2 := HBB.out
                  have hBc := hB2.trans (hkc.below hB2.size (fun k e => by rw [e]; exact hlt0))
                  have hrow : RowF (fun k => k < w0.heap.size) wc (.slice Av nd cv) (u32s ch.dir) := by
                    rw [← HCH.out]
                    exact HV0.out.keep (Kept.of_below (F := fun _ => False) (hBc.mono (Nat.le_refl _))) (fun _ _ => id)
                  exact ⟨Fb, (S.wr ch).1, Z.keep hd hkc (fun k hf e => hlbF (e ▸ hf)), hO.up hkc.size, hkc.blk hgB H9.out.1.ne, ⟨hbc, hrow.mono (fun k e => .inl e), .inr rfl⟩, H9.out.1.ne, fun k e => (hff k e).elim (H9.out.1.lo k) (fun e => Nat.le_trans H9.out.1.old.size e.1), H9.out.1.lg, hBc, HTW.out, HDW.out⟩)
                have HNN2 : Hid (0 < i + 1 → ch.nu = (nu + ((i + 1 : Nat) : Int) - 1) % 4294967296) := Lib.hid (fun _ => by
                  rw [← HCH.out]
                  show nn = _
                  rw [← HNN.out, show nu + ((i + 1 : Nat) : Int) - 1 = nu + (i : Int) by omega])
                clear he hd hk hff hgg HW2 HTW HDW
                go_wp2_with fail
                clear hwc k0 k1 k2 k3 k4 k5 k6 l0 l1 l2 l3 l4 l5 l6 hlc
                go_roundg (n - (i + 1))
                case rel =>
                  obtain ⟨F', S', h'⟩ := HNX.out
                  have h30a := HLG.out.1
                  have h30b := HL.out
                  refine ⟨i + 1, by omega, rfl, by simp, ?_, F', S', ch, _, h', HNN2.out, HCD.out⟩
                  rw [show wrap64 ((i : Int) + 1) = ((i + 1 : Nat) : Int) from by unfold RowKit.wrap64; omega]
                case measure => have := HQ.out; omega
              · obtain ⟨Tb, xb, rfl⟩ := X.some he h0
                have HERR : Hid (X.E Gb wb eb (.iface Tb xb) ∧ ∀ k, Gb k → k < wb.heap.size ∧ ¬ Fb k) := Lib.hid ⟨he, fun k hk => ⟨(hgg k hk).1.2, (hgg k hk).2⟩⟩
                have HDN := Lib.hid (H9.out.1.t.down HZ2.out HFIT.out HNU.out (by rw [heb]; exact h0) keep tear)
                rw [heb, hSb] at HDN
                rw [hSb] at hd
                have HDB := Lib.hid hd
                have HOB := Lib.hid (H9.out.1.o.done hk.size hff)
                have HLB := Lib.hid (H9.out.1.l.keep hk (fun k e => H9.out.1.o k (e.imp id .inr)))
                have HLO : Hid (∀ k, Fb k → w0.heap.size ≤ k) := Lib.hid (fun k e => (hff k e).elim (H9.out.1.lo k) (fun e => Nat.le_trans H9.out.1.old.size e.1))
                have d0 : decide (0 < i) = true := by simpa using HDN.out.2.1
                rw [d0]
                clear he hd hk hff hgg heb hSb h0 d0
                go_wp2_with fail
                refine (Z.crash _ _ keep tear HDB.out ((HK.out.keep (Kept.of_below (F := fun _ => False) HBB.out) (fun _ _ => id)).mono (fun k e => (HOB.out k (.inl e)).2)) ((HT.out.keep (Kept.of_below (F := fun _ => False) HBB.out) (fun _ _ => id)).mono (fun k e => (HOB.out k (.inl e)).2)) (by rw [HMK.out]; have := HK1.out; omega) (by rw [HMT.out]; have := HT1.out; omega) HWD.out).mono ?_
                rintro r w3 ⟨rfl, hd, hk⟩
                have HL3 := Lib.hid (HLB.out.keep hk (fun k e => HOB.out k (e.imp id .inr)))
                have HC3 := Lib.hid (HBX.out.1.keep hk HBX.out.2)
                have HE3 := Lib.hid (X.keep HERR.out.1 hk (fun k e => (HERR.out.2 k e).2))
                have HB3 := Lib.hid (HBB.out.trans (hk.below HBB.out.size HLO.out))
                have HD3 := Lib.hid hd
                clear hd hk
                go_wp2_with fail
                refine (O.newest HD3.out).mono ?_
                rintro r w4 ⟨s4, v4, rfl, hr, he, hb⟩
                obtain ⟨A4, c4, rfl, _, _⟩ := hr.numR
                obtain ⟨cn, hcn⟩ : ∃ x, (Sb.crash keep tear).newC = x := ⟨_, rfl⟩
                rw [hcn] at hr HDN ⊢
                rw [HDN.out.2.2.1] at he
                obtain rfl := X.none he
                obtain ⟨n4, hn4⟩ : ∃ x, cn.dir.length = x := ⟨_, rfl⟩
                rw [hn4] at hr ⊢
                obtain ⟨w5, hw5⟩ : ∃ u, w4.alloc (.cells #[.int .u32 cn.nu, .int .u32 cn.se, .int .u32 cn.sq, .int .i64 cn.z, .int .i64 cn.p, .int .i64 cn.b, .slice A4 n4 c4] 40) = u := ⟨_, rfl⟩
                have hbx := BoxC.told hr hw5 hb.size
                have hbb := wbelow hb hbx.2
                have HN5 := Lib.hid hbx.1
                have HL5 := Lib.hid (HL3.out.up hbb)
                have HC5 := Lib.hid (HC3.out.up hbb)
                have HE5 := Lib.hid (X.up HE3.out hbb)
                have HB5 := Lib.hid (wbelow HB3.out hbb)
                have HCN : Hid (cn.dir.length ≤ 100) := Lib.hid (by
                  rcases HDN.out.2.2.2 with e | e
                  · rw [e]; exact HLD.out
                  · rw [e]; exact HCD.out)
                have HE7 := Lib.hid HDN.out.1
                have HDE := Lib.hid HDN.out.2.2.2
                clear hr he hb hbx hbb hcn HDN
                go_wp2_with fail
                clear hw5 hn4
                obtain rfl := HE7.out
                refine (X.code HE5.out (HG.out.below HB5.out)).mono ?_
                rintro r w6 ⟨rfl, hb⟩
                have HN6 := Lib.hid (HN5.out.up hb)
                have HL6 := Lib.hid (HL5.out.up hb)
                have HC6 := Lib.hid (HC5.out.up hb)
                have HB6 := Lib.hid (wbelow HB5.out hb)
                obtain ⟨a0, a1, a2, a3, a4, a5, a6⟩ := HN6.out.cells
                obtain ⟨l0, l1, l2, l3, l4, l5, l6⟩ := HL6.out.cells
                have hsvf := HL6.out.2.1.numR
                obtain ⟨As, cs, rfl, _, _⟩ := hsvf
                clear hb HN5 HL5 HC5 HB5
                go_wp2_with fail
                clear a0 a1 a2 a3 a4 a5 a6 l0 l1 l2 l3 l4 l5 l6
                refine (csame_at cn last HN6.out.2.1 HL6.out.2.1 (Nat.le_trans HCN.out (by decide)) (Nat.le_trans HLD.out (by decide))).mono ?_
                rintro r w7 ⟨rfl, hb⟩
                have HN7 := Lib.hid (HN6.out.up hb)
                have HC7 := Lib.hid (HC6.out.up hb)
                have HB7 := Lib.hid (wbelow HB6.out hb)
                clear hb HN6 HL6 HC6 HB6
                cases hsm : sameS cn last with
                | true =>
                  clear hsm
                  go_wp2_with fail
                  go_ret
                  exact ⟨rfl, HB7.out⟩
                | false =>
                  obtain ⟨a0, a1, a2, a3, a4, a5, a6⟩ := HN7.out.cells
                  obtain ⟨l0, l1, l2, l3, l4, l5, l6⟩ := HC7.out.cells
                  have HSM := Lib.hid hsm
                  clear hsm
                  go_wp2_with fail
                  clear a0 a1 a2 a3 a4 a5 a6 l0 l1 l2 l3 l4 l5 l6
                  refine (csame_at cn ch HN7.out.2.1 HC7.out.2.1 (Nat.le_trans HCN.out (by decide)) (Nat.le_trans HCD.out (by decide))).mono ?_
                  have HTT : Hid (sameS cn ch = true) := Lib.hid (by
                    rcases HDE.out with e | e
                    · have := HSM.out
                      rw [e, sameS_self] at this
                      cases this
                    · rw [e, sameS_self])
                  rw [HTT.out]
                  rintro r w8 ⟨rfl, hb⟩
                  have HB8 := Lib.hid (wbelow HB7.out hb)
                  clear hb
                  go_wp2_with fail
                  go_ret
                  exact ⟨rfl, HB8.out⟩
          · have q : ((nd : Int) != tb) = true := by simpa using hnt
            clear hnt HTE
            refine wp_region_in (fun u => Below w7.heap.size w7 u) (Below.refl _ _).drew (by kernel_rfl) (by kernel_rfl) (fun ne => ?_)
            have y6 := fun m : In (fun u => Below w7.heap.size w7 u) => (H7.out.2.1.up m.ok).cells.2.2.2.2.2.2
            have y2 := fun m : In (fun u => Below w7.heap.size w7 u) => (H7.out.1.up m.ok).cells.2.2
            repeat (go_big_quiet_step (first | (go_at_call 29; (with_reducible exact In.same (HTB.out _)))))
            refine wpQuiet_nil ?_
            intro nq
            have HE : Hid (Below w0.heap.size w0 nq.w) := Lib.hid (wbelow H7.out.1.old nq.ok)
            clear y6 y2
            go_wp2_with fail
            go_ret
            exact ⟨rfl, HE.out⟩
        · obtain rfl : i = n := by omega
          go_wp2_with fail
          refine (Z.crash _ _ keep tear HW.out.d ((HK.out.keep (Kept.of_below (F := fun _ => False) HW.out.old) (fun _ _ => id)).mono (fun k e => (HW.out.o k (.inl e)).2)) ((HT.out.keep (Kept.of_below (F := fun _ => False) HW.out.old) (fun _ _ => id)).mono (fun k e => (HW.out.o k (.inl e)).2)) (by rw [HMK.out]; have := HK1.out; omega) (by rw [HMT.out]; have := HT1.out; omega) HWD.out).mono ?_
          rintro r w3 ⟨rfl, hd, hk⟩
          have HL3 := Lib.hid (HW.out.l.keep hk (fun k e => HW.out.o k (e.imp id .inr)))
          have HO3 : Hid (Out (grow F wr w3) w3 (fun k => k < w0.heap.size ∨ k = lb)) := Lib.hid (Out.done (fun k e => HW.out.o k (e.imp id .inr)) hk.size (fun k e => e))
          have HB3 := Lib.hid (HW.out.old.trans (hk.below HW.out.old.size HW.out.lo))
          have HD3 := Lib.hid hd
          have HALL := Lib.hid (HW.out.t.all (by have := HR2.out; omega) keep tear)
          clear hd hk
          go_wp2_with fail
          refine (O.newest HD3.out).mono ?_
          rintro r w4 ⟨s4, v4, rfl, hr, he, hb⟩
          obtain ⟨A4, c4, rfl, _, _⟩ := hr.numR
          obtain ⟨cn, hcn⟩ : ∃ x, (S.crash keep tear).newC = x := ⟨_, rfl⟩
          obtain ⟨en, hen⟩ : ∃ x, (S.crash keep tear).newE = x := ⟨_, rfl⟩
          rw [hcn] at hr HALL ⊢
          rw [hen] at he HALL
          obtain ⟨n4, hn4⟩ : ∃ x, cn.dir.length = x := ⟨_, rfl⟩
          rw [hn4] at hr ⊢
          obtain ⟨w5, hw5⟩ : ∃ u, w4.alloc (.cells #[.int .u32 cn.nu, .int .u32 cn.se, .int .u32 cn.sq, .int .i64 cn.z, .int .i64 cn.p, .int .i64 cn.b, .slice A4 n4 c4] 40) = u := ⟨_, rfl⟩
          have hbx := BoxC.told hr hw5 hb.size
          have HN5 := Lib.hid hbx.1
          have HL5 := Lib.hid (HL3.out.up (wbelow hb hbx.2))
          have HB5 := Lib.hid (wbelow HB3.out (wbelow hb hbx.2))
          obtain ⟨a0, a1, a2, a3, a4, a5, a6⟩ := HN5.out.cells
          obtain ⟨l0, l1, l2, l3, l4, l5, l6⟩ := HL5.out.cells
          by_cases h0 : 0 < i
          · obtain ⟨f1, f2⟩ := HALL.out.2 h0
            subst f1
            subst f2
            obtain rfl := X.none he
            have d0 : decide (0 < i) = true := by simpa using h0
            rw [d0]
            clear hr he hb hbx d0 h0 hcn hen
            go_wp2_with fail
            clear hw5
            refine (csame_at cn cn HN5.out.2.1 HL5.out.2.1 (Nat.le_trans HLD.out (by decide)) (Nat.le_trans HLD.out (by decide))).mono ?_
            rw [sameS_self]
            rintro r w6 ⟨rfl, hb⟩
            have HB6 := Lib.hid (wbelow HB5.out hb)
            clear hb a0 a1 a2 a3 a4 a5 a6 l0 l1 l2 l3 l4 l5 l6
            go_wp2_with fail
            go_ret
            exact ⟨rfl, HB6.out⟩
          · have f1 := HALL.out.1 (by omega)
            subst f1
            obtain ⟨T4, x4, rfl⟩ := X.some he (by decide)
            have HE5 := Lib.hid (X.up he hbx.2)
            have d0 : decide (0 < i) = false := by simp; omega
            rw [d0]
            clear hr he hb hbx d0 h0 hcn hen a0 a1 a2 a3 a4 a5 a6 l0 l1 l2 l3 l4 l5 l6
            go_wp2_with fail
            clear hw5
            refine (X.code HE5.out (HG.out.below HB5.out)).mono ?_
            rintro r w6 ⟨rfl, hb⟩
            have HB6 := Lib.hid (wbelow HB5.out hb)
            clear hb
            go_wp2_with fail
            go_ret
            exact ⟨rfl, HB6.out⟩
end Go.Proofs.YthmpimjmajoimaaGreatDoor
