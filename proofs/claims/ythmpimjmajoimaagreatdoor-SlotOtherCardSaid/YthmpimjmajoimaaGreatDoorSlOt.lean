/-
  Slots apart: the law's walk.
-/
-- NAMES
import Derived.Test.YthmpimjmajoimaaGreatDoorSm33
import Derived.Test.YthmpimjmajoimaaGreatDoorGeoB
namespace Go.Proofs.YthmpimjmajoimaaGreatDoor
open Go.RowKit

/-- The two checkpoints that were written last, one behind the other. -/
def twoC (c d : ChkS) (u v : Value) : List Value := [.int .u32 c.nu, .int .u32 c.se, .int .u32 c.sq, .int .i64 c.z, .int .i64 c.p, .int .i64 c.b, u, .int .u32 d.nu, .int .u32 d.se, .int .u32 d.sq, .int .i64 d.z, .int .i64 d.p, .int .i64 d.b, v]
/-- What was written last of either kind. -/
def lastC (s0 s1 : Bool) (c0 c1 : ChkS) : Nat → Option ChkS := fun k => if k = 0 then (if s0 = true then some c0 else none) else (if s1 = true then some c1 else none)
theorem Apart.congr {S : DevS} {n P : Nat} {c d : Nat → Option ChkS} (h : Apart S n P c) (e : ∀ k, k < 2 → c k = d k) : Apart S n P d :=
  ⟨h.len, h.p, h.g, h.left, fun k hk hn => h.none_ k hk (by rw [e k hk]; exact hn), fun k x hk hs => h.some_ k x hk (by rw [e k hk]; exact hs), h.log⟩
theorem two_at0 (a b : Bool) (w : World) : (Instr.index 74 (.agg #[.bool a, .bool b]) (.int .i64 0)).run Tryz.prog w = .ok (.bool a) w := by
  have hu : Tryz.prog.underlying 74 = some (.array 2 4) := Tryz.underlying74
  have hsz : (sizeOf 4).run Tryz.prog w = .ok 1 w := Tryz.sizeOf4 w
  simp [Instr.index, asIntOf, run_underlying hu, Go.part, hsz]
theorem two_at1 (a b : Bool) (w : World) : (Instr.index 74 (.agg #[.bool a, .bool b]) (.int .i64 1)).run Tryz.prog w = .ok (.bool b) w := by
  have hu : Tryz.prog.underlying 74 = some (.array 2 4) := Tryz.underlying74
  have hsz : (sizeOf 4).run Tryz.prog w = .ok 1 w := Tryz.sizeOf4 w
  simp [Instr.index, asIntOf, run_underlying hu, Go.part, hsz]
theorem Apart.no {S : DevS} {n P : Nat} {c : Nat → Option ChkS} (h : Apart S n P c) {j : Nat} (hj : j + 2 < n) : S.point (j : Int) = 0 := by
  unfold DevS.point
  split
  · rw [h.log j hj]
    rfl
  · rfl
theorem sameC_at {F G : Nat → Prop} {w : World} {v v2 : Value} (a : ChkS) (h : RowF F w v (u32s a.dir)) (h2 : RowF G w v2 (u32s a.dir)) (hn : a.dir.length ≤ 1000) : Calls Tryz.prog 31 #[ckV a v, ckV a v2] w (fun r w' => r = .returned (.bool true) ∧ Below w.heap.size w w') := by
  have := csame_at a a h h2 hn hn
  rw [sameS_self] at this
  exact this
/-- The device while checkpoints are written: the geometry's block gb, the last ones' block ab, which there are sb. -/
structure OthW (Z : ZBas) (w0 w : World) (F : Nat → Prop) (db gb ab sb : Nat) (S : DevS) (z p b : Int) (s0 s1 : Bool) (c0 c1 : ChkS) (v0 v1 : Value) : Prop where
  d : Z.D F w db S
  o : Out F w (fun k => k < w0.heap.size ∨ k = gb ∨ k = ab ∨ k = sb)
  g : Blk w gb 37 [.int .i64 z, .int .i64 p, .int .i64 b]
  a : Blk w ab 73 (twoC c0 c1 v0 v1)
  r0 : RowF (fun k => k < w0.heap.size) w v0 (u32s c0.dir)
  r1 : RowF (fun k => k < w0.heap.size) w v1 (u32s c1.dir)
  s : Blk w sb 74 [.bool s0, .bool s1]
  ne : gb ≠ ab ∧ gb ≠ sb ∧ ab ≠ sb
  lo : ∀ k, F k → w0.heap.size ≤ k
  lg : w0.heap.size ≤ gb ∧ w0.heap.size ≤ ab ∧ w0.heap.size ≤ sb
  old : Below w0.heap.size w0 w
  l : c0.dir.length ≤ 100 ∧ c1.dir.length ≤ 100
section
variable {Z : ZBas} {w0 w w' : World} {F F' : Nat → Prop} {db gb ab sb : Nat} {S S' : DevS} {z p b : Int} {s0 s1 t0 t1 : Bool} {c0 c1 d0 d1 : ChkS} {v0 v1 u0 u1 : Value}
theorem OthW.up (h : OthW Z w0 w F db gb ab sb S z p b s0 s1 c0 c1 v0 v1) (hb : Below w.heap.size w w') : OthW Z w0 w' F db gb ab sb S z p b s0 s1 c0 c1 v0 v1 :=
  ⟨Z.up h.d hb, h.o.up hb.size, h.g.up hb (lt_of_block h.g), h.a.up hb (lt_of_block h.a), h.r0.keep (Kept.of_below (F := fun _ => False) (hb.mono (Nat.le_refl _))) (fun _ _ => id), h.r1.keep (Kept.of_below (F := fun _ => False) (hb.mono (Nat.le_refl _))) (fun _ _ => id), h.s.up hb (lt_of_block h.s), h.ne, h.lo, h.lg, wbelow h.old hb, h.l⟩
/-- The device is another one. -/
theorem OthW.done (h : OthW Z w0 w F db gb ab sb S z p b s0 s1 c0 c1 v0 v1) (hd : Z.D F' w' db S') (hk : Kept F w w') (hf : ∀ k, F' k → grow F w w' k) : OthW Z w0 w' F' db gb ab sb S' z p b s0 s1 c0 c1 v0 v1 :=
  ⟨hd, h.o.done hk.size hf, hk.blk h.g (h.o gb (.inr (.inl rfl))).2, hk.blk h.a (h.o ab (.inr (.inr (.inl rfl)))).2, h.r0.keep hk (fun k e => (h.o k (.inl e)).2), h.r1.keep hk (fun k e => (h.o k (.inl e)).2), hk.blk h.s (h.o sb (.inr (.inr (.inr rfl)))).2, h.ne, fun k e => (hf k e).elim (h.lo k) (fun e => Nat.le_trans h.old.size e.1), h.lg, h.old.trans (hk.below h.old.size h.lo), h.l⟩
/-- Others are the last ones. -/
theorem OthW.put (h : OthW Z w0 w F db gb ab sb S z p b s0 s1 c0 c1 v0 v1) (hk : Kept (fun k => k = ab ∨ k = sb) w w') (ha : Blk w' ab 73 (twoC d0 d1 u0 u1)) (hs : Blk w' sb 74 [.bool t0, .bool t1]) (h0 : RowF (fun k => k < w0.heap.size) w u0 (u32s d0.dir)) (h1 : RowF (fun k => k < w0.heap.size) w u1 (u32s d1.dir)) (hl : d0.dir.length ≤ 100 ∧ d1.dir.length ≤ 100) : OthW Z w0 w' F db gb ab sb S z p b t0 t1 d0 d1 u0 u1 := by
  have hla := h.lg.2.1
  have hls := h.lg.2.2
  have hn : ∀ k, k < w0.heap.size → ¬ (k = ab ∨ k = sb) := fun k e1 e2 => by omega
  refine ⟨Z.keep h.d hk (fun k hf e => ?_), h.o.up hk.size, hk.blk h.g (fun e => ?_), ha, h0.keep hk hn, h1.keep hk hn, hs, h.ne, h.lo, h.lg, h.old.trans (hk.below h.old.size (fun k e => by omega)), hl⟩
  · rcases e with e | e
    · exact (h.o ab (.inr (.inr (.inl rfl)))).2 (e ▸ hf)
    · exact (h.o sb (.inr (.inr (.inr rfl)))).2 (e ▸ hf)
  · have := h.ne
    omega
theorem OthW.gc (h : OthW Z w0 w F db gb ab sb S z p b s0 s1 c0 c1 v0 v1) : w.cell? ⟨gb, 0, none⟩ = some (.int .i64 z) ∧ w.cell? ⟨gb, 1, none⟩ = some (.int .i64 p) ∧ w.cell? ⟨gb, 2, none⟩ = some (.int .i64 b) := ⟨h.g.cell 0 (by simp), h.g.cell 1 (by simp), h.g.cell 2 (by simp)⟩
theorem OthW.sc (h : OthW Z w0 w F db gb ab sb S z p b s0 s1 c0 c1 v0 v1) : w.cell? ⟨sb, 0, none⟩ = some (.bool s0) ∧ w.cell? ⟨sb, 1, none⟩ = some (.bool s1) := ⟨h.s.cell 0 (by simp), h.s.cell 1 (by simp)⟩
theorem OthW.a0 (h : OthW Z w0 w F db gb ab sb S z p b s0 s1 c0 c1 v0 v1) : w.cell? ⟨ab, 0, none⟩ = some (.int .u32 c0.nu) ∧ w.cell? ⟨ab, 1, none⟩ = some (.int .u32 c0.se) ∧ w.cell? ⟨ab, 2, none⟩ = some (.int .u32 c0.sq) ∧ w.cell? ⟨ab, 3, none⟩ = some (.int .i64 c0.z) ∧ w.cell? ⟨ab, 4, none⟩ = some (.int .i64 c0.p) ∧ w.cell? ⟨ab, 5, none⟩ = some (.int .i64 c0.b) ∧ w.cell? ⟨ab, 6, none⟩ = some v0 :=
  ⟨h.a.cell 0 (by simp [twoC]), h.a.cell 1 (by simp [twoC]), h.a.cell 2 (by simp [twoC]), h.a.cell 3 (by simp [twoC]), h.a.cell 4 (by simp [twoC]), h.a.cell 5 (by simp [twoC]), h.a.cell 6 (by simp [twoC])⟩
theorem OthW.a1 (h : OthW Z w0 w F db gb ab sb S z p b s0 s1 c0 c1 v0 v1) : w.cell? ⟨ab, 7, none⟩ = some (.int .u32 c1.nu) ∧ w.cell? ⟨ab, 8, none⟩ = some (.int .u32 c1.se) ∧ w.cell? ⟨ab, 9, none⟩ = some (.int .u32 c1.sq) ∧ w.cell? ⟨ab, 10, none⟩ = some (.int .i64 c1.z) ∧ w.cell? ⟨ab, 11, none⟩ = some (.int .i64 c1.p) ∧ w.cell? ⟨ab, 12, none⟩ = some (.int .i64 c1.b) ∧ w.cell? ⟨ab, 13, none⟩ = some v1 :=
  ⟨h.a.cell 7 (by simp [twoC]), h.a.cell 8 (by simp [twoC]), h.a.cell 9 (by simp [twoC]), h.a.cell 10 (by simp [twoC]), h.a.cell 11 (by simp [twoC]), h.a.cell 12 (by simp [twoC]), h.a.cell 13 (by simp [twoC])⟩
end
set_option maxHeartbeats 16000000 in
set_option maxRecDepth 100000 in
theorem sother_true {Z : ZBas} {X : EOps} (O : SlOps Z X) {w0 : World} (hg : Gl w0) (z p b : Int) {A : Option Addr} {n c : Nat} {l : List ChkS} (hl : l.length = n) (hA : ChksF (fun k => k < w0.heap.size) w0 A l) (hok : ∀ c ∈ l, ChkOk c) :
    Calls Tryz.prog 6 #[.agg #[.int .i64 z, .int .i64 p, .int .i64 b], .slice A n c] w0 (BoolB true w0) := by
  obtain ⟨wa, hwa⟩ : ∃ u, w0.alloc (.cells #[.int .i64 z, .int .i64 p, .int .i64 b] 37) = u := ⟨_, rfl⟩
  have hba : Below w0.heap.size w0 wa := by rw [← hwa]; exact (Below.refl _ _).alloc (Nat.le_refl _) _
  have hgb : Blk wa w0.heap.size 37 [.int .i64 z, .int .i64 p, .int .i64 b] := by rw [← hwa]; exact heap_alloc_new w0 _
  have HAW := Lib.hid (sawake_true O (hg.below hba))
  have HG := Lib.hid hg
  have HBA := Lib.hid hba
  have HGB := Lib.hid hgb
  have HL := Lib.hid hl
  have HA := Lib.hid hA
  have HOK := Lib.hid hok
  obtain ⟨gb, hgbe⟩ : ∃ x, w0.heap.size = x := ⟨_, rfl⟩
  have HGE := Lib.hid hgbe
  rw [hgbe] at HGB
  clear hg hba hgb hl hA hok
  go_enter Tryz.func6, Tryz.ntmps6
  go_wp2_with fail
  clear hwa hgbe
  refine HAW.out.mono ?_
  rintro r w1 ⟨rfl, hb⟩
  have HB1 := Lib.hid (wbelow HBA.out hb)
  have HG1 := Lib.hid (HGB.out.up hb (lt_of_block HGB.out))
  have y0 := HG1.out.cell 0 (by simp)
  have y1 := HG1.out.cell 1 (by simp)
  have y2 := HG1.out.cell 2 (by simp)
  simp only [List.getElem_cons_zero, List.getElem_cons_succ] at y0 y1 y2
  clear hb HAW HBA HGB
  go_wp2_with fail
  refine (rright_is z p b w1).mono ?_
  rintro r w2 ⟨rfl, hb⟩
  have HB2 := Lib.hid (wbelow HB1.out hb)
  have HG2 := Lib.hid (HG1.out.up hb (lt_of_block HG1.out))
  clear y0 y1 y2 hb HB1 HG1
  cases hrb : rightB z p b with
  | false =>
    go_wp2_with fail
    go_ret
    exact ⟨rfl, HB2.out⟩
  | true =>
    have HR := Lib.hid hrb
    clear hrb
    go_wp2_with fail
    refine (slarge_is (c := c) HL.out (HA.out.keep (Kept.of_below (F := fun _ => False) HB2.out) (fun _ _ => id))).mono ?_
    rintro r w3 ⟨rfl, hb⟩
    have HB3 := Lib.hid (wbelow HB2.out hb)
    have HG3 := Lib.hid (HG2.out.up hb (lt_of_block HG2.out))
    clear hb HB2 HG2
    cases hlb : largeC l with
    | true =>
      go_wp2_with fail
      go_ret
      exact ⟨rfl, HB3.out⟩
    | false =>
      have HLG := Lib.hid (largeC_bd hlb)
      clear hlb
      have y0 := HG3.out.cell 0 (by simp)
      have y1 := HG3.out.cell 1 (by simp)
      simp only [List.getElem_cons_zero, List.getElem_cons_succ] at y0 y1
      go_wp2_with fail
      refine (Z.new z p).mono ?_
      have hrr := rightB_bd HR.out
      rw [show newD z p = some (DevS.new z.toNat p.toNat) from by unfold newD; rw [if_pos (by omega)]]
      rintro r w4 ⟨db, rfl, hd, hb⟩
      obtain ⟨w5, hw5⟩ : ∃ u, w4.alloc (.cells #[.int .u32 0, .int .u32 0, .int .u32 0, .int .i64 0, .int .i64 0, .int .i64 0, .slice none 0 0, .int .u32 0, .int .u32 0, .int .u32 0, .int .i64 0, .int .i64 0, .int .i64 0, .slice none 0 0] 73) = u := ⟨_, rfl⟩
      obtain ⟨w6, hw6⟩ : ∃ u, w5.alloc (.cells #[.bool false, .bool false] 74) = u := ⟨_, rfl⟩
      have H5 : Hid (OthW Z w0 w6 (newB w3 w4) db gb w4.heap.size w5.heap.size (DevS.new z.toNat p.toNat) z p b false false ChkS.zero ChkS.zero (.slice none 0 0) (.slice none 0 0)) := Lib.hid (by
        have hb5 : Below w4.heap.size w4 w5 := by rw [← hw5]; exact (Below.refl _ _).alloc (Nat.le_refl _) _
        have hb6 : Below w5.heap.size w5 w6 := by rw [← hw6]; exact (Below.refl _ _).alloc (Nat.le_refl _) _
        have z5 : w5.heap.size = w4.heap.size + 1 := by rw [← hw5]; simp
        have z6 : w6.heap.size = w5.heap.size + 1 := by rw [← hw6]; simp
        have ha : Blk w5 w4.heap.size 73 (twoC ChkS.zero ChkS.zero (.slice none 0 0) (.slice none 0 0)) := by rw [← hw5]; exact heap_alloc_new w4 _
        have e3 := lt_of_block HG3.out
        have e4 := hb.size
        have e0 := HB3.out.size
        have eg := HGE.out
        refine ⟨Z.up hd (wbelow hb5 hb6), fun k hk => ⟨by omega, fun e => by have := e.1; have := e.2; omega⟩, HG3.out.up (wbelow hb (wbelow hb5 hb6)) e3, ha.up hb6 (by omega), RowF.nil _ _, RowF.nil _ _, by rw [← hw6]; exact heap_alloc_new w5 _, by omega, fun k e => by have := e.1; omega, ⟨by omega, by omega, by omega⟩, wbelow HB3.out (wbelow hb (wbelow hb5 hb6)), by decide⟩)
      have zs5 : w5.heap.size = w4.heap.size + 1 := by rw [← hw5]; simp
      obtain ⟨ab, hab⟩ : ∃ x, w4.heap.size = x := ⟨_, rfl⟩
      obtain ⟨sb, hsb⟩ : ∃ x, w5.heap.size = x := ⟨_, rfl⟩
      have ra : w4.heap.size + 1 = sb := by omega
      rw [hab, hsb] at H5
      rw [hab] at ra
      clear hd hb hrr y0 y1 HB3 HG3 zs5
      go_wp2_with fail
      clear hw5 hw6 hab hsb ra
      go_loopg [38] n (fun q x wr => ∃ i : Nat, i ≤ n ∧ q = n - i ∧ x = .int .i64 (i : Int) ∧ ∃ F S s0 s1 c0 c1 v0 v1, OthW Z w0 wr F db gb ab sb S z p b s0 s1 c0 c1 v0 v1 ∧ Apart S z.toNat p.toNat (lastC s0 s1 c0 c1) ∧ S.done ≤ i * 20)
      case atStart => exact ⟨0, by omega, by omega, rfl, _, _, _, _, _, _, _, _, H5.out, Apart.new.congr (fun k _ => by simp [lastC]), by simp [DevS.new]⟩
      case round =>
        clear H5
        obtain ⟨i, hi, hq, rfl, F, S, s0, s1, g0, g1, v0, v1, ht, hap, hdn⟩ := hrel
        have HQ := Lib.hid hq
        have HW := Lib.hid ht
        have HAP := Lib.hid hap
        have HDN := Lib.hid hdn
        have HR2 := Lib.hid (rightB_bd HR.out)
        clear hq ht hap hdn
        by_cases hlt : i < n
        · have hll : i < l.length := by rw [HL.out]; exact hlt
          obtain ⟨bb, o, rfl, hbl, _, hx⟩ := HA.out (by omega)
          obtain ⟨v, hv, h0, h1, h2, h3, h4, h5, h6⟩ := hx i hll
          have HV := Lib.hid (hv.keep (Kept.of_below (F := fun _ => False) HW.out.old) (fun _ _ => id))
          have HV0 := Lib.hid hv
          obtain ⟨Av, cv, rfl, _, _⟩ := hv.numR
          have ho := HW.out.old
          have k0 := (ho.cell (p := ⟨bb, o + i * 7, none⟩) hbl).trans h0
          have k1 := (ho.cell (p := ⟨bb, o + i * 7 + 1, none⟩) hbl).trans h1
          have k2 := (ho.cell (p := ⟨bb, o + i * 7 + 2, none⟩) hbl).trans h2
          have k3 := (ho.cell (p := ⟨bb, o + i * 7 + 3, none⟩) hbl).trans h3
          have k4 := (ho.cell (p := ⟨bb, o + i * 7 + 4, none⟩) hbl).trans h4
          have k5 := (ho.cell (p := ⟨bb, o + i * 7 + 5, none⟩) hbl).trans h5
          have k6 := (ho.cell (p := ⟨bb, o + i * 7 + 6, none⟩) hbl).trans h6
          have HCK := Lib.hid (HOK.out _ (List.getElem_mem hll))
          have HDL := Lib.hid (HLG.out.2 _ (List.getElem_mem hll))
          obtain ⟨c0, hc0⟩ : ∃ x, l[i] = x := ⟨_, rfl⟩
          rw [hc0] at k0 k1 k2 k3 k4 k5 k6 HV HV0 HCK HDL
          obtain ⟨nd, hnd⟩ : ∃ x, c0.dir.length = x := ⟨_, rfl⟩
          have HND := Lib.hid hnd
          rw [hnd] at k6 HV HV0 HDL
          obtain ⟨w6, hw6⟩ : ∃ u, wr.alloc (.cells #[.int .u32 c0.nu, .int .u32 c0.se, .int .u32 c0.sq, .int .i64 c0.z, .int .i64 c0.p, .int .i64 c0.b, .slice Av nd cv] 40) = u := ⟨_, rfl⟩
          have hb6 : Below wr.heap.size wr w6 := by rw [← hw6]; exact (Below.refl _ _).alloc (Nat.le_refl _) _
          have hx6 : Blk w6 wr.heap.size 40 [.int .u32 c0.nu, .int .u32 c0.se, .int .u32 c0.sq, .int .i64 c0.z, .int .i64 c0.p, .int .i64 c0.b, .slice Av nd cv] := by rw [← hw6]; exact heap_alloc_new wr _
          obtain ⟨y0, y1, y2⟩ := (HW.out.up hb6).gc
          have x3 := hx6.cell 3 (by simp)
          have x4 := hx6.cell 4 (by simp)
          have x5 := hx6.cell 5 (by simp)
          simp only [List.getElem_cons_zero, List.getElem_cons_succ] at x3 x4 x5
          have xf := fun k => hx6.free k
          obtain ⟨cb, hcb⟩ : ∃ x, wr.heap.size = x := ⟨_, rfl⟩
          rw [hcb] at x3 x4 x5 xf
          obtain ⟨nn, hnn⟩ : ∃ x, c0.nu = x := ⟨_, rfl⟩
          have HNN := Lib.hid hnn
          obtain ⟨w7, hw7⟩ : ∃ u, (((w6.setCell ⟨cb, 3, none⟩ (.int .i64 z)).setCell ⟨cb, 4, none⟩ (.int .i64 p)).setCell ⟨cb, 5, none⟩ (.int .i64 b)) = u := ⟨_, rfl⟩
          obtain ⟨ch, hch⟩ : ∃ x : ChkS, (⟨c0.nu, c0.se, c0.sq, z, p, b, c0.dir⟩ : ChkS) = x := ⟨_, rfl⟩
          have HCH := Lib.hid hch
          have H7 : Hid (OthW Z w0 w7 F db gb ab sb S z p b s0 s1 g0 g1 v0 v1 ∧ BoxC (fun k => k < w0.heap.size ∨ k = cb) w7 cb ch (.slice Av nd cv) ∧ Out F w7 (fun k => k < w0.heap.size ∨ k = cb) ∧ w0.heap.size ≤ cb) := Lib.hid (by
            rw [hcb] at hx6
            have b7 := ((hx6.put 3 (.int .i64 z)).put 4 (.int .i64 p)).put 5 (.int .i64 b)
            rw [hw7] at b7
            have k7 : Kept (fun k => k = cb) wr w7 := by
              have h1 : Kept (fun k => k = cb) wr w6 := Kept.of_below hb6
              have h2 := ((h1.put (g := cb) (.inl rfl) 3 (.int .i64 z)).put (g := cb) (.inl rfl) 4 (.int .i64 p)).put (g := cb) (.inl rfl) 5 (.int .i64 b)
              rw [hw7] at h2
              exact h2
            have hb7 : Below wr.heap.size wr w7 := k7.below (Nat.le_refl _) (fun k e => by omega)
            have hc7 := lt_of_block b7
            have h0 := HW.out.old.size
            refine ⟨HW.out.up hb7, ⟨?_, by rw [← hch]; exact (HV.out.up hb7).mono (fun k e => Or.inl e), .inr rfl⟩, fun k hk => ?_, by omega⟩
            · rw [← hch]
              exact b7
            · rcases hk with hk | hk
              · exact (HW.out.o.up hb7.size) k (.inl hk)
              · exact ⟨by omega, fun e => by have := Z.lt HW.out.d k e; omega⟩)
          clear hb6 hx6 hch HV hnn hx hv h0 h1 h2 h3 h4 h5 h6 ho hc0 hnd
          go_wp2_with fail
          clear hw6 hw7 hcb x3 x4 x5 xf k0 k1 k2 k3 k4 k5 k6 y0 y1 y2
          have HTB : Hid (∀ m : In (fun u => Below w7.heap.size w7 u), Calls Tryz.prog 29 #[.int .i64 b] m.w (fun e w' => e = .returned (.int .i64 (tab b)) ∧ m.w = w')) := Lib.hid (fun m => tables_is b m.w (by have := HR2.out; omega))
          obtain ⟨tb, htb⟩ : ∃ x, tab b = x := ⟨_, rfl⟩
          have HTBE := Lib.hid htb
          rw [htb] at HTB
          clear htb
          have HTE : Hid ((nd : Int) = tb → (fun x : Bool => x = false) ((nd : Int) != tb)) := Lib.hid (fun h => by show ((nd : Int) != tb) = false; rw [h]; simp)
          by_cases hnt : (nd : Int) = tb
          · have q : ((nd : Int) != tb) = false := HTE.out hnt
            have HNT := Lib.hid hnt
            clear hnt HTE
            refine wp_region_in (fun u => Below w7.heap.size w7 u) (Below.refl _ _).drew (by kernel_rfl) (by kernel_rfl) (fun ne => ?_)
            have y6 := fun m : In (fun u => Below w7.heap.size w7 u) => (H7.out.2.1.up m.ok).cells.2.2.2.2.2.2
            have y2 := fun m : In (fun u => Below w7.heap.size w7 u) => (H7.out.1.up m.ok).gc.2.2
            repeat (go_big_quiet_step (first | (go_at_call 29; (with_reducible exact In.same (HTB.out _)))))
            refine wpQuiet_nil ?_
            intro nq
            have H8 := Lib.hid (And.intro (H7.out.1.up nq.ok) (And.intro (H7.out.2.1.up nq.ok) (And.intro (H7.out.2.2.1.up nq.ok.size) H7.out.2.2.2)))
            obtain ⟨w8, hw8⟩ : ∃ u, nq.w = u := ⟨_, rfl⟩
            rw [hw8] at H8 ⊢
            clear hw8 y6 y2 q HTB H7
            have HFIT : Hid (Fit z.toNat p.toNat ch) := Lib.hid (by
              have hr2 := HR2.out
              have hck := HCK.out
              rw [← HCH.out]
              refine ⟨?_, ?_, by show z = _; omega, by show p = _; omega⟩
              · show rightC z p b c0.dir.length = true
                unfold rightC
                rw [HR.out, HND.out, HNT.out, HTBE.out]
                simp
              · have hw := hck.1
                intro x hx
                simp only [List.mem_cons] at hx
                rcases hx with rfl | hx
                · exact hw _ (by simp)
                · exact hw x (by simp only [List.mem_cons]; exact .inr hx))
            have HCD : Hid (ch.dir.length ≤ 100) := Lib.hid (by rw [← HCH.out]; show c0.dir.length ≤ 100; rw [HND.out]; exact HDL.out)
            have HCW : Hid (Wide ch.z ∧ Wide ch.p ∧ Wide ch.b) := Lib.hid (by
              rw [← HCH.out]
              have := HR2.out
              exact ⟨⟨by show (-9223372036854775808 : Int) ≤ z; omega, by show z ≤ 9223372036854775807; omega⟩, ⟨by show (-9223372036854775808 : Int) ≤ p; omega, by show p ≤ 9223372036854775807; omega⟩, ⟨by show (-9223372036854775808 : Int) ≤ b; omega, by show b ≤ 9223372036854775807; omega⟩⟩)
            have HWR := Lib.hid (HAP.out.write (by have := HR2.out; omega) HFIT.out)
            obtain ⟨k0, k1, k2, k3, k4, k5, k6⟩ := H8.out.2.1.cells
            go_wp2_with fail
            refine (O.write ch _ H8.out.1.d (Nat.le_trans HDN.out (by have h1 := HLG.out.1; have h2 := HL.out; omega)) HFIT.out.w HCW.out.1 HCW.out.2.1 HCW.out.2.2 HCD.out (H8.out.2.1.2.1.mono (fun k hk => (H8.out.2.2.1 k hk).2))).mono ?_
            rw [HWR.out.1]
            rintro r wb ⟨vb, Fb, Gb, rfl, he, hd, hk, hff, _⟩
            obtain rfl := X.none he
            obtain ⟨Sb, hSb⟩ : ∃ x, (S.wr ch).1 = x := ⟨_, rfl⟩
            have HDB : Hid (Sb.done ≤ (i + 1) * 20) := Lib.hid (by have h1 := DevS.wr_done S ch; rw [hSb] at h1; have h2 := HDN.out; omega)
            rw [hSb] at hd HWR
            have HB := Lib.hid (And.intro (H8.out.1.done hd hk hff) (And.intro (H8.out.2.1.keep hk H8.out.2.2.1) (H8.out.2.2.1.done hk.size hff)))
            clear k0 k1 k2 k3 k4 k5 k6 hSb he hd hk hff H8
            obtain ⟨k0, k1, k2, k3, k4, k5, k6⟩ := HB.out.2.1.cells
            obtain ⟨a0, a1, a2, a3, a4, a5, a6⟩ := HB.out.1.a0
            obtain ⟨a7, a8, a9, a10, a11, a12, a13⟩ := HB.out.1.a1
            have hfa := fun k => HB.out.1.a.free k
            have HNU : Hid (0 ≤ ch.nu ∧ ch.nu ≤ 4294967295) := Lib.hid (by have h := HFIT.out.w ch.nu (by simp); unfold Word4 at h; omega)
            rcases (show ch.nu % 2 = 0 ∨ ch.nu % 2 = 1 by omega) with hp | hp
            · have hm : ch.nu.tmod 2 = 0 := by rw [Int.tmod_eq_emod_of_nonneg HNU.out.1]; exact hp
              have HP := Lib.hid hp
              obtain ⟨wd, hwd⟩ : ∃ u, (((((((wb.setCell ⟨ab, 0, none⟩ (.int .u32 ch.nu)).setCell ⟨ab, 1, none⟩ (.int .u32 ch.se)).setCell ⟨ab, 2, none⟩ (.int .u32 ch.sq)).setCell ⟨ab, 3, none⟩ (.int .i64 ch.z)).setCell ⟨ab, 4, none⟩ (.int .i64 ch.p)).setCell ⟨ab, 5, none⟩ (.int .i64 ch.b)).setCell ⟨ab, 6, none⟩ (.slice Av nd cv)) = u := ⟨_, rfl⟩
              obtain ⟨wc, hwc⟩ : ∃ u, wd.setCell ⟨sb, 0, none⟩ (.bool true) = u := ⟨_, rfl⟩
              have HRW : Hid (RowF (fun k => k < w0.heap.size) wb (.slice Av nd cv) (u32s ch.dir)) := Lib.hid (by
                rw [← HCH.out]
                exact HV0.out.keep (Kept.of_below (F := fun _ => False) (HB.out.1.old.mono (Nat.le_refl _))) (fun _ _ => id))
              have HPD : Hid (Kept (fun k => k = ab) wb wd ∧ Blk wd ab 73 (twoC ch g1 (.slice Av nd cv) v1) ∧ Blk wd sb 74 [.bool s0, .bool s1]) := Lib.hid (by
                have hk := ((((((((Kept.refl (fun k => k = ab) wb).put (g := ab) (.inl rfl) 0 (.int .u32 ch.nu)).put (g := ab) (.inl rfl) 1 (.int .u32 ch.se)).put (g := ab) (.inl rfl) 2 (.int .u32 ch.sq)).put (g := ab) (.inl rfl) 3 (.int .i64 ch.z)).put (g := ab) (.inl rfl) 4 (.int .i64 ch.p)).put (g := ab) (.inl rfl) 5 (.int .i64 ch.b)).put (g := ab) (.inl rfl) 6 (.slice Av nd cv))
                rw [hwd] at hk
                have hb := (((((((HB.out.1.a.put 0 (.int .u32 ch.nu)).put 1 (.int .u32 ch.se)).put 2 (.int .u32 ch.sq)).put 3 (.int .i64 ch.z)).put 4 (.int .i64 ch.p)).put 5 (.int .i64 ch.b)).put 6 (.slice Av nd cv))
                rw [hwd] at hb
                exact ⟨hk, hb, hk.blk HB.out.1.s (fun e => HB.out.1.ne.2.2 e.symm)⟩)
              have H9 : Hid (OthW Z w0 wc Fb db gb ab sb Sb z p b true s1 ch g1 (.slice Av nd cv) v1) := Lib.hid (by
                have hk1 : Kept (fun k => k = sb) wd wc := by
                  have h := (Kept.refl (fun k => k = sb) wd).put (g := sb) (.inl rfl) 0 (.bool true)
                  rw [hwc] at h
                  exact h
                have hs := HPD.out.2.2.put 0 (.bool true)
                rw [hwc] at hs
                have hk : Kept (fun k => k = ab ∨ k = sb) wb wc := (HPD.out.1.mono (fun k _ e => .inl e)).trans (hk1.mono (fun k _ e => .inl (.inr e)))
                exact HB.out.1.put hk (hk1.blk HPD.out.2.1 HB.out.1.ne.2.2) hs HRW.out HB.out.1.r1 ⟨HCD.out, HB.out.1.l.2⟩)
              have HA9 : Hid (Apart Sb z.toNat p.toNat (lastC true s1 ch g1)) := Lib.hid (HWR.out.2.congr (by
                  intro j hj
                  rcases (show j = 0 ∨ j = 1 by omega) with rfl | rfl
                  · simp [lastC, HP.out]
                  · simp [lastC, HP.out]))
              have b0 := HPD.out.2.2.cell 0 (by simp)
              have b1 := HPD.out.2.2.cell 1 (by simp)
              simp only [List.getElem_cons_zero, List.getElem_cons_succ] at b0 b1
              have hfs := fun k => HPD.out.2.2.free k
              obtain ⟨e0, e1⟩ := H9.out.sc
              clear hp HWR HRW a7 a8 a9 a10 a11 a12 a13
              go_wp2_with fail
              clear hwd hwc hm b0 b1 e0 e1 hfs hfa k0 k1 k2 k3 k4 k5 k6 a0 a1 a2 a3 a4 a5 a6
              go_loopg [64] 2 (fun q x wx => ∃ j : Nat, j ≤ 2 ∧ q = 2 - j ∧ x = .int .i64 (j : Int) ∧ Below wc.heap.size wc wx)
              case atStart => exact ⟨0, by omega, rfl, rfl, Below.refl _ _⟩
              case round =>
                obtain ⟨j, hj, hq2, rfl, hb⟩ := hrel
                have HQ2 := Lib.hid hq2
                have HBX := Lib.hid hb
                have HX := Lib.hid (H9.out.up hb)
                have hw0 : IntKind.i64.wrap (z - 2) = z - 2 := IntWalk.i64_in _ (by have := HR2.out; omega)
                have hw1 : IntKind.i64.wrap (z - 2 + 1) = z - 2 + 1 := IntWalk.i64_in _ (by have := HR2.out; omega)
                clear hb hq2
                by_cases hj2 : j < 2
                · rcases (show j = 0 ∨ j = 1 by omega) with rfl | rfl
                  · have HRD : Hid ((true = false → Sb.slE (z - 2) ≠ 0) ∧ (true = true → Sb.slE (z - 2) = 0 ∧ Sb.slC (z - 2) = ch)) := Lib.hid (by
                      have h := HA9.out.read (k := 0) (by have := HR2.out; omega) (by decide)
                      rw [show ((z.toNat : Nat) : Int) - 2 + ((0 : Nat) : Int) = (z - 2) from by have := HR2.out; omega] at h
                      exact ⟨fun e => h.1 (by first | (cases e; done) | simp [lastC, e]), fun e => h.2 _ (by first | (simp [lastC]; done) | simp [lastC, e])⟩)
                    obtain ⟨y0, y1, y2⟩ := HX.out.gc
                    have hix := fun (a b : Bool) (w : World) => two_at0 a b w
                    try rw [show (((0 : Nat)) : Int) = 0 from rfl]
                    go_wp2_with fail
                    clear y0 y1 y2 hix
                    refine (O.read _ HX.out.d).mono ?_
                    rintro r wy ⟨sy, vy, rfl, hr, he, hbr⟩
                    rw [(HRD.out.2 (by trivial)).1] at he
                    rw [(HRD.out.2 (by trivial)).2] at hr ⊢
                    obtain rfl := X.none he
                    obtain ⟨Ay, cy, rfl, _, _⟩ := hr.numR
                    obtain ⟨nx, hnx⟩ : ∃ x, ch.dir.length = x := ⟨_, rfl⟩
                    rw [hnx] at hr ⊢
                    obtain ⟨wz, hwz⟩ : ∃ u, wy.alloc (.cells #[.int .u32 ch.nu, .int .u32 ch.se, .int .u32 ch.sq, .int .i64 ch.z, .int .i64 ch.p, .int .i64 ch.b, .slice Ay nx cy] 40) = u := ⟨_, rfl⟩
                    have hbx := BoxC.told hr hwz hbr.size
                    have HBZ := Lib.hid (wbelow HBX.out (wbelow hbr hbx.2))
                    have HNZ := Lib.hid hbx.1
                    have HXZ := Lib.hid (HX.out.up (wbelow hbr hbx.2))
                    clear hr he hbr hbx hnx
                    go_wp2_with fail
                    clear hwz
                    refine wp_region_in (fun u => Below wz.heap.size wz u) (Below.refl _ _).drew (by kernel_rfl) (by kernel_rfl) (fun ne => ?_)
                    have d0 := fun q : In (fun u => Below wz.heap.size wz u) => (HNZ.out.up q.ok).cells.1
                    have a0 := fun q : In (fun u => Below wz.heap.size wz u) => (HXZ.out.up q.ok).a0.1
                    have d1 := fun q : In (fun u => Below wz.heap.size wz u) => (HNZ.out.up q.ok).cells.2.1
                    have a1 := fun q : In (fun u => Below wz.heap.size wz u) => (HXZ.out.up q.ok).a0.2.1
                    have d2 := fun q : In (fun u => Below wz.heap.size wz u) => (HNZ.out.up q.ok).cells.2.2.1
                    have a2 := fun q : In (fun u => Below wz.heap.size wz u) => (HXZ.out.up q.ok).a0.2.2.1
                    have d3 := fun q : In (fun u => Below wz.heap.size wz u) => (HNZ.out.up q.ok).cells.2.2.2.1
                    have a3 := fun q : In (fun u => Below wz.heap.size wz u) => (HXZ.out.up q.ok).a0.2.2.2.1
                    have d4 := fun q : In (fun u => Below wz.heap.size wz u) => (HNZ.out.up q.ok).cells.2.2.2.2.1
                    have a4 := fun q : In (fun u => Below wz.heap.size wz u) => (HXZ.out.up q.ok).a0.2.2.2.2.1
                    have d5 := fun q : In (fun u => Below wz.heap.size wz u) => (HNZ.out.up q.ok).cells.2.2.2.2.2.1
                    have a5 := fun q : In (fun u => Below wz.heap.size wz u) => (HXZ.out.up q.ok).a0.2.2.2.2.2.1
                    have d6 := fun q : In (fun u => Below wz.heap.size wz u) => (HNZ.out.up q.ok).cells.2.2.2.2.2.2
                    have a6 := fun q : In (fun u => Below wz.heap.size wz u) => (HXZ.out.up q.ok).a0.2.2.2.2.2.2
                    have sD := fun q : In (fun u => Below wz.heap.size wz u) => sameC_at ch (HNZ.out.up q.ok).2.1 (HXZ.out.up q.ok).r0 (Nat.le_trans HX.out.l.1 (by decide))
                    repeat (go_big_quiet_step (first | (go_at_call 31; exact In.more (fun h1 h2 => wbelow h1 h2) (sD _))))
                    refine wpQuiet_nil ?_
                    intro nq
                    have HBZ2 := Lib.hid (wbelow HBZ.out nq.ok)
                    obtain ⟨wq, hwq⟩ : ∃ u, nq.w = u := ⟨_, rfl⟩
                    rw [hwq] at HBZ2 ⊢
                    clear hwq sD d0 d1 d2 d3 d4 d5 d6 a0 a1 a2 a3 a4 a5 a6
                    go_wp2_with fail
                    go_roundg (2 - (0 + 1))
                    case rel => exact ⟨0 + 1, by omega, rfl, rfl, HBZ2.out⟩
                    case measure => have := HQ2.out; omega
                  · have HRD : Hid ((s1 = false → Sb.slE (z - 2 + 1) ≠ 0) ∧ (s1 = true → Sb.slE (z - 2 + 1) = 0 ∧ Sb.slC (z - 2 + 1) = g1)) := Lib.hid (by
                      have h := HA9.out.read (k := 1) (by have := HR2.out; omega) (by decide)
                      rw [show ((z.toNat : Nat) : Int) - 2 + ((1 : Nat) : Int) = (z - 2 + 1) from by have := HR2.out; omega] at h
                      exact ⟨fun e => h.1 (by first | (cases e; done) | simp [lastC, e]), fun e => h.2 _ (by first | (simp [lastC]; done) | simp [lastC, e])⟩)
                    obtain ⟨y0, y1, y2⟩ := HX.out.gc
                    have hix := fun (a b : Bool) (w : World) => two_at1 a b w
                    try rw [show (((1 : Nat)) : Int) = 1 from rfl]
                    cases s1 with
                    | false =>
                      go_wp2_with fail
                      clear y0 y1 y2 hix
                      refine (O.read _ HX.out.d).mono ?_
                      rintro r wy ⟨sy, vy, rfl, hr, he, hbr⟩
                      have hne := HRD.out.1 (by trivial)
                      obtain ⟨Ty, xy, rfl⟩ := X.some he hne
                      obtain ⟨cx, hcx⟩ : ∃ x, Sb.slC (z - 2 + 1) = x := ⟨_, rfl⟩
                      rw [hcx] at hr ⊢
                      obtain ⟨Ay, cy, rfl, _, _⟩ := hr.numR
                      obtain ⟨nx, hnx⟩ : ∃ x, cx.dir.length = x := ⟨_, rfl⟩
                      rw [hnx] at hr ⊢
                      obtain ⟨wz, hwz⟩ : ∃ u, wy.alloc (.cells #[.int .u32 cx.nu, .int .u32 cx.se, .int .u32 cx.sq, .int .i64 cx.z, .int .i64 cx.p, .int .i64 cx.b, .slice Ay nx cy] 40) = u := ⟨_, rfl⟩
                      have hbx := BoxC.told hr hwz hbr.size
                      have HBZ := Lib.hid (wbelow HBX.out (wbelow hbr hbx.2))
                      clear hr he hbr hbx hne hcx hnx
                      go_wp2_with fail
                      clear hwz
                      refine wp_region_in (fun u => Below wz.heap.size wz u) (Below.refl _ _).drew (by kernel_rfl) (by kernel_rfl) (fun ne => ?_)
                      repeat (go_big_quiet_step (fail))
                      refine wpQuiet_nil ?_
                      intro nq
                      have HBZ2 := Lib.hid (wbelow HBZ.out nq.ok)
                      obtain ⟨wq, hwq⟩ : ∃ u, nq.w = u := ⟨_, rfl⟩
                      rw [hwq] at HBZ2 ⊢
                      clear hwq
                      go_wp2_with fail
                      go_roundg (2 - (1 + 1))
                      case rel => exact ⟨1 + 1, by omega, rfl, rfl, HBZ2.out⟩
                      case measure => have := HQ2.out; omega
                    | true =>
                      obtain ⟨Ag, cg, rfl, _, _⟩ := HX.out.r1.numR
                      go_wp2_with fail
                      clear y0 y1 y2 hix
                      refine (O.read _ HX.out.d).mono ?_
                      rintro r wy ⟨sy, vy, rfl, hr, he, hbr⟩
                      rw [(HRD.out.2 (by trivial)).1] at he
                      rw [(HRD.out.2 (by trivial)).2] at hr ⊢
                      obtain rfl := X.none he
                      obtain ⟨Ay, cy, rfl, _, _⟩ := hr.numR
                      obtain ⟨nx, hnx⟩ : ∃ x, g1.dir.length = x := ⟨_, rfl⟩
                      rw [hnx] at hr ⊢
                      obtain ⟨wz, hwz⟩ : ∃ u, wy.alloc (.cells #[.int .u32 g1.nu, .int .u32 g1.se, .int .u32 g1.sq, .int .i64 g1.z, .int .i64 g1.p, .int .i64 g1.b, .slice Ay nx cy] 40) = u := ⟨_, rfl⟩
                      have hbx := BoxC.told hr hwz hbr.size
                      have HBZ := Lib.hid (wbelow HBX.out (wbelow hbr hbx.2))
                      have HNZ := Lib.hid hbx.1
                      have HXZ := Lib.hid (HX.out.up (wbelow hbr hbx.2))
                      clear hr he hbr hbx hnx
                      go_wp2_with fail
                      clear hwz
                      refine wp_region_in (fun u => Below wz.heap.size wz u) (Below.refl _ _).drew (by kernel_rfl) (by kernel_rfl) (fun ne => ?_)
                      have d0 := fun q : In (fun u => Below wz.heap.size wz u) => (HNZ.out.up q.ok).cells.1
                      have a0 := fun q : In (fun u => Below wz.heap.size wz u) => (HXZ.out.up q.ok).a1.1
                      have d1 := fun q : In (fun u => Below wz.heap.size wz u) => (HNZ.out.up q.ok).cells.2.1
                      have a1 := fun q : In (fun u => Below wz.heap.size wz u) => (HXZ.out.up q.ok).a1.2.1
                      have d2 := fun q : In (fun u => Below wz.heap.size wz u) => (HNZ.out.up q.ok).cells.2.2.1
                      have a2 := fun q : In (fun u => Below wz.heap.size wz u) => (HXZ.out.up q.ok).a1.2.2.1
                      have d3 := fun q : In (fun u => Below wz.heap.size wz u) => (HNZ.out.up q.ok).cells.2.2.2.1
                      have a3 := fun q : In (fun u => Below wz.heap.size wz u) => (HXZ.out.up q.ok).a1.2.2.2.1
                      have d4 := fun q : In (fun u => Below wz.heap.size wz u) => (HNZ.out.up q.ok).cells.2.2.2.2.1
                      have a4 := fun q : In (fun u => Below wz.heap.size wz u) => (HXZ.out.up q.ok).a1.2.2.2.2.1
                      have d5 := fun q : In (fun u => Below wz.heap.size wz u) => (HNZ.out.up q.ok).cells.2.2.2.2.2.1
                      have a5 := fun q : In (fun u => Below wz.heap.size wz u) => (HXZ.out.up q.ok).a1.2.2.2.2.2.1
                      have d6 := fun q : In (fun u => Below wz.heap.size wz u) => (HNZ.out.up q.ok).cells.2.2.2.2.2.2
                      have a6 := fun q : In (fun u => Below wz.heap.size wz u) => (HXZ.out.up q.ok).a1.2.2.2.2.2.2
                      have sD := fun q : In (fun u => Below wz.heap.size wz u) => sameC_at g1 (HNZ.out.up q.ok).2.1 (HXZ.out.up q.ok).r1 (Nat.le_trans HX.out.l.2 (by decide))
                      repeat (go_big_quiet_step (first | (go_at_call 31; exact In.more (fun h1 h2 => wbelow h1 h2) (sD _))))
                      refine wpQuiet_nil ?_
                      intro nq
                      have HBZ2 := Lib.hid (wbelow HBZ.out nq.ok)
                      obtain ⟨wq, hwq⟩ : ∃ u, nq.w = u := ⟨_, rfl⟩
                      rw [hwq] at HBZ2 ⊢
                      clear hwq sD d0 d1 d2 d3 d4 d5 d6 a0 a1 a2 a3 a4 a5 a6
                      go_wp2_with fail
                      go_roundg (2 - (1 + 1))
                      case rel => exact ⟨1 + 1, by omega, rfl, rfl, HBZ2.out⟩
                      case measure => have := HQ2.out; omega
                · obtain rfl : j = 2 := by omega
                  obtain ⟨y0, y1, y2⟩ := HX.out.gc
                  try rw [show (((2 : Nat)) : Int) = 2 from rfl]
                  go_wp2_with fail
                  clear y0 y1 y2 hw0 hw1
                  refine (log_is z p b _ (by have := HR2.out; omega) (by have := HR2.out; omega)).mono ?_
                  rintro r wl ⟨rfl, hb⟩
                  have HXL := Lib.hid (HX.out.up hb)
                  obtain ⟨m, hm⟩ : ∃ m : Nat, z - 2 = (m : Int) := ⟨(z - 2).toNat, by have := HR2.out; omega⟩
                  have HM := Lib.hid hm
                  rw [hm]
                  clear hb hm
                  go_wp2_with fail
                  go_loopg [96] m (fun q x wx => ∃ j : Nat, j ≤ m ∧ q = m - j ∧ x = .int .i64 (j : Int) ∧ Below wl.heap.size wl wx)
                  case atStart => exact ⟨0, by omega, by omega, rfl, Below.refl _ _⟩
                  case round =>
                    obtain ⟨j, hj, hq3, rfl, hb⟩ := hrel
                    have HQ3 := Lib.hid hq3
                    have HY := Lib.hid (HXL.out.up hb)
                    have HBY := Lib.hid hb
                    clear hb hq3
                    by_cases hjm : j < m
                    · have HP0 : Hid ((Sb.point (j : Int) : Int) = 0) := Lib.hid (by rw [HA9.out.no (by have := HM.out; have := HR2.out; omega)]; rfl)
                      go_wp2_with fail
                      refine (Z.point _ HY.out.d).mono ?_
                      rw [HP0.out]
                      rintro r wp ⟨rfl, hb⟩
                      have HBP := Lib.hid (wbelow HBY.out hb)
                      clear hb
                      go_wp2_with fail
                      go_roundg (m - (j + 1))
                      case rel => exact ⟨j + 1, by omega, rfl, (by rw [show wrap64 ((j : Int) + 1) = ((j + 1 : Nat) : Int) from by have h1 := HM.out; have h2 := HR2.out; unfold RowKit.wrap64; omega]), HBP.out⟩
                      case measure => have := HQ3.out; omega
                    · obtain rfl : j = m := by omega
                      go_wp2_with fail
                      go_roundg (n - (i + 1))
                      case rel => exact ⟨i + 1, by omega, rfl, (by rw [show wrap64 ((i : Int) + 1) = ((i + 1 : Nat) : Int) from by have h1 := HLG.out.1; have h2 := HL.out; unfold RowKit.wrap64; omega]), _, _, _, _, _, _, _, _, HY.out, HA9.out, HDB.out⟩
                      case measure => have := HQ.out; omega
            · have hm : ch.nu.tmod 2 = 1 := by rw [Int.tmod_eq_emod_of_nonneg HNU.out.1]; exact hp
              have HP := Lib.hid hp
              obtain ⟨wd, hwd⟩ : ∃ u, (((((((wb.setCell ⟨ab, 7, none⟩ (.int .u32 ch.nu)).setCell ⟨ab, 8, none⟩ (.int .u32 ch.se)).setCell ⟨ab, 9, none⟩ (.int .u32 ch.sq)).setCell ⟨ab, 10, none⟩ (.int .i64 ch.z)).setCell ⟨ab, 11, none⟩ (.int .i64 ch.p)).setCell ⟨ab, 12, none⟩ (.int .i64 ch.b)).setCell ⟨ab, 13, none⟩ (.slice Av nd cv)) = u := ⟨_, rfl⟩
              obtain ⟨wc, hwc⟩ : ∃ u, wd.setCell ⟨sb, 1, none⟩ (.bool true) = u := ⟨_, rfl⟩
              have HRW : Hid (RowF (fun k => k < w0.heap.size) wb (.slice Av nd cv) (u32s ch.dir)) := Lib.hid (by
                rw [← HCH.out]
                exact HV0.out.keep (Kept.of_below (F := fun _ => False) (HB.out.1.old.mono (Nat.le_refl _))) (fun _ _ => id))
              have HPD : Hid (Kept (fun k => k = ab) wb wd ∧ Blk wd ab 73 (twoC g0 ch v0 (.slice Av nd cv)) ∧ Blk wd sb 74 [.bool s0, .bool s1]) := Lib.hid (by
                have hk := ((((((((Kept.refl (fun k => k = ab) wb).put (g := ab) (.inl rfl) 7 (.int .u32 ch.nu)).put (g := ab) (.inl rfl) 8 (.int .u32 ch.se)).put (g := ab) (.inl rfl) 9 (.int .u32 ch.sq)).put (g := ab) (.inl rfl) 10 (.int .i64 ch.z)).put (g := ab) (.inl rfl) 11 (.int .i64 ch.p)).put (g := ab) (.inl rfl) 12 (.int .i64 ch.b)).put (g := ab) (.inl rfl) 13 (.slice Av nd cv))
                rw [hwd] at hk
                have hb := (((((((HB.out.1.a.put 7 (.int .u32 ch.nu)).put 8 (.int .u32 ch.se)).put 9 (.int .u32 ch.sq)).put 10 (.int .i64 ch.z)).put 11 (.int .i64 ch.p)).put 12 (.int .i64 ch.b)).put 13 (.slice Av nd cv))
                rw [hwd] at hb
                exact ⟨hk, hb, hk.blk HB.out.1.s (fun e => HB.out.1.ne.2.2 e.symm)⟩)
              have H9 : Hid (OthW Z w0 wc Fb db gb ab sb Sb z p b s0 true g0 ch v0 (.slice Av nd cv)) := Lib.hid (by
                have hk1 : Kept (fun k => k = sb) wd wc := by
                  have h := (Kept.refl (fun k => k = sb) wd).put (g := sb) (.inl rfl) 1 (.bool true)
                  rw [hwc] at h
                  exact h
                have hs := HPD.out.2.2.put 1 (.bool true)
                rw [hwc] at hs
                have hk : Kept (fun k => k = ab ∨ k = sb) wb wc := (HPD.out.1.mono (fun k _ e => .inl e)).trans (hk1.mono (fun k _ e => .inl (.inr e)))
                exact HB.out.1.put hk (hk1.blk HPD.out.2.1 HB.out.1.ne.2.2) hs HB.out.1.r0 HRW.out ⟨HB.out.1.l.1, HCD.out⟩)
              have HA9 : Hid (Apart Sb z.toNat p.toNat (lastC s0 true g0 ch)) := Lib.hid (HWR.out.2.congr (by
                  intro j hj
                  rcases (show j = 0 ∨ j = 1 by omega) with rfl | rfl
                  · simp [lastC, HP.out]
                  · simp [lastC, HP.out]))
              have b0 := HPD.out.2.2.cell 0 (by simp)
              have b1 := HPD.out.2.2.cell 1 (by simp)
              simp only [List.getElem_cons_zero, List.getElem_cons_succ] at b0 b1
              have hfs := fun k => HPD.out.2.2.free k
              obtain ⟨e0, e1⟩ := H9.out.sc
              clear hp HWR HRW a0 a1 a2 a3 a4 a5 a6
              go_wp2_with fail
              clear hwd hwc hm b0 b1 e0 e1 hfs hfa k0 k1 k2 k3 k4 k5 k6 a7 a8 a9 a10 a11 a12 a13
              go_loopg [64] 2 (fun q x wx => ∃ j : Nat, j ≤ 2 ∧ q = 2 - j ∧ x = .int .i64 (j : Int) ∧ Below wc.heap.size wc wx)
              case atStart => exact ⟨0, by omega, rfl, rfl, Below.refl _ _⟩
              case round =>
                obtain ⟨j, hj, hq2, rfl, hb⟩ := hrel
                have HQ2 := Lib.hid hq2
                have HBX := Lib.hid hb
                have HX := Lib.hid (H9.out.up hb)
                have hw0 : IntKind.i64.wrap (z - 2) = z - 2 := IntWalk.i64_in _ (by have := HR2.out; omega)
                have hw1 : IntKind.i64.wrap (z - 2 + 1) = z - 2 + 1 := IntWalk.i64_in _ (by have := HR2.out; omega)
                clear hb hq2
                by_cases hj2 : j < 2
                · rcases (show j = 0 ∨ j = 1 by omega) with rfl | rfl
                  · have HRD : Hid ((s0 = false → Sb.slE (z - 2) ≠ 0) ∧ (s0 = true → Sb.slE (z - 2) = 0 ∧ Sb.slC (z - 2) = g0)) := Lib.hid (by
                      have h := HA9.out.read (k := 0) (by have := HR2.out; omega) (by decide)
                      rw [show ((z.toNat : Nat) : Int) - 2 + ((0 : Nat) : Int) = (z - 2) from by have := HR2.out; omega] at h
                      exact ⟨fun e => h.1 (by first | (cases e; done) | simp [lastC, e]), fun e => h.2 _ (by first | (simp [lastC]; done) | simp [lastC, e])⟩)
                    obtain ⟨y0, y1, y2⟩ := HX.out.gc
                    have hix := fun (a b : Bool) (w : World) => two_at0 a b w
                    try rw [show (((0 : Nat)) : Int) = 0 from rfl]
                    cases s0 with
                    | false =>
                      go_wp2_with fail
                      clear y0 y1 y2 hix
                      refine (O.read _ HX.out.d).mono ?_
                      rintro r wy ⟨sy, vy, rfl, hr, he, hbr⟩
                      have hne := HRD.out.1 (by trivial)
                      obtain ⟨Ty, xy, rfl⟩ := X.some he hne
                      obtain ⟨cx, hcx⟩ : ∃ x, Sb.slC (z - 2) = x := ⟨_, rfl⟩
                      rw [hcx] at hr ⊢
                      obtain ⟨Ay, cy, rfl, _, _⟩ := hr.numR
                      obtain ⟨nx, hnx⟩ : ∃ x, cx.dir.length = x := ⟨_, rfl⟩
                      rw [hnx] at hr ⊢
                      obtain ⟨wz, hwz⟩ : ∃ u, wy.alloc (.cells #[.int .u32 cx.nu, .int .u32 cx.se, .int .u32 cx.sq, .int .i64 cx.z, .int .i64 cx.p, .int .i64 cx.b, .slice Ay nx cy] 40) = u := ⟨_, rfl⟩
                      have hbx := BoxC.told hr hwz hbr.size
                      have HBZ := Lib.hid (wbelow HBX.out (wbelow hbr hbx.2))
                      clear hr he hbr hbx hne hcx hnx
                      go_wp2_with fail
                      clear hwz
                      refine wp_region_in (fun u => Below wz.heap.size wz u) (Below.refl _ _).drew (by kernel_rfl) (by kernel_rfl) (fun ne => ?_)
                      repeat (go_big_quiet_step (fail))
                      refine wpQuiet_nil ?_
                      intro nq
                      have HBZ2 := Lib.hid (wbelow HBZ.out nq.ok)
                      obtain ⟨wq, hwq⟩ : ∃ u, nq.w = u := ⟨_, rfl⟩
                      rw [hwq] at HBZ2 ⊢
                      clear hwq
                      go_wp2_with fail
                      go_roundg (2 - (0 + 1))
                      case rel => exact ⟨0 + 1, by omega, rfl, rfl, HBZ2.out⟩
                      case measure => have := HQ2.out; omega
                    | true =>
                      obtain ⟨Ag, cg, rfl, _, _⟩ := HX.out.r0.numR
                      go_wp2_with fail
                      clear y0 y1 y2 hix
                      refine (O.read _ HX.out.d).mono ?_
                      rintro r wy ⟨sy, vy, rfl, hr, he, hbr⟩
                      rw [(HRD.out.2 (by trivial)).1] at he
                      rw [(HRD.out.2 (by trivial)).2] at hr ⊢
                      obtain rfl := X.none he
                      obtain ⟨Ay, cy, rfl, _, _⟩ := hr.numR
                      obtain ⟨nx, hnx⟩ : ∃ x, g0.dir.length = x := ⟨_, rfl⟩
                      rw [hnx] at hr ⊢
                      obtain ⟨wz, hwz⟩ : ∃ u, wy.alloc (.cells #[.int .u32 g0.nu, .int .u32 g0.se, .int .u32 g0.sq, .int .i64 g0.z, .int .i64 g0.p, .int .i64 g0.b, .slice Ay nx cy] 40) = u := ⟨_, rfl⟩
                      have hbx := BoxC.told hr hwz hbr.size
                      have HBZ := Lib.hid (wbelow HBX.out (wbelow hbr hbx.2))
                      have HNZ := Lib.hid hbx.1
                      have HXZ := Lib.hid (HX.out.up (wbelow hbr hbx.2))
                      clear hr he hbr hbx hnx
                      go_wp2_with fail
                      clear hwz
                      refine wp_region_in (fun u => Below wz.heap.size wz u) (Below.refl _ _).drew (by kernel_rfl) (by kernel_rfl) (fun ne => ?_)
                      have d0 := fun q : In (fun u => Below wz.heap.size wz u) => (HNZ.out.up q.ok).cells.1
                      have a0 := fun q : In (fun u => Below wz.heap.size wz u) => (HXZ.out.up q.ok).a0.1
                      have d1 := fun q : In (fun u => Below wz.heap.size wz u) => (HNZ.out.up q.ok).cells.2.1
                      have a1 := fun q : In (fun u => Below wz.heap.size wz u) => (HXZ.out.up q.ok).a0.2.1
                      have d2 := fun q : In (fun u => Below wz.heap.size wz u) => (HNZ.out.up q.ok).cells.2.2.1
                      have a2 := fun q : In (fun u => Below wz.heap.size wz u) => (HXZ.out.up q.ok).a0.2.2.1
                      have d3 := fun q : In (fun u => Below wz.heap.size wz u) => (HNZ.out.up q.ok).cells.2.2.2.1
                      have a3 := fun q : In (fun u => Below wz.heap.size wz u) => (HXZ.out.up q.ok).a0.2.2.2.1
                      have d4 := fun q : In (fun u => Below wz.heap.size wz u) => (HNZ.out.up q.ok).cells.2.2.2.2.1
                      have a4 := fun q : In (fun u => Below wz.heap.size wz u) => (HXZ.out.up q.ok).a0.2.2.2.2.1
                      have d5 := fun q : In (fun u => Below wz.heap.size wz u) => (HNZ.out.up q.ok).cells.2.2.2.2.2.1
                      have a5 := fun q : In (fun u => Below wz.heap.size wz u) => (HXZ.out.up q.ok).a0.2.2.2.2.2.1
                      have d6 := fun q : In (fun u => Below wz.heap.size wz u) => (HNZ.out.up q.ok).cells.2.2.2.2.2.2
                      have a6 := fun q : In (fun u => Below wz.heap.size wz u) => (HXZ.out.up q.ok).a0.2.2.2.2.2.2
                      have sD := fun q : In (fun u => Below wz.heap.size wz u) => sameC_at g0 (HNZ.out.up q.ok).2.1 (HXZ.out.up q.ok).r0 (Nat.le_trans HX.out.l.1 (by decide))
                      repeat (go_big_quiet_step (first | (go_at_call 31; exact In.more (fun h1 h2 => wbelow h1 h2) (sD _))))
                      refine wpQuiet_nil ?_
                      intro nq
                      have HBZ2 := Lib.hid (wbelow HBZ.out nq.ok)
                      obtain ⟨wq, hwq⟩ : ∃ u, nq.w = u := ⟨_, rfl⟩
                      rw [hwq] at HBZ2 ⊢
                      clear hwq sD d0 d1 d2 d3 d4 d5 d6 a0 a1 a2 a3 a4 a5 a6
                      go_wp2_with fail
                      go_roundg (2 - (0 + 1))
                      case rel => exact ⟨0 + 1, by omega, rfl, rfl, HBZ2.out⟩
                      case measure => have := HQ2.out; omega
                  · have HRD : Hid ((true = false → Sb.slE (z - 2 + 1) ≠ 0) ∧ (true = true → Sb.slE (z - 2 + 1) = 0 ∧ Sb.slC (z - 2 + 1) = ch)) := Lib.hid (by
                      have h := HA9.out.read (k := 1) (by have := HR2.out; omega) (by decide)
                      rw [show ((z.toNat : Nat) : Int) - 2 + ((1 : Nat) : Int) = (z - 2 + 1) from by have := HR2.out; omega] at h
                      exact ⟨fun e => h.1 (by first | (cases e; done) | simp [lastC, e]), fun e => h.2 _ (by first | (simp [lastC]; done) | simp [lastC, e])⟩)
                    obtain ⟨y0, y1, y2⟩ := HX.out.gc
                    have hix := fun (a b : Bool) (w : World) => two_at1 a b w
                    try rw [show (((1 : Nat)) : Int) = 1 from rfl]
                    go_wp2_with fail
                    clear y0 y1 y2 hix
                    refine (O.read _ HX.out.d).mono ?_
                    rintro r wy ⟨sy, vy, rfl, hr, he, hbr⟩
                    rw [(HRD.out.2 (by trivial)).1] at he
                    rw [(HRD.out.2 (by trivial)).2] at hr ⊢
                    obtain rfl := X.none he
                    obtain ⟨Ay, cy, rfl, _, _⟩ := hr.numR
                    obtain ⟨nx, hnx⟩ : ∃ x, ch.dir.length = x := ⟨_, rfl⟩
                    rw [hnx] at hr ⊢
                    obtain ⟨wz, hwz⟩ : ∃ u, wy.alloc (.cells #[.int .u32 ch.nu, .int .u32 ch.se, .int .u32 ch.sq, .int .i64 ch.z, .int .i64 ch.p, .int .i64 ch.b, .slice Ay nx cy] 40) = u := ⟨_, rfl⟩
                    have hbx := BoxC.told hr hwz hbr.size
                    have HBZ := Lib.hid (wbelow HBX.out (wbelow hbr hbx.2))
                    have HNZ := Lib.hid hbx.1
                    have HXZ := Lib.hid (HX.out.up (wbelow hbr hbx.2))
                    clear hr he hbr hbx hnx
                    go_wp2_with fail
                    clear hwz
                    refine wp_region_in (fun u => Below wz.heap.size wz u) (Below.refl _ _).drew (by kernel_rfl) (by kernel_rfl) (fun ne => ?_)
                    have d0 := fun q : In (fun u => Below wz.heap.size wz u) => (HNZ.out.up q.ok).cells.1
                    have a0 := fun q : In (fun u => Below wz.heap.size wz u) => (HXZ.out.up q.ok).a1.1
                    have d1 := fun q : In (fun u => Below wz.heap.size wz u) => (HNZ.out.up q.ok).cells.2.1
                    have a1 := fun q : In (fun u => Below wz.heap.size wz u) => (HXZ.out.up q.ok).a1.2.1
                    have d2 := fun q : In (fun u => Below wz.heap.size wz u) => (HNZ.out.up q.ok).cells.2.2.1
                    have a2 := fun q : In (fun u => Below wz.heap.size wz u) => (HXZ.out.up q.ok).a1.2.2.1
                    have d3 := fun q : In (fun u => Below wz.heap.size wz u) => (HNZ.out.up q.ok).cells.2.2.2.1
                    have a3 := fun q : In (fun u => Below wz.heap.size wz u) => (HXZ.out.up q.ok).a1.2.2.2.1
                    have d4 := fun q : In (fun u => Below wz.heap.size wz u) => (HNZ.out.up q.ok).cells.2.2.2.2.1
                    have a4 := fun q : In (fun u => Below wz.heap.size wz u) => (HXZ.out.up q.ok).a1.2.2.2.2.1
                    have d5 := fun q : In (fun u => Below wz.heap.size wz u) => (HNZ.out.up q.ok).cells.2.2.2.2.2.1
                    have a5 := fun q : In (fun u => Below wz.heap.size wz u) => (HXZ.out.up q.ok).a1.2.2.2.2.2.1
                    have d6 := fun q : In (fun u => Below wz.heap.size wz u) => (HNZ.out.up q.ok).cells.2.2.2.2.2.2
                    have a6 := fun q : In (fun u => Below wz.heap.size wz u) => (HXZ.out.up q.ok).a1.2.2.2.2.2.2
                    have sD := fun q : In (fun u => Below wz.heap.size wz u) => sameC_at ch (HNZ.out.up q.ok).2.1 (HXZ.out.up q.ok).r1 (Nat.le_trans HX.out.l.2 (by decide))
                    repeat (go_big_quiet_step (first | (go_at_call 31; exact In.more (fun h1 h2 => wbelow h1 h2) (sD _))))
                    refine wpQuiet_nil ?_
                    intro nq
                    have HBZ2 := Lib.hid (wbelow HBZ.out nq.ok)
                    obtain ⟨wq, hwq⟩ : ∃ u, nq.w = u := ⟨_, rfl⟩
                    rw [hwq] at HBZ2 ⊢
                    clear hwq sD d0 d1 d2 d3 d4 d5 d6 a0 a1 a2 a3 a4 a5 a6
                    go_wp2_with fail
                    go_roundg (2 - (1 + 1))
                    case rel => exact ⟨1 + 1, by omega, rfl, rfl, HBZ2.out⟩
                    case measure => have := HQ2.out; omega
                · obtain rfl : j = 2 := by omega
                  obtain ⟨y0, y1, y2⟩ := HX.out.gc
                  try rw [show (((2 : Nat)) : Int) = 2 from rfl]
                  go_wp2_with fail
                  clear y0 y1 y2 hw0 hw1
                  refine (log_is z p b _ (by have := HR2.out; omega) (by have := HR2.out; omega)).mono ?_
                  rintro r wl ⟨rfl, hb⟩
                  have HXL := Lib.hid (HX.out.up hb)
                  obtain ⟨m, hm⟩ : ∃ m : Nat, z - 2 = (m : Int) := ⟨(z - 2).toNat, by have := HR2.out; omega⟩
                  have HM := Lib.hid hm
                  rw [hm]
                  clear hb hm
                  go_wp2_with fail
                  go_loopg [96] m (fun q x wx => ∃ j : Nat, j ≤ m ∧ q = m - j ∧ x = .int .i64 (j : Int) ∧ Below wl.heap.size wl wx)
                  case atStart => exact ⟨0, by omega, by omega, rfl, Below.refl _ _⟩
                  case round =>
                    obtain ⟨j, hj, hq3, rfl, hb⟩ := hrel
                    have HQ3 := Lib.hid hq3
                    have HY := Lib.hid (HXL.out.up hb)
                    have HBY := Lib.hid hb
                    clear hb hq3
                    by_cases hjm : j < m
                    · have HP0 : Hid ((Sb.point (j : Int) : Int) = 0) := Lib.hid (by rw [HA9.out.no (by have := HM.out; have := HR2.out; omega)]; rfl)
                      go_wp2_with fail
                      refine (Z.point _ HY.out.d).mono ?_
                      rw [HP0.out]
                      rintro r wp ⟨rfl, hb⟩
                      have HBP := Lib.hid (wbelow HBY.out hb)
                      clear hb
                      go_wp2_with fail
                      go_roundg (m - (j + 1))
                      case rel => exact ⟨j + 1, by omega, rfl, (by rw [show wrap64 ((j : Int) + 1) = ((j + 1 : Nat) : Int) from by have h1 := HM.out; have h2 := HR2.out; unfold RowKit.wrap64; omega]), HBP.out⟩
                      case measure => have := HQ3.out; omega
                    · obtain rfl : j = m := by omega
                      go_wp2_with fail
                      go_roundg (n - (i + 1))
                      case rel => exact ⟨i + 1, by omega, rfl, (by rw [show wrap64 ((i : Int) + 1) = ((i + 1 : Nat) : Int) from by have h1 := HLG.out.1; have h2 := HL.out; unfold RowKit.wrap64; omega]), _, _, _, _, _, _, _, _, HY.out, HA9.out, HDB.out⟩
                      case measure => have := HQ.out; omega
          · have q : ((nd : Int) != tb) = true := by simpa using hnt
            clear hnt HTE
            refine wp_region_in (fun u => Below w7.heap.size w7 u) (Below.refl _ _).drew (by kernel_rfl) (by kernel_rfl) (fun ne => ?_)
            have y6 := fun m : In (fun u => Below w7.heap.size w7 u) => (H7.out.2.1.up m.ok).cells.2.2.2.2.2.2
            have y2 := fun m : In (fun u => Below w7.heap.size w7 u) => (H7.out.1.up m.ok).gc.2.2
            repeat (go_big_quiet_step (first | (go_at_call 29; (with_reducible exact In.same (HTB.out _)))))
            refine wpQuiet_nil ?_
            intro nq
            have HE : Hid (Below w0.heap.size w0 nq.w) := Lib.hid (wbelow H7.out.1.old nq.ok)
            clear y6 y2
            go_wp2_with fail
            go_ret
            exact ⟨rfl, HE.out⟩
        · obtain rfl : i = n := by omega
          go_wp2_with fail
          go_ret
          exact ⟨rfl, HW.out.old⟩
end Go.Proofs.YthmpimjmajoimaaGreatDoor
