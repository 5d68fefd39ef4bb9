/-
  The law's seen: what is told of a zone.
-/
import Derived.Test.YtljpkngbhdplbaaDoorZnsR
namespace Go.Proofs.YtljpkngbhdplbaaDoor
open Go.RowKit

def seenTo (S : DevS) (n : Int) (k : Nat) : List Int := (List.range k).flatMap (fun (p : Nat) => ((S.readB n p).length : Int) :: S.readB n p)
def seenB (S : DevS) (n : Int) : List Int := seenTo S n (S.point n)
theorem seenTo_succ (S : DevS) (n : Int) (k : Nat) : seenTo S n (k + 1) = seenTo S n k ++ [((S.readB n k).length : Int)] ++ S.readB n k := by
  unfold seenTo
  rw [List.range_succ, List.flatMap_append]
  simp
theorem seenTo_len {S : DevS} (h : S.WF) (n : Int) (k : Nat) : (seenTo S n k).length ≤ 34 * k := by
  induction k with
  | zero => simp [seenTo]
  | succ k ih =>
    have := readB_len h n k
    rw [seenTo_succ]
    simp only [List.length_append, List.length_cons, List.length_nil]
    omega
theorem point_le {S : DevS} (h : S.WF) (n : Int) : S.point n ≤ 16 := by
  unfold DevS.point
  split
  · rename_i hi
    have := (h.pages _ (DevS.zone_mem hi)).1
    have := h.p1
    omega
  · omega
/-- What seen answers. -/
def SeenIs (S : DevS) (n : Int) (w : World) (r : Ending) (w' : World) : Prop := ∃ v, r = .returned (.tuple #[v, .agg #[.int .i64 (S.state n), .int .i64 (S.point n : Int), .int .i64 (S.sureOf n : Int)]]) ∧ BytN w w' v (seenB S n) ∧ Below w.heap.size w w' ∧ RowV w' w.heap.size 5 v (cellsOf8 (seenB S n))
theorem RowV.bytN {w w' : World} {v : Value} {xs : List Int} {base : Nat} (h : RowV w' base 5 v (cellsOf8 xs)) (hb : w.heap.size ≤ base) : BytN w w' v xs := by
  obtain ⟨A, c, e, hc, hr, h0, hbl⟩ := h.out
  rw [cells8_len] at e hc
  exact ⟨A, c, e, hc, hr.rd, fun _ b o x ex => (by have := hbl b o x ex; omega), h0⟩
theorem cells8_app (xs ys : List Int) : cellsOf8 (xs ++ ys) = cellsOf8 xs ++ cellsOf8 ys := by simp [cellsOf8]
set_option maxHeartbeats 1000000 in
set_option maxRecDepth 100000 in
theorem seen_at (Z : ZOps) {F : Nat → Prop} {w : World} {db : Nat} {S : DevS} (n : Int) (h : Z.D F w db S) : Calls Tryd.prog 29 #[.pointer (some ⟨db, 0, none⟩), .int .i64 n] w (SeenIs S n w) := by
  have HH := Lib.hid h
  have HW := Lib.hid (Z.wf h)
  obtain ⟨pp, hp⟩ : ∃ p, S.point n = p := ⟨_, rfl⟩
  have hp16 := point_le (Z.wf h) n
  rw [hp] at hp16
  have HP := Lib.hid hp
  have HB0 : Hid (Below w.heap.size w (w.alloc (.cells #[.int .i64 0, .int .i64 0, .int .i64 0] 64))) := Lib.hid (Below.alloc (Below.refl _ _) (Nat.le_refl _) _)
  have HK0 : Hid (Blk (w.alloc (.cells #[.int .i64 0, .int .i64 0, .int .i64 0] 64)) w.heap.size 64 [.int .i64 0, .int .i64 0, .int .i64 0]) := Lib.hid (heap_alloc_new w _)
  clear h hp
  go_enter Tryd.func29, Tryd.ntmps29
  go_wp2_with fail
  refine (Z.point n (Z.up HH.out HB0.out)).mono ?_
  rw [HP.out]
  rintro r w1 ⟨rfl, hb⟩
  have HB1 := Lib.hid (below_on HB0.out hb)
  have HK1 := Lib.hid (HK0.out.up hb (lt_of_block HK0.out))
  clear hb
  go_wp2_with fail
  go_loopg [6, 13] pp (fun q v x wr => ∃ k : Nat, k ≤ pp ∧ q = pp - k ∧ x = .int .i64 k ∧ RowV wr (w.heap.size + 1) 5 v (cellsOf8 (seenTo S n k)) ∧ Below w.heap.size w wr ∧ Blk wr w.heap.size 64 [.int .i64 0, .int .i64 0, .int .i64 0])
  case atStart => exact ⟨0, by omega, by omega, rfl, ⟨rfl, .inl ⟨rfl, rfl⟩⟩, HB1.out, HK1.out⟩
  case round =>
    clear HB1 HK1
    obtain ⟨k, hk, hq, rfl, hrow, hb, hblk⟩ := hrel
    have HQ := Lib.hid hq
    have HB := Lib.hid hb
    have HK := Lib.hid hblk
    have HR := Lib.hid hrow
    obtain ⟨lv, hlv⟩ : ∃ lv, (seenTo S n k).length = lv := ⟨_, rfl⟩
    have hlv2 : lv ≤ 544 := by have := seenTo_len HW.out n k; omega
    obtain ⟨VA, vc, e0, _⟩ := hrow.out
    rw [cells8_len, hlv] at e0
    subst e0
    have HLV : Hid ((cellsOf8 (seenTo S n k)).length = lv) := Lib.hid (by rw [cells8_len]; exact hlv)
    clear hq hb hblk hrow hlv
    by_cases hlt : k < pp
    · go_wp2_with fail
      refine (Z.read n k (Z.up HH.out HB.out)).mono ?_
      rintro r w2 ⟨v2, rfl, hv, hb⟩
      have hl33 := readB_len HW.out n k
      obtain ⟨xs, hxs⟩ : ∃ xs, S.readB n k = xs := ⟨_, rfl⟩
      obtain ⟨xl, hxl⟩ : ∃ xl, xs.length = xl := ⟨_, rfl⟩
      rw [hxs] at hl33 hv
      rw [hxl] at hl33
      have HXS := Lib.hid hxs
      have HXL := Lib.hid hxl
      obtain ⟨A2, c2, rfl, hv2⟩ := hv
      rw [hxl] at hv2
      rw [hxl]
      have HV2 := Lib.hid hv2
      have HB2 := Lib.hid (below_on HB.out hb)
      have HR2 := Lib.hid (HR.out.rise hb)
      have HK2 := Lib.hid (HK.out.up hb (lt_of_block HK.out))
      have HR3 : Hid (RowV (w2.alloc (.cells #[.int .u8 (xl : Int)] 5)) (w.heap.size + 1) 5 (.slice VA lv vc) (cellsOf8 (seenTo S n k))) := Lib.hid (HR2.out.rise (Below.alloc (Below.refl _ _) (Nat.le_refl _) _))
      have HB3 : Hid (Below w.heap.size w (w2.alloc (.cells #[.int .u8 (xl : Int)] 5))) := Lib.hid (HB2.out.alloc HB2.out.size _)
      have HK3 : Hid (Blk (w2.alloc (.cells #[.int .u8 (xl : Int)] 5)) w.heap.size 64 [.int .i64 0, .int .i64 0, .int .i64 0]) := Lib.hid (HK2.out.up (Below.alloc (Below.refl _ _) (Nat.le_refl _) _) (lt_of_block HK2.out))
      have HX3 : Hid (RdV (w2.alloc (.cells #[.int .u8 (xl : Int)] 5)) (w2.alloc (.cells #[.int .u8 (xl : Int)] 5)).heap.size A2 (cellsOf8 xs)) := Lib.hid (hv2.2.1.rdV.up (Below.alloc (Below.refl _ _) (Nat.le_refl _) _))
      have hsz : w.heap.size + 1 ≤ w2.heap.size := Nat.le_trans (lt_of_block HK.out) hb.size
      have hwr : (xl : Int) % 256 = xl := by omega
      have HOW : Hid (∀ j, (Value.slice VA lv vc).ownBlock = some j → w.heap.size + 1 ≤ j ∧ j < wr.heap.size) := Lib.hid (fun j e => HR.out.own j e)
      have HIN : Hid (InN xl (fun j => wr.heap.size ≤ j ∧ j < w2.heap.size) A2) := Lib.hid hv2.2.2.1
      have HA0 : Hid (A2 = none → c2 = 0) := Lib.hid hv2.2.2.2
      have HC2 : Hid ((cellsOf8 xs).length = xl) := Lib.hid (by rw [cells8_len]; exact HXL.out)
      have HSU : Hid (cellsOf8 (seenTo S n k) ++ [.int .u8 (xl : Int)] ++ cellsOf8 xs = cellsOf8 (seenTo S n (k + 1))) := Lib.hid (by rw [seenTo_succ, cells8_app, cells8_app, HXS.out, HXL.out]; rfl)
      clear hb hv2 hxs hxl
      generalize errV (S.readE n (k : Int)) = ev
      go_wp2_with (first
        | (at_builtin; refine appR _ rfl (.tmp 23) (.tmp 27) 35 5 (.int .u8 0) 1 rfl Tryd.underlying35 infoU8 rfl (by decide) (w.heap.size + 1) lv 1 1 (.slice VA lv vc) (cellsOf8 (seenTo S n k)) [.int .u8 (xl : Int)] (some ⟨w2.heap.size, 0, none⟩) rfl HR3.out HLV.out rfl rfl (rdv_one w2 _ _) (fun e => by cases e) (fun u hu => by simp at hu; subst hu; rfl) ?h1b ?h1c ?_; (case h1b => omega); (case h1c => rw [World.size_alloc]; omega); intro v3 w3 ho hg; obtain ⟨V3, c3, rfl⟩ : ∃ A c, v3 = .slice A (lv + 1) c := (by obtain ⟨A, c, e, _⟩ := ho.out; exact ⟨A, c, by rw [e, app_one_len HLV.out]⟩); have HO3 := Lib.hid ho; have HG3 : Hid (Kept (fun j => (Value.slice VA lv vc).ownBlock = some j) (w2.alloc (.cells #[.int .u8 (xl : Int)] 5)) w3) := Lib.hid ((Kept.refl _ _).grown hg (fun j e => .inl e)); have HX4 : Hid (RdV w3 w3.heap.size A2 (cellsOf8 xs)) := Lib.hid (HX3.out.keep HG3.out (fun hp => (HIN.out (by rwa [HC2.out] at hp)).mono (fun j e e2 => by have := HOW.out j e2; omega))); have HB4 := Lib.hid (HB3.out.grown hg HB3.out.size (fun j e => by have := (HOW.out j e).1; omega)); have HK4 := Lib.hid (HK3.out.kept hg (fun e => by have := (HOW.out _ e.symm).1; omega)); have HSZ4 := Lib.hid hg.size; clear ho hg)
        | (at_builtin; refine appR _ rfl (.tmp 28) (.tmp 29) 35 5 (.int .u8 0) 1 rfl Tryd.underlying35 infoU8 rfl (by decide) (w.heap.size + 1) (lv + 1) xl c2 (.slice V3 (lv + 1) c3) (cellsOf8 (seenTo S n k) ++ [.int .u8 (xl : Int)]) (cellsOf8 xs) A2 rfl HO3.out (app_one_len HLV.out) rfl HC2.out HX4.out HA0.out one8 ?h2b ?h2c ?_; (case h2b => omega); (case h2c => have := HSZ4.out; rw [World.size_alloc] at this; omega); rw [HSU.out]; intro v5 w5 ho hg; have HO5 := Lib.hid ho; have HB5 := Lib.hid (HB4.out.grown hg HB4.out.size (fun j e => by have := (HO3.out.own j e).1; omega)); have HK5 := Lib.hid (HK4.out.kept hg (fun e => by have := (HO3.out.own _ e.symm).1; omega)); clear ho hg)
        | fail)
      go_roundg (pp - (k + 1))
      case rel => exact ⟨k + 1, by omega, rfl, by go_num, HO5.out, HB5.out, HK5.out⟩
      case measure => have := HQ.out; omega
    · obtain rfl : k = pp := by omega
      go_wp2_with fail
      refine (Z.state n (Z.up HH.out HB.out)).mono ?_
      rintro r w2 ⟨rfl, hb⟩
      have HB2 := Lib.hid (below_on HB.out hb)
      have HR2 := Lib.hid (HR.out.rise hb)
      have HK2 := Lib.hid (HK.out.up hb (lt_of_block HK.out))
      clear hb
      go_wp2_with fail
      refine (Z.point n (Z.up HH.out HB2.out)).mono ?_
      rintro r w3 ⟨rfl, hb⟩
      have HB3 := Lib.hid (below_on HB2.out hb)
      have HR3 := Lib.hid (HR2.out.rise hb)
      have HK3 := Lib.hid (HK2.out.up hb (lt_of_block HK2.out))
      clear hb
      go_wp2_with fail
      refine (Z.sure n (Z.up HH.out HB3.out)).mono ?_
      rintro r w4 ⟨rfl, hb⟩
      have HB4 := Lib.hid (below_on HB3.out hb)
      have HR4 := Lib.hid (HR3.out.rise hb)
      have HK4 := Lib.hid (HK3.out.up hb (lt_of_block HK3.out))
      clear hb
      generalize hst : S.state n = st
      generalize hpt : (S.point n : Int) = pt
      generalize hsu : (S.sureOf n : Int) = su
      have HSP := Lib.hid (And.intro hst (And.intro hpt hsu))
      clear hst hpt hsu
      have a0 := HK4.out.cell 0 (by simp)
      have a1 := HK4.out.cell 1 (by simp)
      have a2 := HK4.out.cell 2 (by simp)
      have f0 := HK4.out.free 0
      have f1 := HK4.out.free 1
      have f2 := HK4.out.free 2
      simp only [List.getElem_cons_zero, List.getElem_cons_succ] at a0 a1 a2
      have d0 : (w4.setCell ⟨w.heap.size, 0, none⟩ (.int .i64 st)).cell? ⟨w.heap.size, 0, none⟩ = some (.int .i64 st) := (HK4.out.put 0 _).cell 0 (by simp)
      have d1 : ((w4.setCell ⟨w.heap.size, 0, none⟩ (.int .i64 st)).setCell ⟨w.heap.size, 1, none⟩ (.int .i64 pt)).cell? ⟨w.heap.size, 1, none⟩ = some (.int .i64 pt) := ((HK4.out.put 0 _).put 1 _).cell 1 (by simp)
      have d2 : (((w4.setCell ⟨w.heap.size, 0, none⟩ (.int .i64 st)).setCell ⟨w.heap.size, 1, none⟩ (.int .i64 pt)).setCell ⟨w.heap.size, 2, none⟩ (.int .i64 su)).cell? ⟨w.heap.size, 2, none⟩ = some (.int .i64 su) := (((HK4.out.put 0 _).put 1 _).put 2 _).cell 2 (by simp)
      go_wp2_with fail
      refine bodyPost_ret (v := .tuple #[.slice VA lv vc, .agg #[.int .i64 st, .int .i64 pt, .int .i64 su]]) (by simp [results, Tryd.results29, go_sem, d0, d1, d2]) rfl ?_
      have hkp : Kept (fun j => j = w.heap.size) w4 (((w4.setCell ⟨w.heap.size, 0, none⟩ (.int .i64 st)).setCell ⟨w.heap.size, 1, none⟩ (.int .i64 pt)).setCell ⟨w.heap.size, 2, none⟩ (.int .i64 su)) := (((Kept.refl (fun j => j = w.heap.size) w4).put (.inl rfl) _ _).put (.inl rfl) _ _).put (.inl rfl) _ _
      have HR5 := HR4.out.keep hkp (fun j e e2 => by have := (HR4.out.own j e).1; omega)
      have e5 : seenB S n = seenTo S n k := by
        unfold seenB
        rw [HP.out]
      rw [e5.symm] at HR5
      exact ⟨_, by rw [HSP.out.1, HSP.out.2.1, HSP.out.2.2], HR5.bytN (by omega), HB4.out.trans (hkp.below HB4.out.size (fun j e => by omega)), HR5.le (by omega)⟩
end Go.Proofs.YtljpkngbhdplbaaDoor
