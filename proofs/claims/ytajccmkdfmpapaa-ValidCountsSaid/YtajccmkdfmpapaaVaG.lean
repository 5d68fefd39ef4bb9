/-
  platelayerlaw11.ValidCounts answers true.
-/
import Derived.Test.YtajccmkdfmpapaaVaF
namespace Go.Proofs.Ytajccmkdfmpapaa
open Go.RowKit

/-- A set and an act of a call's own. -/
structure VX (w0 w : World) (sb rb x : Nat) (S : VaS) (d : Int) (a : Nat) : Prop where
  m : VaM w sb rb S
  ac : Blk w x 33 [.int .i64 d, .int .u32 (a : Int)]
  lt : w0.heap.size ≤ rb ∧ sb < x
  old : Below w0.heap.size w0 w
section
variable {w0 w w' : World} {sb rb x : Nat} {S S' : VaS} {d : Int} {a : Nat}
theorem VX.up (h : VX w0 w sb rb x S d a) (hb : Below w.heap.size w w') : VX w0 w' sb rb x S d a := ⟨h.m.up hb, h.ac.up hb (lt_of_block h.ac), h.lt, below_all h.old hb⟩
theorem VX.to {b : Bool} {r : Ending} (h : VX w0 w sb rb x S d a) (ht : VaTo sb rb b S' w r w') : VX w0 w' sb rb x S' d a := ⟨ht.2.1, ht.2.2.blk h.ac (by have := h.lt; have := h.m.lt; omega), h.lt, h.old.trans (ht.2.2.below h.old.size (fun k e => by rw [e]; exact h.lt.1))⟩
theorem VX.cells (h : VX w0 w sb rb x S d a) : w.cell? ⟨x, 0, none⟩ = some (.int .i64 d) ∧ w.cell? ⟨x, 1, none⟩ = some (.int .u32 (a : Int)) := ⟨h.ac.cell 0 (by simp), h.ac.cell 1 (by simp)⟩
theorem VX.vw (h : VX w0 w sb rb x S d a) : VW w0 w sb rb S := ⟨h.m, h.lt.1, h.old⟩
theorem VX.new (h : VW w0 w sb rb S) (d : Int) (a : Nat) : VX w0 (w.alloc (.cells #[.int .i64 d, .int .u32 (a : Int)] 33)) sb rb w.heap.size S d a := by
  have hb : Below w.heap.size w (w.alloc (.cells #[.int .i64 d, .int .u32 (a : Int)] 33)) := (Below.refl _ _).alloc (Nat.le_refl _) _
  exact ⟨h.m.up hb, heap_alloc_new w _, ⟨h.ge, h.m.lt.2⟩, below_all h.old hb⟩
end
namespace VaS
/-- What is told of a zone. -/
theorem ofL_mem {S : VaS} (h : S.WF) {i : Nat} (hi : i < S.m) {q : Nat} (hq : q < (S.ofL (i : Int)).length) : ∃ j : Nat, atI S.z S.p ((S.ofL (i : Int))[q] : Int) = ((i : Int), (j : Int), true) ∧ S.liveB (S.ofL (i : Int))[q] = true := by
  have hm := List.getElem_mem hq
  obtain ⟨a, ha⟩ : ∃ a, (S.ofL (i : Int))[q] = a := ⟨_, rfl⟩
  rw [ha] at hm ⊢
  unfold ofL ofK at hm
  rw [List.mem_map] at hm
  obtain ⟨j, hj, rfl⟩ := hm
  rw [List.mem_filter, List.mem_range] at hj
  obtain ⟨e1, _⟩ := adr_in h.i hi hj.1
  have hl := hj.2
  obtain ⟨b1, b2, _⟩ := bd h.i
  have := atI_in (z := S.z) (p := S.p) (zone := (i : Int)) (page := (j : Int)) h.i (by omega) (by omega) (by omega) (by omega)
  refine ⟨j, ?_, hl⟩
  rw [e1, ← this, Int.natCast_add, Int.natCast_add, Int.natCast_mul]
  conv => rhs; rw [b2]
  conv => lhs; rw [b2]
  rfl
theorem ofL_asc {S : VaS} (h : S.WF) {i : Nat} (hi : i < S.m) : (S.ofL (i : Int)).Pairwise (· < ·) := by
  unfold ofL ofK
  rw [List.pairwise_map]
  have h1 : ((List.range S.P).filter (fun j => S.liveB (S.adr (i : Int) j))).Pairwise (· < ·) := List.Pairwise.filter _ List.pairwise_lt_range
  refine h1.imp_of_mem fun {a b} ha hb hab => ?_
  rw [List.mem_filter, List.mem_range] at ha hb
  rw [(adr_in h.i hi ha.1).1, (adr_in h.i hi hb.1).1]
  omega
theorem ofL_next {S : VaS} (h : S.WF) {i : Nat} (hi : i < S.m) {q : Nat} (hq : q < (S.ofL (i : Int)).length) (h0 : 0 < q) : (S.ofL (i : Int))[q - 1] < (S.ofL (i : Int))[q] := List.pairwise_iff_getElem.1 (ofL_asc h hi) (q - 1) q (by omega) hq (by omega)
end VaS
theorem adr_cell {w : World} {b o : Nat} {l : List Nat} (h : ∀ i (h : i < (aC l).length), w.cell? ⟨b, o + i, none⟩ = some (aC l)[i]) (k : Nat) (hk : k < l.length) : w.cell? ⟨b, o + k, none⟩ = some (.int .u32 (l[k] : Int)) := by
  rw [h k (by rw [aC_len]; exact hk)]
  simp [aC]
set_option maxHeartbeats 8000000 in
set_option maxRecDepth 100000 in
theorem vcounts_true {w : World} (z p b : Int) (A : Option Addr) (m c : Nat) (l : List VAct) (hl : l.length = m) (hr : RdVA w A l) : Calls Try.prog 3 #[.agg #[.int .i64 z, .int .i64 p, .int .i64 b], .slice A m c] w (BoolB true w) := by
  have HL := Lib.hid hl
  have HR := Lib.hid (hr.below (below_box w (.cells #[.int .i64 z, .int .i64 p, .int .i64 b] 23)))
  have HCB : Hid (∀ u, Below (w.alloc (.cells #[.int .i64 z, .int .i64 p, .int .i64 b] 23)).heap.size (w.alloc (.cells #[.int .i64 z, .int .i64 p, .int .i64 b] 23)) u → u.cell? ⟨w.heap.size, 0, none⟩ = some (.int .i64 z) ∧ u.cell? ⟨w.heap.size, 1, none⟩ = some (.int .i64 p) ∧ u.cell? ⟨w.heap.size, 2, none⟩ = some (.int .i64 b)) := Lib.hid (fun u hu => cell_box hu)
  have HW0 := Lib.hid (below_box w (.cells #[.int .i64 z, .int .i64 p, .int .i64 b] 23))
  have hc0 := HCB.out _ (Below.refl _ _)
  obtain ⟨w0, hw0⟩ : ∃ u, w.alloc (.cells #[.int .i64 z, .int .i64 p, .int .i64 b] 23) = u := ⟨_, rfl⟩
  rw [hw0] at HR HCB HW0 hc0
  clear hl hr
  go_enter Try.func3, Try.ntmps3
  go_wp2_with fail
  refine (vaawake_true w0).mono ?_
  rintro r w1 ⟨rfl, hb⟩
  have HB1 := Lib.hid hb
  obtain ⟨x0, x1, x2⟩ := HCB.out _ hb
  clear hb hc0 hw0
  go_wp2_with fail
  refine (vanew_at z p b w1).mono ?_
  rintro r w2 ⟨hb, h⟩
  have HB2 := Lib.hid (below_all HB1.out hb)
  clear x0 x1 x2
  by_cases hrr : rightB z p b = true
  · rw [if_pos hrr] at h
    obtain ⟨sb, rb, hge, rfl, hm⟩ := h
    have HD2 : Hid (VW w0 w2 sb rb ⟨z, p, b, []⟩) := Lib.hid ⟨hm, by have := HB1.out.size; omega, HB2.out⟩
    clear hb hge hm HB1 HB2 hrr
    by_cases hmm : 300 < m
    · go_wp2_with fail
      go_ret
      exact ⟨rfl, below_all HW0.out HD2.out.old⟩
    go_wp2_with fail
    go_loopg [35] m (fun q y wr => ∃ (i : Nat) (S : VaS), i ≤ m ∧ q = m - i ∧ y = .int .i64 i ∧ VW w0 wr sb rb S ∧ S.z = z ∧ S.p = p ∧ S.b = b)
    case atStart => exact ⟨0, _, by omega, by omega, rfl, HD2.out, rfl, rfl, rfl⟩
    case round =>
      clear HD2
      obtain ⟨i, S, hi, hq, rfl, hd, hz, hp, hbb⟩ := hrel
      have HQ := Lib.hid hq
      have HD := Lib.hid hd
      have HG0 : Hid (S.z = z ∧ S.p = p ∧ S.b = b) := Lib.hid ⟨hz, hp, hbb⟩
      clear hq hd hz hp hbb
      by_cases hlt : i < m
      · have hll : i < l.length := by rw [HL.out]; exact hlt
        obtain ⟨bl, o, rfl, hbl, hcell⟩ := (HR.out.below HD.out.old) (by omega)
        obtain ⟨c0, c1⟩ := hcell i hll
        obtain ⟨d, hd⟩ : ∃ d, l[i].d = d := ⟨_, rfl⟩
        obtain ⟨a, ha⟩ : ∃ a, l[i].a = a := ⟨_, rfl⟩
        rw [hd] at c0
        rw [ha] at c1
        clear hcell hd ha
        have hxn := VX.new HD.out d a
        obtain ⟨wa, hwa⟩ : ∃ wa, wr.alloc (.cells #[.int .i64 d, .int .u32 (a : Int)] 33) = wa := ⟨_, rfl⟩
        rw [hwa] at hxn
        have HA := Lib.hid hxn
        have hn352 := VaS.len_le HD.out.m.2
        obtain ⟨n, hn⟩ : ∃ n, S.L.length = n := ⟨_, rfl⟩
        have HNN := Lib.hid hn
        rw [hn] at hn352
        clear hxn HD hn
        go_wp2_with fail
        refine (vatotal_at HA.out.m).mono ?_
        rw [HNN.out]
        rintro r w4 ⟨rfl, hb⟩
        have HA4 := Lib.hid (HA.out.up hb)
        obtain ⟨y0, y1⟩ := HA4.out.cells
        clear hb HA c0 c1
        by_cases hd0 : d = 0
        · have q0 : (d == 0) = true := by simpa using hd0
          have q1 : (d == 1) = false := by simp [hd0]
          clear hd0
          go_wp2_with fail
          clear y0 y1
          refine (vamark_at a HA4.out.m).mono ?_
          rintro r w5 h
          have HA5 := Lib.hid (HA4.out.to h)
          obtain ⟨rfl, _, _⟩ := h
          have HN := Lib.hid (VaS.mark_len (S := S) a)
          have HG : Hid ((S.markS a).z = z ∧ (S.markS a).p = p ∧ (S.markS a).b = b) := Lib.hid (by unfold VaS.markS; split <;> exact HG0.out)
          obtain ⟨S', hS'⟩ : ∃ S', S.markS a = S' := ⟨_, rfl⟩
          rw [hS'] at HA5 HN HG
          clear hS'
          rw [HNN.out] at HN
          obtain ⟨y0, y1⟩ := HA5.out.cells
          generalize S.markB a = bb at *
          cases bb with
          | true =>
            have HN2 : Hid ((S'.L.length : Int) = (n : Int) + 1) := Lib.hid (by have := HN.out; rw [if_pos rfl] at this; omega)
            have qq : (((n : Int) + 1) != ((n : Int) + 1)) = false := by simp
            go_wp2_with fail
            clear y0 y1
            refine (vatotal_at HA5.out.m).mono ?_
            rw [HN2.out]
            rintro r w6 ⟨rfl, hb⟩
            have HA5b := Lib.hid (HA5.out.up hb)
            clear hb
            obtain ⟨y0, y1⟩ := HA5b.out.cells
            go_wp2_with fail
            go_roundg (m - (i + 1))
            case rel => exact ⟨i + 1, S', by omega, rfl, by go_num, HA5b.out.vw, HG.out⟩
            case measure => have := HQ.out; omega
          | false =>
            have HN2 : Hid ((S'.L.length : Int) = (n : Int)) := Lib.hid (by have := HN.out; rw [if_neg (by simp)] at this; omega)
            have qq : ((n : Int) != (n : Int)) = false := by simp
            go_wp2_with fail
            clear y0 y1
            refine (vatotal_at HA5.out.m).mono ?_
            rw [HN2.out]
            rintro r w6 ⟨rfl, hb⟩
            have HA5b := Lib.hid (HA5.out.up hb)
            clear hb
            obtain ⟨y0, y1⟩ := HA5b.out.cells
            go_wp2_with fail
            go_roundg (m - (i + 1))
            case rel => exact ⟨i + 1, S', by omega, rfl, by go_num, HA5b.out.vw, HG.out⟩
            case measure => have := HQ.out; omega
        · have q0 : (d == 0) = false := by simpa using hd0
          by_cases hd1 : d = 1
          · have q1 : (d == 1) = true := by simpa using hd1
            clear hd1 hd0
            go_wp2_with fail
            clear y0 y1
            refine (vaunmark_at a HA4.out.m).mono ?_
            rintro r w5 h
            have HA5 := Lib.hid (HA4.out.to h)
            obtain ⟨rfl, _, _⟩ := h
            have HN := Lib.hid (VaS.unmark_len HA4.out.m.2 a)
            have HLE : Hid (S.liveB a = true → 1 ≤ n) := Lib.hid (fun hl => by
              rw [← HNN.out]
              have : a ∈ S.L := by simpa [VaS.liveB] using hl
              exact List.length_pos_of_mem this)
            have HUL := Lib.hid (VaS.unmark_live (S := S) a)
            have HG : Hid ((S.unmarkS a).z = z ∧ (S.unmarkS a).p = p ∧ (S.unmarkS a).b = b) := Lib.hid HG0.out
            obtain ⟨S', hS'⟩ : ∃ S', S.unmarkS a = S' := ⟨_, rfl⟩
            rw [hS'] at HA5 HN HG HUL
            clear hS'
            rw [HNN.out] at HN
            obtain ⟨y0, y1⟩ := HA5.out.cells
            generalize S.liveB a = bb at *
            cases bb with
            | true =>
              have HN2 : Hid ((S'.L.length : Int) = (n : Int) - 1) := Lib.hid (by have := HN.out; have h1 := HLE.out rfl; rw [if_pos rfl] at this; omega)
              have qq : (((n : Int) - 1) != ((n : Int) - 1)) = false := by simp
              have hn1 : 1 ≤ n := HLE.out rfl
              go_wp2_with fail
              clear y0 y1
              refine (vatotal_at HA5.out.m).mono ?_
              rw [HN2.out]
              rintro r w6 ⟨rfl, hb⟩
              have HA5b := Lib.hid (HA5.out.up hb)
              clear hb
              obtain ⟨y0, y1⟩ := HA5b.out.cells
              go_wp2_with fail
              have HLV := Lib.hid (valive_at a HA5b.out.m)
              rw [HUL.out] at HLV
              refine HLV.out.mono ?_
              rintro r w7 ⟨rfl, hb⟩
              have HA7 := Lib.hid (HA5b.out.up hb)
              clear hb y0 y1
              go_wp2_with fail
              go_roundg (m - (i + 1))
              case rel => exact ⟨i + 1, S', by omega, rfl, by go_num, HA7.out.vw, HG.out⟩
              case measure => have := HQ.out; omega
            | false =>
              have HN2 : Hid ((S'.L.length : Int) = (n : Int)) := Lib.hid (by have := HN.out; rw [if_neg (by simp)] at this; omega)
              have qq : ((n : Int) != (n : Int)) = false := by simp
              go_wp2_with fail
              clear y0 y1
              refine (vatotal_at HA5.out.m).mono ?_
              rw [HN2.out]
              rintro r w6 ⟨rfl, hb⟩
              have HA5b := Lib.hid (HA5.out.up hb)
              clear hb
              obtain ⟨y0, y1⟩ := HA5b.out.cells
              go_wp2_with fail
              have HLV := Lib.hid (valive_at a HA5b.out.m)
              rw [HUL.out] at HLV
              refine HLV.out.mono ?_
              rintro r w7 ⟨rfl, hb⟩
              have HA7 := Lib.hid (HA5b.out.up hb)
              clear hb y0 y1
              go_wp2_with fail
              go_roundg (m - (i + 1))
              case rel => exact ⟨i + 1, S', by omega, rfl, by go_num, HA7.out.vw, HG.out⟩
              case measure => have := HQ.out; omega
          · have q1 : (d == 1) = false := by simpa using hd1
            clear hd1 hd0
            go_wp2_with fail
            clear y0 y1
            have HG := HG0
            have qq : ((n : Int) != (n : Int)) = false := by simp
            obtain ⟨S', hS'⟩ : ∃ S', S = S' := ⟨_, rfl⟩
            rw [hS'] at HA4 HG HNN
            clear hS'
            refine (vatotal_at HA4.out.m).mono ?_
            rw [HNN.out]
            rintro r w6 ⟨rfl, hb⟩
            have HA4b := Lib.hid (HA4.out.up hb)
            clear hb
            obtain ⟨y0, y1⟩ := HA4b.out.cells
            go_wp2_with fail
            go_roundg (m - (i + 1))
            case rel => exact ⟨i + 1, S', by omega, rfl, by go_num, HA4b.out.vw, HG.out⟩
            case measure => have := HQ.out; omega
      · obtain rfl : i = m := by omega
        clear hlt HQ HL HR
        obtain ⟨e1, e2, _, hm22, _, hp16, _, _, hlast⟩ := VaS.bd HD.out.m.2.i
        obtain ⟨g1, g2, g3, g4⟩ := insB_iff.1 HD.out.m.2.i
        have HI := Lib.hid HD.out.m.2.i
        have HST := Lib.hid (VaS.sum_all HD.out.m.2)
        have HWF := Lib.hid HD.out.m.2
        obtain ⟨k0, k1, k2⟩ := HCB.out _ HD.out.old
        obtain ⟨hz, hp, hb⟩ := HG0.out
        rw [hz, hp] at HI
        rw [hz] at e1 g1 g2
        rw [hp] at e2 g3 g4
        obtain ⟨M, hM⟩ : ∃ M, S.m = M := ⟨_, rfl⟩
        have HMM := Lib.hid hM
        rw [hM] at e1 hm22 hlast HST
        have HLG : Hid (z - 2 = (M : Int)) := Lib.hid (by omega)
        have hsum : ∀ k, k ≤ M → S.sumK k ≤ 352 := fun k hk => Nat.le_trans (VaS.sum_le k) (Nat.le_trans (Nat.mul_le_mul_right _ hk) hlast)
        have HSU := Lib.hid hsum
        have HP16 := Lib.hid hp16
        have HRW : Hid (OwnK (wr.alloc (.cells #[] 3)) wr.heap.size 3 1 (.slice (some ⟨wr.heap.size, 0, none⟩) 0 0) 0 (iCells (nats (S.bareK 0)))) := Lib.hid (OwnK.new wr wr.heap.size 3 1 0 [] (Nat.le_refl _) rfl (by omega))
        have HLB : Hid (Below wr.heap.size wr (wr.alloc (.cells #[] 3))) := Lib.hid ((Below.refl _ _).alloc (Nat.le_refl _) _)
        obtain ⟨k0, k1, k2⟩ := HCB.out _ (below_all HD.out.old HLB.out)
        clear hz hp hb hM hsum hlast e1 e2 hp16
        go_wp2_with fail
        refine (log_is z p b _ (by omega) (by omega)).mono ?_
        rintro r w3 ⟨rfl, hb⟩
        rw [HLG.out]
        have HRW3 := Lib.hid (HRW.out.up hb)
        have HLB3 := Lib.hid (below_all HLB.out hb)
        clear hb k0 k1 k2 HRW HLB HLG g1 g2 g3 g4
        go_wp2_with fail
        obtain ⟨wB, rfl⟩ : ∃ wB : World, wB = wr := ⟨_, rfl⟩
        go_loopg [10, 11, 84] M (fun q t u y wr => ∃ (k e : Nat), k ≤ M ∧ q = M - k ∧ t = .int .i64 (S.sumK k : Int) ∧ y = .int .i64 (k : Int) ∧ (S.bareK k).length = e ∧ e ≤ k ∧ OwnK wr wB.heap.size 3 1 u e (iCells (nats (S.bareK k))) ∧ Below wB.heap.size wB wr)
        case atStart => exact ⟨0, 0, by omega, by omega, rfl, rfl, rfl, by omega, HRW3.out, HLB3.out⟩
        case round =>
          clear HRW3 HLB3
          obtain ⟨k, e, hk, hq, rfl, rfl, he, hek, ho, hb⟩ := hrel
          have HQ := Lib.hid hq
          have HE := Lib.hid he
          have HO := Lib.hid ho
          have HB := Lib.hid hb
          clear hq he ho hb
          by_cases hlt : k < M
          · have HZL : Hid (k < S.m) := Lib.hid (by rw [HMM.out]; exact hlt)
            obtain ⟨n, hn⟩ : ∃ n, (S.ofL (k : Int)).length = n := ⟨_, rfl⟩
            have HN := Lib.hid hn
            have HC : Hid (S.cnt (k : Int) = n) := Lib.hid hn
            have hn16 : n ≤ 16 := by rw [← hn]; exact Nat.le_trans (VaS.ofK_len (S := S) (k : Int) S.P) HP16.out
            have HSK : Hid (S.sumK (k + 1) = S.sumK k + n) := Lib.hid (by show S.sumK k + S.cnt (k : Int) = _; rw [HC.out])
            have HBK := Lib.hid (VaS.bareK_snoc (S := S) k)
            rw [HC.out] at HBK
            have hs352 := HSU.out k hk
            obtain ⟨lst, hlst⟩ : ∃ lst, S.bareK k = lst := ⟨_, rfl⟩
            rw [hlst] at HE HO HBK
            obtain ⟨s, hs⟩ : ∃ s, S.sumK k = s := ⟨_, rfl⟩
            rw [hs] at HSK hs352 ⊢
            clear hn hlst hs
            go_wp2_with fail
            refine (vaof_at (k : Int) (HD.out.m.up HB.out)).mono ?_
            rintro r w4 ⟨v4, rfl, ho, hb⟩
            rw [HN.out] at ho
            obtain ⟨A4, c4, rfl, _, _, _⟩ := ho.form
            have HR4 := Lib.hid ho.rd
            have HB4 := Lib.hid (below_all HB.out hb)
            have HO4 := Lib.hid (HO.out.up hb)
            clear ho hb HO HB
            go_wp2_with fail
            refine (vacount_at (k : Int) (HD.out.m.up HB4.out)).mono ?_
            rw [HC.out]
            rintro r w5 ⟨rfl, hb⟩
            have HR5 := Lib.hid (HR4.out.up hb)
            have HB5 := Lib.hid (below_all HB4.out hb)
            have HO5 := Lib.hid (HO4.out.up hb)
            have q5 : ((n : Int) != (n : Int)) = false := by simp
            clear hb HR4 HB4 HO4
            go_wp2_with fail
            go_loopg [98] n (fun g y wr => ∃ (i : Nat), i ≤ n ∧ g = n - i ∧ y = .int .i64 (i : Int) ∧ Below w5.heap.size w5 wr)
            case atStart => exact ⟨0, by omega, by omega, rfl, Below.refl _ _⟩
            case round =>
              obtain ⟨i, hi, hg, rfl, hb⟩ := hrel
              have HG := Lib.hid hg
              have HB := Lib.hid hb
              clear hg hb
              by_cases hil : i < n
              · have hil2 : i < (S.ofL (k : Int)).length := by rw [HN.out]; exact hil
                obtain ⟨j, hat, hlv⟩ := VaS.ofL_mem HWF.out HZL.out hil2
                obtain ⟨bl, o, rfl, hbl, hcell⟩ := (HR5.out.up HB.out) (by rw [aC_len]; omega)
                have c0 := adr_cell hcell i hil2
                have hcp : 0 < i → w5.heap.size ≤ w5.heap.size ∧ ∃ a' : Nat, (∀ u, Below wr.heap.size wr u → u.cell? ⟨bl, o + (i - 1), none⟩ = some (.int .u32 (a' : Int))) ∧ a' < (S.ofL (k : Int))[i] := fun h0 => ⟨Nat.le_refl _, _, fun u hu => (hu.cell (p := ⟨bl, o + (i - 1), none⟩) hbl).trans (adr_cell hcell (i - 1) (by omega)), VaS.ofL_next HWF.out HZL.out hil2 h0⟩
                obtain ⟨a, ha⟩ : ∃ a, (S.ofL (k : Int))[i] = a := ⟨_, rfl⟩
                rw [ha] at hat hlv c0 hcp
                have HAT := Lib.hid hat
                have HLV := Lib.hid hlv
                have HCP := Lib.hid hcp
                obtain ⟨hz, hp, hb⟩ := HG0.out
                obtain ⟨x0, x1, x2⟩ := HCB.out _ (below_all HD.out.old (below_all HB5.out HB.out))
                rw [hz, hp] at HAT
                clear hat hlv hcp hcell hbl ha hz hp hb hil2
                go_wp2_with fail
                refine (at_is z p b (a : Int) _ HI.out (by omega)).mono ?_
                rw [HAT.out]
                rintro r w6 ⟨rfl, hb⟩
                have HB6 := Lib.hid (below_all HB.out hb)
                have HBW := Lib.hid hb
                have HL6 := Lib.hid (valive_at a ((HD.out.m.up HB5.out).up HB6.out))
                rw [HLV.out] at HL6
                have q6 : ((k : Int) != (k : Int)) = false := by simp
                clear hb x0 x1 x2 c0
                go_wp2_with fail
                refine HL6.out.mono ?_
                rintro r w7 ⟨rfl, hb⟩
                have HB7 := Lib.hid (below_all HB6.out hb)
                have HBW7 := Lib.hid (below_all HBW.out hb)
                clear hb HB6 HBW HL6
                by_cases h0 : 0 < i
                · obtain ⟨_, a', hc', hlt'⟩ := HCP.out h0
                  have c7 := hc' _ HBW7.out
                  have d0 : decide ((0 : Int) < (i : Int)) = true := by simp; omega
                  obtain ⟨i1, hi1⟩ : ∃ i1 : Nat, (i : Int) - 1 = (i1 : Int) := ⟨i - 1, by omega⟩
                  have hii : i - 1 = i1 := by omega
                  have hi1n : i1 < n := by omega
                  rw [hii] at c7
                  clear hc' HCP hii h0
                  go_wp2_with fail
                  go_roundg (n - (i + 1))
                  case rel => exact ⟨i + 1, by omega, rfl, by go_num, HB7.out⟩
                  case measure => have := HG.out; omega
                · have d0 : decide ((0 : Int) < (i : Int)) = false := by simp; omega
                  clear HCP
                  go_wp2_with fail
                  go_roundg (n - (i + 1))
                  case rel => exact ⟨i + 1, by omega, rfl, by go_num, HB7.out⟩
                  case measure => have := HG.out; omega
              · obtain rfl : i = n := by omega
                have HB8 := Lib.hid (below_all HB5.out HB.out)
                have HO8 := Lib.hid (HO5.out.up HB.out)
                clear HB5 HO5 HR5 HB
                by_cases h0 : i = 0
                · have HBK2 : Hid (S.bareK (k + 1) = lst ++ [k]) := Lib.hid (HBK.out.trans (if_pos h0))
                  have q0 : ((i : Int) == 0) = true := by simp [h0]
                  obtain ⟨w9, hw9⟩ : ∃ w9, wr.alloc (.cells #[.int .i64 (k : Int)] 3) = w9 := ⟨_, rfl⟩
                  have hb9 : Below wr.heap.size wr w9 := by rw [← hw9]; exact (Below.refl _ _).alloc (Nat.le_refl _) _
                  have HO9 := Lib.hid (HO8.out.up hb9)
                  have HB9 := Lib.hid (below_all HB8.out hb9)
                  have HR9 : Hid (RdV w9 w9.heap.size (some ⟨wr.heap.size, 0, none⟩) [.int .i64 (k : Int)]) := Lib.hid (by rw [← hw9]; exact new_rd wr 3 [.int .i64 (k : Int)])
                  clear h0 HBK HO8 HB8 hb9 hil
                  go_wp2_with (first
                    | (at_builtin; refine appP _ rfl (.tmp 140) (.tmp 142) 36 3 (.int .i64 0) 1 8 rfl Try.underlying36 intInfo rfl (by decide) (by decide) wB.heap.size e 1 1 u11 (iCells (nats lst)) [.int .i64 (k : Int)] (some ⟨wr.heap.size, 0, none⟩) rfl HO9.out rfl rfl HR9.out (fun e => by cases e) (fun u hu => by simp only [List.mem_cons, List.not_mem_nil, or_false] at hu; rcases hu with rfl; rfl) (by omega) HB9.out.size ?_; intro v8 w8 ho hg; have HO10 : Hid (OwnK w8 wB.heap.size 3 1 v8 (e + 1) (iCells (nats (lst ++ [k])))) := Lib.hid (by rw [show iCells (nats (lst ++ [k])) = iCells (nats lst) ++ [.int .i64 (k : Int)] from nats_snoc _ _]; exact ho); have HB10 := Lib.hid (below_grown HB9.out hg (fun e he => HO9.out.own e he)); clear ho hg)
                    | fail)
                  go_roundg (M - (k + 1))
                  case rel => exact ⟨k + 1, e + 1, by omega, rfl, by rw [HSK.out]; go_num, by go_num, by rw [HBK2.out, List.length_append, HE.out]; rfl, by omega, by rw [HBK2.out]; exact HO10.out, HB10.out⟩
                  case measure => have := HQ.out; omega
                · have HBK2 : Hid (S.bareK (k + 1) = lst) := Lib.hid (HBK.out.trans (if_neg h0))
                  have q0 : ((i : Int) == 0) = false := by simp; omega
                  clear h0 HBK hil
                  go_wp2_with fail
                  go_roundg (M - (k + 1))
                  case rel => exact ⟨k + 1, e, by omega, rfl, by rw [HSK.out]; go_num, by go_num, by rw [HBK2.out]; exact HE.out, by omega, by rw [HBK2.out]; exact HO8.out, HB8.out⟩
                  case measure => have := HQ.out; omega
          · obtain rfl : k = M := by omega
            have HBL : Hid (S.bareK k = S.bareL) := Lib.hid (by rw [← HMM.out]; rfl)
            obtain ⟨A11, c11, rfl, _, _, _⟩ := HO.out.form
            rw [HST.out]
            have qt : ((S.L.length : Int) == (S.L.length : Int)) = true := by simp
            rw [HBL.out] at HO HE
            go_wp2_with fail
            refine (vatotal_at (HD.out.m.up HB.out)).mono ?_
            rintro r w4 ⟨rfl, hb⟩
            have HB4 := Lib.hid (below_all HB.out hb)
            have HR4 := Lib.hid (HO.out.rd.up hb)
            clear hb HB HO
            go_wp2_with fail
            refine (vabare_at (HD.out.m.up HB4.out)).mono ?_
            rintro r w5 ⟨v5, rfl, ho, hb⟩
            obtain ⟨A5, c5, rfl, _, _, _⟩ := ho.form
            have HR5 := Lib.hid ho.rd
            have HR45 := Lib.hid (HR4.out.up hb)
            have HB5 := Lib.hid (below_all HB4.out hb)
            clear ho hb HB4 HR4
            go_wp2_with fail
            refine (rsame_is HR5.out HR45.out (by rw [nats_len]) (by rw [nats_len, HE.out]) (by rw [HE.out]; omega)).mono ?_
            rw [show decide (nats S.bareL = nats S.bareL) = true by simp]
            rintro r w6 ⟨rfl, hb⟩
            have HB6 := Lib.hid (below_all HB5.out hb)
            clear hb
            go_wp2_with fail
            go_ret
            exact ⟨rfl, below_all HW0.out (below_all HD.out.old HB6.out)⟩
  · rw [if_neg hrr] at h
    obtain rfl := h
    clear hb hrr
    go_wp2_with fail
    go_ret
    exact ⟨rfl, below_all HW0.out HB2.out⟩
end Go.Proofs.Ytajccmkdfmpapaa
