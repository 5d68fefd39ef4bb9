/-
  The law's awake; ChainTells.
-/
import Derived.Test.YtckkgjggoopjiaaChB
namespace Go.Proofs.Ytckkgjggoopjiaa
open Go.RowKit

def l4 : List HdS := [⟨1, 1, 0, 7⟩, ⟨1, 1, 0, 6⟩, ⟨1, 1, 0, 9⟩, ⟨1, 1, 0, 5⟩]
theorem l4_in : ∀ h ∈ l4, h.k = 1 ∧ h.s = 1 ∧ h.i = 0 := by
  intro h hm
  simp only [l4, List.mem_cons, List.not_mem_nil, or_false] at hm
  rcases hm with rfl | rfl | rfl | rfl <;> exact ⟨rfl, rfl, rfl⟩
theorem l4_ok : SeqOk l4 := by
  intro h hm
  simp only [l4, List.mem_cons, List.not_mem_nil, or_false] at hm
  rcases hm with rfl | rfl | rfl | rfl <;> decide
set_option maxHeartbeats 4000000 in
set_option maxRecDepth 100000 in
theorem cnawake_true (O : COps) (w : World) : Calls Try.prog 7 #[] w (BoolB true w) := by
  have hb1 : Below w.heap.size w (w.alloc (.cells #[.int .u32 7, .int .u32 6, .int .u32 9, .int .u32 5] 22)) := (Below.refl _ _).alloc (Nat.le_refl _) _
  have hk1 : Blk (w.alloc (.cells #[.int .u32 7, .int .u32 6, .int .u32 9, .int .u32 5] 22)) w.heap.size 22 (l4.map (fun h => .int .u32 h.q)) := heap_alloc_new w _
  have HB1 := Lib.hid hb1
  have HK1 := Lib.hid hk1
  obtain ⟨w1, hw1⟩ : ∃ u, w.alloc (.cells #[.int .u32 7, .int .u32 6, .int .u32 9, .int .u32 5] 22) = u := ⟨_, rfl⟩
  rw [hw1] at HB1 HK1
  clear hb1 hk1
  go_enter Try.func7, Try.ntmps7
  go_wp2_with fail
  go_loopg [1, 6] 4 (fun g v y wr => ∃ i : Nat, i ≤ 4 ∧ g = 4 - i ∧ y = .int .i64 (i : Int) ∧ OwnK wr w1.heap.size 34 4 v i (hsC (l4.take i)) ∧ Below w1.heap.size w1 wr)
  case atStart => exact ⟨0, by omega, rfl, rfl, OwnK.nil _ _ _ _, Below.refl _ _⟩
  case round =>
    obtain ⟨i, hi, hg, rfl, ho, hb⟩ := hrel
    have HG := Lib.hid hg
    have HO := Lib.hid ho
    have HB := Lib.hid hb
    clear hg ho hb
    by_cases hlt : i < 4
    · have hil : i < l4.length := hlt
      have c0 := (HK1.out.up HB.out (lt_of_block HK1.out)).cell i (by simpa using hil)
      rw [List.getElem_map] at c0
      obtain ⟨e1, e2, e3⟩ := l4_in _ (List.getElem_mem hil)
      obtain ⟨e, he⟩ : ∃ e, l4[i] = e := ⟨_, rfl⟩
      have HSN := Lib.hid (hs_snoc hil he)
      rw [he] at c0 e1 e2 e3
      rw [e1, e2, e3] at HSN
      obtain ⟨x, hx⟩ : ∃ x, e.q = x := ⟨_, rfl⟩
      rw [hx] at c0 HSN
      obtain ⟨w7, hw7⟩ : ∃ w7, wr.alloc (.cells #[.int .u8 1, .int .u32 1, .int .u32 0, .int .u32 x] 34) = w7 := ⟨_, rfl⟩
      have hb7 : Below wr.heap.size wr w7 := by rw [← hw7]; exact (Below.refl _ _).alloc (Nat.le_refl _) _
      have HO7 := Lib.hid (HO.out.up hb7)
      have HB7 := Lib.hid (below_all HB.out hb7)
      have HR7 : Hid (RdV w7 w7.heap.size (some ⟨wr.heap.size, 0, none⟩) [.int .u8 1, .int .u32 1, .int .u32 0, .int .u32 x]) := Lib.hid (fun _ => ⟨wr.heap.size, 0, rfl, by rw [← hw7]; simp, fun j hj => by rw [Nat.zero_add, ← hw7]; exact Blk.cell (T := 34) (heap_alloc_new wr _) j hj⟩)
      clear e1 e2 e3 he hx hil hb7 HO HB
      go_wp2_with (first
        | (at_builtin; go_loud (refine appP _ rfl (.tmp 10) (.tmp 13) 23 34 (.agg #[.int .u8 0, .int .u32 0, .int .u32 0, .int .u32 0]) 4 16 rfl Try.underlying23 cnInfo rfl (by decide) (by decide) w1.heap.size i 1 1 u1 (hsC (l4.take i)) [.int .u8 1, .int .u32 1, .int .u32 0, .int .u32 x] (some ⟨wr.heap.size, 0, none⟩) rfl HO7.out rfl rfl HR7.out (fun e => by cases e) (fun u hu => by simp only [List.mem_cons, List.not_mem_nil, or_false] at hu; rcases hu with rfl | rfl | rfl | rfl <;> rfl) (by omega) HB7.out.size ?_; intro v8 w8 ho hg; have HO8 : Hid (OwnK w8 w1.heap.size 34 4 v8 (i + 1) (hsC (l4.take (i + 1)))) := Lib.hid (by rw [← HSN.out]; exact ho); have HB8 := Lib.hid (below_grown HB7.out hg (fun e he => HO7.out.own e he)); clear ho hg))
        | fail)
      go_roundg (4 - (i + 1))
      case rel => exact ⟨i + 1, by omega, rfl, by go_num, HO8.out, HB8.out⟩
      case measure => have := HG.out; omega
    · obtain rfl : i = 4 := by omega
      have ho := HO.out
      rw [show l4.take 4 = l4 from rfl] at ho
      obtain ⟨A, k, rfl, hnk, _, hz⟩ := ho.form
      have HR := Lib.hid ho.rd
      have HZ := Lib.hid hz
      have HNK := Lib.hid hnk
      have HC := Lib.hid (fun (u : World) (hu : Below wr.heap.size wr u) (s q : Int) (h1 : 0 ≤ q) (h2 : q < 4294967296) => O.of (w := u) (n := 4) s q l4 rfl (HR.out.up hu) HNK.out HZ.out (by omega) l4_ok h1 h2)
      have HBW := Lib.hid (below_all HB1.out HB.out)
      clear ho hnk hz HO
      go_wp2_with fail
      refine (HC.out _ (Below.refl _ _) 1 4 (by omega) (by omega)).mono ?_
      rw [show HdS.chL 1 4 l4 = [3, 1, 0] from by kernel_rfl]
      rintro r w2 ⟨A2, k2, rfl, hr2, _, _, hb⟩
      have HB2 := Lib.hid hb
      have hb3 : Below w2.heap.size w2 (w2.alloc (.cells #[.int .i64 3, .int .i64 1, .int .i64 0] 3)) := (Below.refl _ _).alloc (Nat.le_refl _) _
      have HR3 := Lib.hid (hr2.up hb3)
      have HB3 := Lib.hid (below_all HB2.out hb3)
      clear hb hr2 hb3
      go_wp2_with fail
      refine (rsame_is (xs := nats [3, 1, 0]) (ys := [3, 1, 0]) HR3.out (row_rd w2 [.int .i64 3, .int .i64 1, .int .i64 0]) rfl rfl (by decide)).mono ?_
      rw [show decide (nats [3, 1, 0] = [3, 1, 0]) = true from by kernel_rfl]
      rintro r w4 ⟨rfl, hb⟩
      have HB4 := Lib.hid (below_all HB3.out hb)
      clear hb HB3 HR3 HB2
      go_wp2_with fail
      refine (HC.out _ HB4.out 2 4 (by omega) (by omega)).mono ?_
      rw [show HdS.chL 2 4 l4 = [] from by kernel_rfl]
      rintro r w5 ⟨A5, k5, rfl, _, _, _, hb⟩
      have HB5 := Lib.hid (below_all HB4.out hb)
      clear hb HB4
      go_wp2_with fail
      refine (HC.out _ HB5.out 1 4294967295 (by omega) (by omega)).mono ?_
      rw [show HdS.chL 1 4294967295 l4 = [] from by kernel_rfl]
      rintro r w6 ⟨A6, k6, rfl, _, _, _, hb⟩
      have HB6 := Lib.hid (below_all HB5.out hb)
      clear hb HB5
      go_wp2_with fail
      go_ret
      exact ⟨rfl, below_all HBW.out HB6.out⟩
set_option maxHeartbeats 2000000 in
set_option maxRecDepth 100000 in
theorem cntells_true (O : COps) {w : World} (s q : Int) (q0 : 0 ≤ q) (q1 : q < 4294967296) (A : Option Addr) (n c : Nat) (l : List HdS) (hl : l.length = n) (hr : RdV w w.heap.size A (hsC l)) (hnc : n ≤ c) (hz : A = none → c = 0) (hb : SeqOk l) : Calls Try.prog 3 #[.int .u32 s, .int .u32 q, .slice A n c] w (BoolB true w) := by
  have HR := Lib.hid hr
  have HN := Lib.hid hl
  have HNC := Lib.hid hnc
  have HZ := Lib.hid hz
  have HSO := Lib.hid hb
  clear hr hl hnc hz hb
  go_enter Try.func3, Try.ntmps3
  go_wp2_with fail
  refine (cnawake_true O w).mono ?_
  rintro r w1 ⟨rfl, hb⟩
  have HB1 := Lib.hid hb
  clear hb
  by_cases hmm : 200 < n
  · have d : decide ((200 : Int) < (n : Int)) = true := by simp; omega
    go_wp2_with fail
    go_ret
    exact ⟨rfl, HB1.out⟩
  have d : decide ((200 : Int) < (n : Int)) = false := by simp; omega
  have hn : n ≤ 400 := by omega
  go_wp2_with fail
  refine (O.of s q l HN.out (HR.out.up HB1.out) HNC.out HZ.out hn HSO.out q0 q1).mono ?_
  rintro r w2 ⟨A2, k2, rfl, hr2, _, _, hb⟩
  have HB2 := Lib.hid (below_all HB1.out hb)
  have HR2 := Lib.hid hr2
  have HCL : Hid ((HdS.chL s q l).length ≤ 400) := Lib.hid (by have := HdS.ch_len s q l; rw [HN.out] at this; omega)
  clear hb hr2 HB1
  go_wp2_with fail
  refine (cnheads_at l HN.out (HR.out.up HB2.out) hn).mono ?_
  rintro r w3 ⟨v3, rfl, ho, hb⟩
  rw [HN.out] at ho
  obtain ⟨A3, k3, rfl, _, _, _⟩ := ho.form
  have HB3 := Lib.hid (below_all HB2.out hb)
  have HR3 := Lib.hid ho.rd
  have HS3 := Lib.hid (HR2.out.up hb)
  clear hb ho HB2 HR2
  go_wp2_with fail
  refine (rnof_at s q l HN.out HR3.out hn HSO.out q0 q1).mono ?_
  rintro r w4 ⟨A4, k4, rfl, hr4, _, _, hb⟩
  have HB4 := Lib.hid (below_all HB3.out hb)
  have HS4 := Lib.hid (HS3.out.up hb)
  have HR4 := Lib.hid hr4
  clear hb hr4 HB3 HS3 HR3
  obtain ⟨ch, hch⟩ : ∃ x, HdS.chL s q l = x := ⟨_, rfl⟩
  rw [hch] at HS4 HR4 HCL ⊢
  obtain ⟨m, hm⟩ : ∃ x, ch.length = x := ⟨_, rfl⟩
  have HM : Hid ((nats ch).length = m) := Lib.hid (by rw [nats_len]; exact hm)
  rw [hm] at HCL ⊢
  clear hch hm
  go_wp2_with fail
  refine (rsame_is (xs := nats ch) (ys := nats ch) (n := m) (m := m) HS4.out HR4.out HM.out HM.out (by have := HM.out; have := HCL.out; omega)).mono ?_
  rw [show decide (nats ch = nats ch) = true by simp]
  rintro r w5 ⟨rfl, hb⟩
  have HB5 := Lib.hid (below_all HB4.out hb)
  clear hb
  go_wp2_with fail
  go_ret
  exact ⟨rfl, HB5.out⟩
end Go.Proofs.Ytckkgjggoopjiaa
