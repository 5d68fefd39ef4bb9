/-
  A set in memory: Total, Bare, Of.
-/
import Derived.Test.YtajccmkdfmpapaaDoorVaD
namespace Go.Proofs.YtajccmkdfmpapaaDoor
open Go.RowKit

/-- Addresses as cells. -/
def aC (l : List Nat) : List Value := l.map (fun k : Nat => Value.int .u32 (k : Int))
theorem aC_len (l : List Nat) : (aC l).length = l.length := by simp [aC]
theorem aC_snoc (l : List Nat) (k : Nat) : aC (l ++ [k]) = aC l ++ [.int .u32 (k : Int)] := by simp [aC]
theorem u32Info : (Tryd.prog.info? 25).map (fun i => (i.zero, i.size, i.bytes)) = some (some (.int .u32 0), 1, 4) := by kernel_rfl
/-- A row of numbers, of addresses, of a call's own. -/
def NumsIs (l : List Nat) (w : World) (r : Ending) (w' : World) : Prop := ∃ v, r = .returned v ∧ OwnK w' w.heap.size 3 1 v l.length (iCells (nats l)) ∧ Below w.heap.size w w'
def AdrsIs (l : List Nat) (w : World) (r : Ending) (w' : World) : Prop := ∃ v, r = .returned v ∧ OwnK w' w.heap.size 25 1 v l.length (aC l) ∧ Below w.heap.size w w'
section
variable {w : World} {sb rb : Nat} {S : VaS}
set_option maxHeartbeats 1000000 in
theorem vatotal_at (h : VaM w sb rb S) : Calls Tryd.prog 14 #[.pointer (some ⟨sb, 0, none⟩)] w (IntB (S.L.length : Int) w) := by
  have HC := Lib.hid (vacounts_at h)
  have HS := Lib.hid (VaS.sum_all h.2)
  have HP := Lib.hid (VaS.bd h.2.i)
  have z3 : w.cell? ⟨sb, 3, none⟩ = some (.slice (some ⟨rb, 0, none⟩) S.m S.m) := by
    obtain ⟨⟨N, hc⟩, _⟩ := h
    exact hc.cells.2.2.2
  obtain ⟨m, hm⟩ : ∃ m, S.m = m := ⟨_, rfl⟩
  have HM := Lib.hid hm
  have hm22 : m ≤ 22 := by have := HP.out.2.2.2.1; omega
  rw [hm] at HC HS z3
  clear h hm
  go_enter Tryd.func14, Tryd.ntmps14
  go_wp2_with fail
  refine HC.out.mono ?_
  rintro r w2 ⟨g, rfl, hi, hb⟩
  have HI := Lib.hid hi
  have HB := Lib.hid hb
  clear hi hb z3 HC
  go_wp2_with fail
  go_loopg [3, 5, 15] m (fun q t y0 y wr => ∃ (k : Nat), k ≤ m ∧ q = m - k ∧ t = .int .i64 (S.sumK k : Int) ∧ y = .int .i64 (k : Int) ∧ wr = w2)
  case atStart => exact ⟨0, by omega, by omega, rfl, rfl, rfl⟩
  case round =>
    obtain ⟨k, hk, hq, rfl, rfl, rfl⟩ := hrel
    have HQ := Lib.hid hq
    clear hq
    by_cases hlt : k < m
    · have y5 := HI.out.at (iC_at (cntI S) hlt)
      have HU : Hid (S.sumK (k + 1) = S.sumK k + S.cnt (k : Int)) := Lib.hid rfl
      have hn16 := VaS.cnt_le (S := S) (k : Int)
      have hs := VaS.sum_le (S := S) k
      have hs2 : S.sumK k ≤ 22 * 16 := Nat.le_trans hs (Nat.mul_le_mul (by have := HP.out.2.2.2.1; have := HM.out; omega) HP.out.2.2.2.2.2.1)
      have hn2 : S.cnt (k : Int) ≤ 16 := Nat.le_trans hn16 HP.out.2.2.2.2.2.1
      unfold cntI at y5
      clear hn16 hs
      generalize S.cnt (k : Int) = n at *
      obtain ⟨s, hs⟩ : ∃ s, S.sumK k = s := ⟨_, rfl⟩
      rw [hs] at HU hs2 ⊢
      clear hs
      go_wp2_with fail
      go_roundg (m - (k + 1))
      case rel => exact ⟨k + 1, by omega, rfl, by rw [HU.out]; go_num, by go_num, rfl⟩
      case measure => have := HQ.out; omega
    · obtain rfl : k = m := by omega
      go_wp2_with fail
      go_ret
      exact ⟨ret_int (by rw [HS.out]), HB.out⟩
set_option maxHeartbeats 1000000 in
theorem vabare_at (h : VaM w sb rb S) : Calls Tryd.prog 20 #[.pointer (some ⟨sb, 0, none⟩)] w (NumsIs S.bareL w) := by
  have HC := Lib.hid (vacounts_at h)
  have hm22 : S.m ≤ 22 := (VaS.bd h.2.i).2.2.2.1
  have z3 : w.cell? ⟨sb, 3, none⟩ = some (.slice (some ⟨rb, 0, none⟩) S.m S.m) := by
    obtain ⟨⟨N, hc⟩, _⟩ := h
    exact hc.cells.2.2.2
  obtain ⟨m, hm⟩ : ∃ m, S.m = m := ⟨_, rfl⟩
  have HM : Hid (S.bareK m = S.bareL) := Lib.hid (by rw [← hm]; rfl)
  rw [hm] at HC hm22 z3
  clear h hm
  go_enter Tryd.func20, Tryd.ntmps20
  go_wp2_with fail
  refine HC.out.mono ?_
  rintro r w2 ⟨g, rfl, hi, hb⟩
  have HI := Lib.hid hi
  have HB := Lib.hid hb
  clear hi hb z3 HC
  go_wp2_with fail
  go_loopg [3, 4, 5, 15] m (fun q u y0 y1 y wr => ∃ (k n : Nat), k ≤ m ∧ q = m - k ∧ y = .int .i64 (k : Int) ∧ (S.bareK k).length = n ∧ n ≤ k ∧ OwnK wr w2.heap.size 3 1 u n (iCells (nats (S.bareK k))) ∧ Below w2.heap.size w2 wr)
  case atStart => exact ⟨0, 0, by omega, by omega, rfl, rfl, by omega, OwnK.nil _ _ _ _, Below.refl _ _⟩
  case round =>
    have HB2 := HB
    clear HB
    obtain ⟨k, n, hk, hq, rfl, hl, hnk, ho, hb⟩ := hrel
    have HQ := Lib.hid hq
    have HL := Lib.hid hl
    have HO := Lib.hid ho
    have HB := Lib.hid hb
    clear hq hl ho hb
    by_cases hlt : k < m
    · have y5 := (HI.out.up HB.out (lt_of_block HI.out)).at (iC_at (cntI S) hlt)
      unfold cntI at y5
      have HU := Lib.hid (VaS.bareK_snoc (S := S) k)
      obtain ⟨x, hx⟩ : ∃ x, S.cnt (k : Int) = x := ⟨_, rfl⟩
      rw [hx] at y5 HU
      clear hx
      obtain ⟨lst, hlst⟩ : ∃ lst, S.bareK k = lst := ⟨_, rfl⟩
      rw [hlst] at HL HO HU
      clear hlst
      by_cases h0 : x = 0
      · have HU2 : Hid (S.bareK (k + 1) = lst ++ [k]) := Lib.hid (HU.out.trans (if_pos h0))
        have q : ((x : Int) == 0) = true := by simp [h0]
        obtain ⟨w7, hw7⟩ : ∃ w7, wr.alloc (.cells #[.int .i64 (k : Int)] 3) = w7 := ⟨_, rfl⟩
        have hb7 : Below wr.heap.size wr w7 := by rw [← hw7]; exact (Below.refl _ _).alloc (Nat.le_refl _) _
        have HO7 := Lib.hid (HO.out.up hb7)
        have HB7 := Lib.hid (below_all HB.out hb7)
        have HR7 : Hid (RdV w7 w7.heap.size (some ⟨wr.heap.size, 0, none⟩) [.int .i64 (k : Int)]) := Lib.hid (fun _ => ⟨wr.heap.size, 0, rfl, by rw [← hw7]; simp, fun i hi => by rw [Nat.zero_add, ← hw7]; exact Blk.cell (T := 3) (heap_alloc_new wr _) i hi⟩)
        clear h0 HU HO HB hb7
        go_wp2_with (first
          | (at_builtin; refine appP _ rfl (.tmp 22) (.tmp 24) 49 3 (.int .i64 0) 1 8 rfl Tryd.underlying49 intInfo rfl (by decide) (by decide) w2.heap.size n 1 1 u3 (iCells (nats lst)) [.int .i64 (k : Int)] (some ⟨wr.heap.size, 0, none⟩) rfl HO7.out rfl rfl HR7.out (fun e => by cases e) (fun u hu => by simp only [List.mem_cons, List.not_mem_nil, or_false] at hu; rcases hu with rfl; rfl) (by omega) HB7.out.size ?_; intro v8 w8 ho hg; have HO8 : Hid (OwnK w8 w2.heap.size 3 1 v8 (n + 1) (iCells (nats (lst ++ [k])))) := Lib.hid (by rw [show iCells (nats (lst ++ [k])) = iCells (nats lst) ++ [.int .i64 (k : Int)] from nats_snoc _ _]; exact ho); have HB8 := Lib.hid (below_grown HB7.out hg (fun e he => HO7.out.own e he)); clear ho hg)
          | fail)
        go_roundg (m - (k + 1))
        case rel => exact ⟨k + 1, n + 1, by omega, rfl, by go_num, by rw [HU2.out, List.length_append, HL.out]; rfl, by omega, by rw [HU2.out]; exact HO8.out, HB8.out⟩
        case measure => have := HQ.out; omega
      · have HU2 : Hid (S.bareK (k + 1) = lst) := Lib.hid (HU.out.trans (if_neg h0))
        have q : ((x : Int) == 0) = false := by simp; omega
        clear h0 HU
        go_wp2_with fail
        go_roundg (m - (k + 1))
        case rel => exact ⟨k + 1, n, by omega, rfl, by go_num, by rw [HU2.out]; exact HL.out, by omega, by rw [HU2.out]; exact HO.out, HB.out⟩
        case measure => have := HQ.out; omega
    · obtain rfl : k = m := by omega
      have HE : Hid (NumsIs S.bareL w (.returned u3) wr) := Lib.hid ⟨u3, rfl, by rw [← HM.out, HL.out]; exact HO.out.le HB2.out.size, below_all HB2.out HB.out⟩
      clear HO
      go_wp2_with fail
      go_ret
      exact HE.out
set_option maxHeartbeats 2000000 in
theorem vaof_at (zone : Int) (h : VaM w sb rb S) : Calls Tryd.prog 18 #[.pointer (some ⟨sb, 0, none⟩), .int .i64 zone] w (AdrsIs (S.ofL zone) w) := by
  have HV := Lib.hid h
  have HI := Lib.hid h.2.i
  have hp16 : S.P ≤ 16 := (VaS.bd h.2.i).2.2.2.2.2.1
  have hpe := (VaS.bd h.2.i).2.1
  have HCE : Hid (∀ u, VaM u sb rb S → u.cell? ⟨sb, 0, none⟩ = some (.int .i64 S.z) ∧ u.cell? ⟨sb, 1, none⟩ = some (.int .i64 (S.P : Int)) ∧ u.cell? ⟨sb, 2, none⟩ = some (.int .i64 S.b)) := Lib.hid (fun u ⟨⟨N, hc⟩, _⟩ => by rw [← hpe]; exact ⟨hc.cells.1, hc.cells.2.1, hc.cells.2.2.1⟩)
  have HOF : Hid (∀ (k : Nat) u, Calls Tryd.prog 33 #[.agg #[.int .i64 S.z, .int .i64 (S.P : Int), .int .i64 S.b], .int .i64 zone, .int .i64 (k : Int)] u (U32B (S.adr zone k : Int) u)) := Lib.hid (fun k u => by
    have := of_is S.z S.p S.b zone (k : Int) u HI.out
    rw [VaS.adr_cast HI.out] at this
    rw [← hpe]
    exact this)
  have HLV : Hid (∀ (k : Nat) u, VaM u sb rb S → Calls Tryd.prog 12 #[.pointer (some ⟨sb, 0, none⟩), .int .u32 (S.adr zone k : Int)] u (BoolB (S.liveB (S.adr zone k)) u)) := Lib.hid (fun k u hu => valive_at _ hu)
  have HPP : Hid (S.ofK zone S.P = S.ofL zone) := Lib.hid rfl
  obtain ⟨y0, y1, y2⟩ := HCE.out _ h
  clear h hpe
  obtain ⟨p, hp⟩ : ∃ p, S.P = p := ⟨_, rfl⟩
  obtain ⟨z, hz⟩ : ∃ z, S.z = z := ⟨_, rfl⟩
  obtain ⟨b, hb⟩ : ∃ b, S.b = b := ⟨_, rfl⟩
  rw [hp, hz, hb] at HCE HOF
  rw [hp] at HPP hp16 y1
  rw [hz] at y0
  rw [hb] at y2
  clear hp hz hb
  go_enter Tryd.func18, Tryd.ntmps18
  go_wp2_with fail
  clear y0 y1 y2
  go_loopg [5, 6, 7, 13] p (fun q u x0 x1 y wr => ∃ (k n : Nat), k ≤ p ∧ q = p - k ∧ y = .int .i64 (k : Int) ∧ (S.ofK zone k).length = n ∧ n ≤ k ∧ OwnK wr w.heap.size 25 1 u n (aC (S.ofK zone k)) ∧ Below w.heap.size w wr)
  case atStart => exact ⟨0, 0, by omega, by omega, rfl, rfl, by omega, OwnK.nil _ _ _ _, Below.refl _ _⟩
  case round =>
    obtain ⟨k, n, hk, hq, rfl, hl, hnk, ho, hb⟩ := hrel
    have HQ := Lib.hid hq
    have HL := Lib.hid hl
    have HO := Lib.hid ho
    have HB := Lib.hid hb
    obtain ⟨y0, y1, y2⟩ := HCE.out _ (HV.out.up hb)
    clear hq hl ho hb
    by_cases hlt : k < p
    · have HU := Lib.hid (VaS.ofK_snoc (S := S) zone k)
      have HO1 := Lib.hid (HOF.out k wr)
      have HL1 := Lib.hid (HLV.out k)
      obtain ⟨a, ha⟩ : ∃ a, S.adr zone k = a := ⟨_, rfl⟩
      rw [ha] at HU HO1 HL1
      clear ha
      obtain ⟨lst, hlst⟩ : ∃ lst, S.ofK zone k = lst := ⟨_, rfl⟩
      rw [hlst] at HL HO HU
      clear hlst
      obtain ⟨lv, hlv⟩ : ∃ lv, S.liveB a = lv := ⟨_, rfl⟩
      rw [hlv] at HU HL1
      clear hlv
      go_wp2_with fail
      refine HO1.out.mono ?_
      rintro r w4 ⟨rfl, hb⟩
      have HB4 := Lib.hid (below_all HB.out hb)
      have HO4 := Lib.hid (HO.out.up hb)
      clear hb y0 y1 y2 HO HB HO1
      go_wp2_with fail
      refine (HL1.out _ (HV.out.up HB4.out)).mono ?_
      rintro r w5 ⟨rfl, hb⟩
      have HB5 := Lib.hid (below_all HB4.out hb)
      have HO5 := Lib.hid (HO4.out.up hb)
      clear hb HO4 HB4 HL1
      cases lv with
      | true =>
        have HU2 : Hid (S.ofK zone (k + 1) = lst ++ [a]) := Lib.hid (HU.out.trans (if_pos rfl))
        obtain ⟨w7, hw7⟩ : ∃ w7, w5.alloc (.cells #[.int .u32 (a : Int)] 25) = w7 := ⟨_, rfl⟩
        have hb7 : Below w5.heap.size w5 w7 := by rw [← hw7]; exact (Below.refl _ _).alloc (Nat.le_refl _) _
        have HO7 := Lib.hid (HO5.out.up hb7)
        have HB7 := Lib.hid (below_all HB5.out hb7)
        have HR7 : Hid (RdV w7 w7.heap.size (some ⟨w5.heap.size, 0, none⟩) [.int .u32 (a : Int)]) := Lib.hid (fun _ => ⟨w5.heap.size, 0, rfl, by rw [← hw7]; simp, fun i hi => by rw [Nat.zero_add, ← hw7]; exact Blk.cell (T := 25) (heap_alloc_new w5 _) i hi⟩)
        clear HU HO5 HB5 hb7
        go_wp2_with (first
          | (at_builtin; refine appP _ rfl (.tmp 26) (.tmp 28) 42 25 (.int .u32 0) 1 4 rfl Tryd.underlying42 u32Info rfl (by decide) (by decide) w.heap.size n 1 1 u5 (aC lst) [.int .u32 (a : Int)] (some ⟨w5.heap.size, 0, none⟩) rfl HO7.out rfl rfl HR7.out (fun e => by cases e) (fun u hu => by simp only [List.mem_cons, List.not_mem_nil, or_false] at hu; rcases hu with rfl; rfl) (by omega) HB7.out.size ?_; intro v8 w8 ho hg; have HO8 : Hid (OwnK w8 w.heap.size 25 1 v8 (n + 1) (aC (lst ++ [a]))) := Lib.hid (by rw [aC_snoc]; exact ho); have HB8 := Lib.hid (below_grown HB7.out hg (fun e he => HO7.out.own e he)); clear ho hg)
          | fail)
        go_roundg (p - (k + 1))
        case rel => exact ⟨k + 1, n + 1, by omega, rfl, by go_num, by rw [HU2.out, List.length_append, HL.out]; rfl, by omega, by rw [HU2.out]; exact HO8.out, HB8.out⟩
        case measure => have := HQ.out; omega
      | false =>
        have HU2 : Hid (S.ofK zone (k + 1) = lst) := Lib.hid (HU.out.trans (if_neg (by simp)))
        clear HU
        go_wp2_with fail
        go_roundg (p - (k + 1))
        case rel => exact ⟨k + 1, n, by omega, rfl, by go_num, by rw [HU2.out]; exact HL.out, by omega, by rw [HU2.out]; exact HO5.out, HB5.out⟩
        case measure => have := HQ.out; omega
    · obtain rfl : k = p := by omega
      have HE : Hid (AdrsIs (S.ofL zone) w (.returned u5) wr) := Lib.hid ⟨u5, rfl, by rw [← HPP.out, HL.out]; exact HO.out, HB.out⟩
      clear HO
      go_wp2_with fail
      go_ret
      exact HE.out
end
end Go.Proofs.YtajccmkdfmpapaaDoor
