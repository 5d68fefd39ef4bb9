/-
  The document's set in memory: Unmark, Of, Bare.
-/
import Derived.Test.YtajccmkdfmpapaaDoorVaR
namespace Go.Proofs.YtajccmkdfmpapaaDoor
open Go.RowKit

def butA (L : List Nat) (a : Nat) : List Nat := L.filter (fun x => decide (x ≠ a))
theorem butA_snoc (L : List Nat) (a : Nat) {i : Nat} (h : i < L.length) : butA (L.take (i + 1)) a = if L[i] ≠ a then butA (L.take i) a ++ [L[i]] else butA (L.take i) a := by
  unfold butA
  rw [List.take_succ_eq_append_getElem h, List.filter_append]
  by_cases e : L[i] = a
  · rw [if_neg (by simpa using e), List.filter_cons_of_neg (by simpa using e)]
    simp
  · rw [if_pos e, List.filter_cons_of_pos (by simpa using e)]
    rfl
section
variable {w : World} {rs : Nat} {S : VaS}
set_option maxHeartbeats 2000000 in
theorem rvunmark_at (a : Nat) (h : RvM w rs S) : Calls Tryd.prog 11 #[.pointer (some ⟨rs, 0, none⟩), .int .u32 (a : Int)] w (RvTo rs (S.liveB a) (S.unmarkS a) w) := by
  have hl352 := VaS.len_le h.2
  obtain ⟨⟨v, hc⟩, hw⟩ := h
  obtain ⟨A, c, rfl, hnc, _, _⟩ := hc.r.form
  have HR := Lib.hid hc.r.rd
  have HC := Lib.hid hc
  have HUL := Lib.hid (VaS.unmark_len hw a)
  have HPOS : Hid (S.liveB a = true → 1 ≤ S.L.length) := Lib.hid (fun hl => List.length_pos_of_mem (a := a) (by simpa [VaS.liveB] using hl))
  have HBU : Hid (butA S.L a = (S.unmarkS a).L) := Lib.hid rfl
  have HE : Hid (∀ w1 v', Below w.heap.size w w1 → OwnK w1 w.heap.size 25 1 v' (S.unmarkS a).L.length (aC (S.unmarkS a).L) → RvTo rs (S.liveB a) (S.unmarkS a) w (.returned (.bool (S.liveB a))) (w1.setCell ⟨rs, 3, none⟩ v')) := Lib.hid (fun w1 v' hb1 ho => by
    have hl := hc.lay (S' := S.unmarkS a) hb1 ho rfl rfl rfl
    exact ⟨rfl, ⟨⟨v', hl.1⟩, VaS.unmarkS_wf hw a⟩, hl.2⟩)
  have HZ3 : Hid (∀ u, Below w.heap.size w u → u.cell? ⟨rs, 3, none⟩ = some (.slice A S.L.length c) ∧ u.frozen? ⟨rs, 3, none⟩ = false) := Lib.hid (fun u hu => ⟨(hc.up hu).cells.2.2.2, (hc.up hu).b.free 3⟩)
  generalize S.unmarkS a = S' at *
  generalize S.liveB a = lv at *
  obtain ⟨L, hL⟩ : ∃ L, S.L = L := ⟨_, rfl⟩
  rw [hL] at HR HUL HPOS HBU HZ3 hl352
  obtain ⟨n, hn⟩ : ∃ n, L.length = n := ⟨_, rfl⟩
  have HN := Lib.hid hn
  rw [hn] at HUL HPOS HZ3 hl352
  clear hc hw hL hn hnc
  have HO1 : Hid (OwnK (w.alloc (.cells #[] 25)) w.heap.size 25 1 (.slice (some ⟨w.heap.size, 0, none⟩) 0 0) 0 []) := Lib.hid (OwnK.new w w.heap.size 25 1 0 [] (Nat.le_refl _) rfl (by omega))
  have HB1 : Hid (Below w.heap.size w (w.alloc (.cells #[] 25))) := Lib.hid ((Below.refl _ _).alloc (Nat.le_refl _) _)
  go_enter Tryd.func11, Tryd.ntmps11
  go_wp2_with fail
  go_loopg [5, 6] n (fun q u y wr => ∃ (i e : Nat), i ≤ n ∧ q = n - i ∧ y = .int .i64 (i : Int) ∧ (butA (L.take i) a).length = e ∧ e ≤ i ∧ OwnK wr w.heap.size 25 1 u e (aC (butA (L.take i) a)) ∧ Below w.heap.size w wr)
  case atStart => exact ⟨0, 0, by omega, by omega, rfl, rfl, by omega, HO1.out, HB1.out⟩
  case round =>
    clear HO1 HB1
    obtain ⟨i, e, hi, hq, rfl, he, hei, ho, hb⟩ := hrel
    have HQ := Lib.hid hq
    have HL := Lib.hid he
    have HO := Lib.hid ho
    have HB := Lib.hid hb
    have z3 := (HZ3.out _ hb).1
    clear hq he ho hb
    by_cases hlt : i < n
    · have hil : i < L.length := by rw [HN.out]; exact hlt
      obtain ⟨b, o, rfl, hbl, hcell⟩ := HR.out.below HB.out (by rw [aC_len]; omega)
      have c0 := aC_at hcell i hil
      have HU := Lib.hid (butA_snoc L a hil)
      obtain ⟨x, hx⟩ : ∃ x, L[i] = x := ⟨_, rfl⟩
      rw [hx] at c0 HU
      obtain ⟨lst, hlst⟩ : ∃ lst, butA (L.take i) a = lst := ⟨_, rfl⟩
      rw [hlst] at HL HO HU
      clear hcell hil hx hlst
      by_cases hxa : x = a
      · have HU2 : Hid (butA (L.take (i + 1)) a = lst) := Lib.hid (HU.out.trans (if_neg (by simpa using hxa)))
        have q : ((x : Int) != (a : Int)) = false := by simp; omega
        clear hxa HU
        go_wp2_with fail
        go_roundg (n - (i + 1))
        case rel => exact ⟨i + 1, e, by omega, rfl, by go_num, by rw [HU2.out]; exact HL.out, by omega, by rw [HU2.out]; exact HO.out, HB.out⟩
        case measure => have := HQ.out; omega
      · have HU2 : Hid (butA (L.take (i + 1)) a = lst ++ [x]) := Lib.hid (HU.out.trans (if_pos hxa))
        have q : ((x : Int) != (a : Int)) = true := by simp; omega
        obtain ⟨w7, hw7⟩ : ∃ w7, wr.alloc (.cells #[.int .u32 (x : Int)] 25) = w7 := ⟨_, rfl⟩
        have hb7 : Below wr.heap.size wr w7 := by rw [← hw7]; exact (Below.refl _ _).alloc (Nat.le_refl _) _
        have HO7 := Lib.hid (HO.out.up hb7)
        have HB7 := Lib.hid (below_all HB.out hb7)
        have HR7 : Hid (RdV w7 w7.heap.size (some ⟨wr.heap.size, 0, none⟩) [.int .u32 (x : Int)]) := Lib.hid (fun _ => ⟨wr.heap.size, 0, rfl, by rw [← hw7]; simp, fun i hi => by rw [Nat.zero_add, ← hw7]; exact Blk.cell (T := 25) (heap_alloc_new wr _) i hi⟩)
        clear hxa HU HO HB hb7
        go_wp2_with (first
          | (at_builtin; refine appP _ rfl (.tmp 27) (.tmp 35) 42 25 (.int .u32 0) 1 4 rfl Tryd.underlying42 u32Info rfl (by decide) (by decide) w.heap.size e 1 1 u5 (aC lst) [.int .u32 (x : Int)] (some ⟨wr.heap.size, 0, none⟩) rfl HO7.out rfl rfl HR7.out (fun e => by cases e) (fun u hu => by simp only [List.mem_cons, List.not_mem_nil, or_false] at hu; rcases hu with rfl; rfl) (by omega) HB7.out.size ?_; intro v8 w8 ho hg; have HO8 : Hid (OwnK w8 w.heap.size 25 1 v8 (e + 1) (aC (lst ++ [x]))) := Lib.hid (by rw [aC_snoc]; exact ho); have HB8 := Lib.hid (below_grown HB7.out hg (fun e he => HO7.out.own e he)); clear ho hg)
          | fail)
        go_roundg (n - (i + 1))
        case rel => exact ⟨i + 1, e + 1, by omega, rfl, by go_num, by rw [HU2.out, List.length_append, HL.out]; rfl, by omega, by rw [HU2.out]; exact HO8.out, HB8.out⟩
        case measure => have := HQ.out; omega
    · obtain rfl : i = n := by omega
      have hta : L.take i = L := by rw [← HN.out]; exact List.take_length
      rw [hta, HBU.out] at HL HO
      obtain ⟨A5, c5, rfl, _, _, _⟩ := HO.out.form
      have f3 := (HZ3.out _ HB.out).2
      have HD : Hid (decide (e < i) = lv) := Lib.hid (by
        have h1 := HUL.out
        have h2 := HL.out
        have h3 := HPOS.out
        cases lv with
        | true => rw [if_pos rfl] at h1; have := h3 rfl; simp; omega
        | false => rw [if_neg (by simp)] at h1; simp; omega)
      have HE2 : Hid (RvTo rs lv S' w (.returned (.bool (decide (e < i)))) (wr.setCell ⟨rs, 3, none⟩ (.slice A5 e c5))) := Lib.hid (by rw [HD.out]; exact HE.out wr (.slice A5 e c5) HB.out (by rw [HL.out]; exact HO.out))
      clear hta HO HL HUL HPOS HE HC
      go_wp2_with fail
      go_ret
      exact HE2.out
set_option maxHeartbeats 2000000 in
theorem rvof_at (zone : Int) (h : RvM w rs S) : Calls Tryd.prog 16 #[.pointer (some ⟨rs, 0, none⟩), .int .i64 zone] w (AdrsIs (S.ofL zone) w) := by
  have HV := Lib.hid h
  have HI := Lib.hid h.2.i
  have hp16 : S.P ≤ 16 := (VaS.bd h.2.i).2.2.2.2.2.1
  have hpe := (VaS.bd h.2.i).2.1
  have HNZ : Hid (S.liveB 0 = false) := Lib.hid (h.2.not_zero (by omega))
  have HCE : Hid (∀ u, RvM u rs S → u.cell? ⟨rs, 0, none⟩ = some (.int .i64 S.z) ∧ u.cell? ⟨rs, 1, none⟩ = some (.int .i64 (S.P : Int)) ∧ u.cell? ⟨rs, 2, none⟩ = some (.int .i64 S.b)) := Lib.hid (fun u ⟨⟨N, hc⟩, _⟩ => by rw [← hpe]; exact ⟨hc.cells.1, hc.cells.2.1, hc.cells.2.2.1⟩)
  have HOF : Hid (∀ (k : Nat) u, Calls Tryd.prog 32 #[.agg #[.int .i64 S.z, .int .i64 (S.P : Int), .int .i64 S.b], .int .i64 zone, .int .i64 (k : Int)] u (U32B (S.adr zone k : Int) u)) := Lib.hid (fun k u => by
    have := rof_is S.z S.p S.b zone (k : Int) u HI.out
    rw [VaS.adr_cast HI.out] at this
    rw [← hpe]
    exact this)
  have HLV : Hid (∀ (k : Nat) u, RvM u rs S → Calls Tryd.prog 13 #[.pointer (some ⟨rs, 0, none⟩), .int .u32 (S.adr zone k : Int)] u (BoolIs (S.liveB (S.adr zone k)) u)) := Lib.hid (fun k u hu => rvlive_at _ hu)
  have HPP : Hid (S.ofK zone S.P = S.ofL zone) := Lib.hid rfl
  clear h hpe
  obtain ⟨p, hp⟩ : ∃ p, S.P = p := ⟨_, rfl⟩
  obtain ⟨z, hz⟩ : ∃ z, S.z = z := ⟨_, rfl⟩
  obtain ⟨b, hb⟩ : ∃ b, S.b = b := ⟨_, rfl⟩
  rw [hp, hz, hb] at HCE HOF
  rw [hp] at HPP hp16
  clear hp hz hb
  have HO1 : Hid (OwnK (w.alloc (.cells #[] 25)) w.heap.size 25 1 (.slice (some ⟨w.heap.size, 0, none⟩) 0 0) 0 []) := Lib.hid (OwnK.new w w.heap.size 25 1 0 [] (Nat.le_refl _) rfl (by omega))
  have HB1 : Hid (Below w.heap.size w (w.alloc (.cells #[] 25))) := Lib.hid ((Below.refl _ _).alloc (Nat.le_refl _) _)
  go_enter Tryd.func16, Tryd.ntmps16
  go_wp2_with fail
  go_loopg [5, 6] p (fun q u y wr => ∃ (k n : Nat), k ≤ p ∧ q = p - k ∧ y = .int .i64 (k : Int) ∧ (S.ofK zone k).length = n ∧ n ≤ k ∧ OwnK wr w.heap.size 25 1 u n (aC (S.ofK zone k)) ∧ Below w.heap.size w wr)
  case atStart => exact ⟨0, 0, by omega, by omega, rfl, rfl, by omega, HO1.out, HB1.out⟩
  case round =>
    clear HO1 HB1
    obtain ⟨k, n, hk, hq, rfl, hl, hnk, ho, hb⟩ := hrel
    have HQ := Lib.hid hq
    have HL := Lib.hid hl
    have HO := Lib.hid ho
    have HB := Lib.hid hb
    obtain ⟨y0, y1, y2⟩ := HCE.out _ (HV.out.up hb)
    clear hq hl ho hb
    by_cases hlt : k < p
    · have HU := Lib.hid (VaS.ofK_snoc (S := S) zone k)
      have HO1 := Lib.hid (HOF.out k wr)
      have HL1 := Lib.hid (HLV.out k)
      obtain ⟨a, ha⟩ : ∃ a, S.adr zone k = a := ⟨_, rfl⟩
      rw [ha] at HU HO1 HL1
      clear ha
      obtain ⟨lst, hlst⟩ : ∃ lst, S.ofK zone k = lst := ⟨_, rfl⟩
      rw [hlst] at HL HO HU
      clear hlst
      go_wp2_with fail
      refine HO1.out.mono ?_
      rintro r w4 ⟨rfl, hb⟩
      have HB4 := Lib.hid (below_all HB.out hb)
      have HO4 := Lib.hid (HO.out.up hb)
      clear hb y0 y1 y2 HO HB HO1
      by_cases ha0 : a = 0
      · have HU2 : Hid (S.ofK zone (k + 1) = lst) := Lib.hid (HU.out.trans (if_neg (by rw [ha0, HNZ.out]; simp)))
        have q0 : ((a : Int) != 0) = false := by simp; omega
        clear ha0 HU HL1
        go_wp2_with fail
        go_roundg (p - (k + 1))
        case rel => exact ⟨k + 1, n, by omega, rfl, by go_num, by rw [HU2.out]; exact HL.out, by omega, by rw [HU2.out]; exact HO4.out, HB4.out⟩
        case measure => have := HQ.out; omega
      · have q0 : ((a : Int) != 0) = true := by simp; omega
        obtain ⟨lv, hlv⟩ : ∃ lv, S.liveB a = lv := ⟨_, rfl⟩
        rw [hlv] at HU HL1
        clear hlv ha0
        go_wp2_with fail
        refine (HL1.out _ (HV.out.up HB4.out)).mono ?_
        rintro r w5 ⟨rfl, rfl⟩
        clear HL1
        cases lv with
        | true =>
          have HU2 : Hid (S.ofK zone (k + 1) = lst ++ [a]) := Lib.hid (HU.out.trans (if_pos rfl))
          obtain ⟨w7, hw7⟩ : ∃ w7, w4.alloc (.cells #[.int .u32 (a : Int)] 25) = w7 := ⟨_, rfl⟩
          have hb7 : Below w4.heap.size w4 w7 := by rw [← hw7]; exact (Below.refl _ _).alloc (Nat.le_refl _) _
          have HO7 := Lib.hid (HO4.out.up hb7)
          have HB7 := Lib.hid (below_all HB4.out hb7)
          have HR7 : Hid (RdV w7 w7.heap.size (some ⟨w4.heap.size, 0, none⟩) [.int .u32 (a : Int)]) := Lib.hid (fun _ => ⟨w4.heap.size, 0, rfl, by rw [← hw7]; simp, fun i hi => by rw [Nat.zero_add, ← hw7]; exact Blk.cell (T := 25) (heap_alloc_new w4 _) i hi⟩)
          clear HU HO4 HB4 hb7
          go_wp2_with (first
            | (at_builtin; refine appP _ rfl (.tmp 32) (.tmp 34) 42 25 (.int .u32 0) 1 4 rfl Tryd.underlying42 u32Info rfl (by decide) (by decide) w.heap.size n 1 1 u5 (aC lst) [.int .u32 (a : Int)] (some ⟨w4.heap.size, 0, none⟩) rfl HO7.out rfl rfl HR7.out (fun e => by cases e) (fun u hu => by simp only [List.mem_cons, List.not_mem_nil, or_false] at hu; rcases hu with rfl; rfl) (by omega) HB7.out.size ?_; intro v8 w8 ho hg; have HO8 : Hid (OwnK w8 w.heap.size 25 1 v8 (n + 1) (aC (lst ++ [a]))) := Lib.hid (by rw [aC_snoc]; exact ho); have HB8 := Lib.hid (below_grown HB7.out hg (fun e he => HO7.out.own e he)); clear ho hg)
            | fail)
          go_roundg (p - (k + 1))
          case rel => exact ⟨k + 1, n + 1, by omega, rfl, by go_num, by rw [HU2.out, List.length_append, HL.out]; rfl, by omega, by rw [HU2.out]; exact HO8.out, HB8.out⟩
          case measure => have := HQ.out; omega
        | false =>
          have HU2 : Hid (S.ofK zone (k + 1) = lst) := Lib.hid (HU.out.trans (if_neg (by simp)))
          clear HU
          go_wp2_with fail
          go_roundg (p - (k + 1))
          case rel => exact ⟨k + 1, n, by omega, rfl, by go_num, by rw [HU2.out]; exact HL.out, by omega, by rw [HU2.out]; exact HO4.out, HB4.out⟩
          case measure => have := HQ.out; omega
    · obtain rfl : k = p := by omega
      have HE : Hid (AdrsIs (S.ofL zone) w (.returned u5) wr) := Lib.hid ⟨u5, rfl, by rw [← HPP.out, HL.out]; exact HO.out, HB.out⟩
      clear HO
      go_wp2_with fail
      go_ret
      exact HE.out
set_option maxHeartbeats 2000000 in
theorem rvbare_at (h : RvM w rs S) : Calls Tryd.prog 21 #[.pointer (some ⟨rs, 0, none⟩)] w (NumsIs S.bareL w) := by
  have HV := Lib.hid h
  obtain ⟨e1, _, _, hm22, _⟩ := VaS.bd h.2.i
  have HCE : Hid (∀ u, RvM u rs S → u.cell? ⟨rs, 0, none⟩ = some (.int .i64 ((S.m : Int) + 2))) := Lib.hid (fun u ⟨⟨N, hc⟩, _⟩ => by rw [← e1]; exact hc.cells.1)
  have HOF : Hid (∀ (k : Nat) u, RvM u rs S → Calls Tryd.prog 16 #[.pointer (some ⟨rs, 0, none⟩), .int .i64 (k : Int)] u (AdrsIs (S.ofL (k : Int)) u)) := Lib.hid (fun k u hu => rvof_at _ hu)
  clear h e1
  obtain ⟨m, hm⟩ : ∃ m, S.m = m := ⟨_, rfl⟩
  have HM : Hid (S.bareK m = S.bareL) := Lib.hid (by rw [← hm]; rfl)
  rw [hm] at HCE hm22
  clear hm
  have HO1 : Hid (OwnK (w.alloc (.cells #[] 3)) w.heap.size 3 1 (.slice (some ⟨w.heap.size, 0, none⟩) 0 0) 0 []) := Lib.hid (OwnK.new w w.heap.size 3 1 0 [] (Nat.le_refl _) rfl (by omega))
  have HB1 : Hid (Below w.heap.size w (w.alloc (.cells #[] 3))) := Lib.hid ((Below.refl _ _).alloc (Nat.le_refl _) _)
  go_enter Tryd.func21, Tryd.ntmps21
  go_wp2_with fail
  go_loopg [3, 4] m (fun q u y wr => ∃ (k n : Nat), k ≤ m ∧ q = m - k ∧ y = .int .i64 (k : Int) ∧ (S.bareK k).length = n ∧ n ≤ k ∧ OwnK wr w.heap.size 3 1 u n (iCells (nats (S.bareK k))) ∧ Below w.heap.size w wr)
  case atStart => exact ⟨0, 0, by omega, by omega, rfl, rfl, by omega, HO1.out, HB1.out⟩
  case round =>
    clear HO1 HB1
    obtain ⟨k, n, hk, hq, rfl, hl, hnk, ho, hb⟩ := hrel
    have HQ := Lib.hid hq
    have HL := Lib.hid hl
    have HO := Lib.hid ho
    have HB := Lib.hid hb
    have y0 := HCE.out _ (HV.out.up hb)
    clear hq hl ho hb
    by_cases hlt : k < m
    · have HU := Lib.hid (VaS.bareK_snoc (S := S) k)
      have HO1 := Lib.hid (HOF.out k wr (HV.out.up HB.out))
      obtain ⟨x, hx⟩ : ∃ x, S.cnt (k : Int) = x := ⟨_, rfl⟩
      have HX : Hid ((S.ofL (k : Int)).length = x) := Lib.hid hx
      rw [hx] at HU
      clear hx
      obtain ⟨lst, hlst⟩ : ∃ lst, S.bareK k = lst := ⟨_, rfl⟩
      rw [hlst] at HL HO HU
      clear hlst
      go_wp2_with fail
      refine HO1.out.mono ?_
      rintro r w4 ⟨v4, rfl, ho, hb⟩
      rw [HX.out] at ho
      obtain ⟨A4, c4, rfl, _, _, _⟩ := ho.form
      have HB4 := Lib.hid (below_all HB.out hb)
      have HO4 := Lib.hid (HO.out.up hb)
      clear ho hb y0 HO HB HO1
      by_cases h0 : x = 0
      · have HU2 : Hid (S.bareK (k + 1) = lst ++ [k]) := Lib.hid (HU.out.trans (if_pos h0))
        have q : ((x : Int) == 0) = true := by simp [h0]
        obtain ⟨w7, hw7⟩ : ∃ w7, w4.alloc (.cells #[.int .i64 (k : Int)] 3) = w7 := ⟨_, rfl⟩
        have hb7 : Below w4.heap.size w4 w7 := by rw [← hw7]; exact (Below.refl _ _).alloc (Nat.le_refl _) _
        have HO7 := Lib.hid (HO4.out.up hb7)
        have HB7 := Lib.hid (below_all HB4.out hb7)
        have HR7 : Hid (RdV w7 w7.heap.size (some ⟨w4.heap.size, 0, none⟩) [.int .i64 (k : Int)]) := Lib.hid (fun _ => ⟨w4.heap.size, 0, rfl, by rw [← hw7]; simp, fun i hi => by rw [Nat.zero_add, ← hw7]; exact Blk.cell (T := 3) (heap_alloc_new w4 _) i hi⟩)
        clear h0 HU HO4 HB4 hb7
        go_wp2_with (first
          | (at_builtin; refine appP _ rfl (.tmp 21) (.tmp 23) 49 3 (.int .i64 0) 1 8 rfl Tryd.underlying49 intInfo rfl (by decide) (by decide) w.heap.size n 1 1 u3 (iCells (nats lst)) [.int .i64 (k : Int)] (some ⟨w4.heap.size, 0, none⟩) rfl HO7.out rfl rfl HR7.out (fun e => by cases e) (fun u hu => by simp only [List.mem_cons, List.not_mem_nil, or_false] at hu; rcases hu with rfl; rfl) (by omega) HB7.out.size ?_; intro v8 w8 ho hg; have HO8 : Hid (OwnK w8 w.heap.size 3 1 v8 (n + 1) (iCells (nats (lst ++ [k])))) := Lib.hid (by rw [show iCells (nats (lst ++ [k])) = iCells (nats lst) ++ [.int .i64 (k : Int)] from nats_snoc _ _]; exact ho); have HB8 := Lib.hid (below_grown HB7.out hg (fun e he => HO7.out.own e he)); clear ho hg)
          | fail)
        go_roundg (m - (k + 1))
        case rel => exact ⟨k + 1, n + 1, by omega, rfl, by go_num, by rw [HU2.out, List.length_append, HL.out]; rfl, by omega, by rw [HU2.out]; exact HO8.out, HB8.out⟩
        case measure => have := HQ.out; omega
      · have HU2 : Hid (S.bareK (k + 1) = lst) := Lib.hid (HU.out.trans (if_neg h0))
        have q : ((x : Int) == 0) = false := by simp; omega
        clear h0 HU
        go_wp2_with fail
        go_roundg (m - (k + 1))
        case rel => exact ⟨k + 1, n, by omega, rfl, by go_num, by rw [HU2.out]; exact HL.out, by omega, by rw [HU2.out]; exact HO4.out, HB4.out⟩
        case measure => have := HQ.out; omega
    · obtain rfl : k = m := by omega
      have HE : Hid (NumsIs S.bareL w (.returned u3) wr) := Lib.hid ⟨u3, rfl, by rw [← HM.out, HL.out]; exact HO.out, HB.out⟩
      clear HO
      go_wp2_with fail
      go_ret
      exact HE.out
end
end Go.Proofs.YtajccmkdfmpapaaDoor
