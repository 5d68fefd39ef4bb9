/-
  The document's index in memory: New, Get, Drop, Keys.
-/
import Derived.Test.YtekaeeckhfghpaaDoorIxF
import Derived.Test.YtekaeeckhfghpaaDoorIxK
import Derived.Test.YtekaeeckhfghpaaDoorRowK
namespace Go.Proofs.YtekaeeckhfghpaaDoor
open Go.RowKit

/-- A pair's cells. -/
def prC (e : Nat × Int) : List Value := [.int .u32 (e.1 : Int), .int .i64 e.2]
def prsC (L : PL) : List Value := L.flatMap prC
theorem prsC_len (L : PL) : (prsC L).length = L.length * 2 := fk_len prC 2 (fun _ => rfl) L
theorem prsC_at {L : PL} {i : Nat} (h : i < L.length) : (prsC L)[i * 2]? = some (.int .u32 (L[i].1 : Int)) ∧ (prsC L)[i * 2 + 1]? = some (.int .i64 L[i].2) := ⟨fk_get prC 2 (fun _ => rfl) L i 0 h (by omega), fk_get prC 2 (fun _ => rfl) L i 1 h (by omega)⟩
theorem prsC_one (L : PL) : ∀ u ∈ prsC L, u.oneCell' = true := by
  intro u hu
  obtain ⟨e, _, he⟩ := List.mem_flatMap.1 hu
  simp only [prC, List.mem_cons, List.not_mem_nil, or_false] at he
  rcases he with rfl | rfl <;> rfl
theorem prsC_app (A B : PL) : prsC (A ++ B) = prsC A ++ prsC B := by simp [prsC]
theorem prInfo : (Tryd.prog.info? 57).map (fun i => (i.zero, i.size, i.bytes)) = some (some (.agg #[.int .u32 0, .int .i64 0]), 2, 16) := by kernel_rfl
/-- Block rb is the document's index S, whose row lies behind. -/
structure RxC (w : World) (rb : Nat) (v : Value) (S : IxS) : Prop where
  b : Blk w rb 44 [v, .int .i64 (S.room : Int)]
  r : OwnK w (rb + 1) 57 2 v S.L.length (prsC S.L)
def RxM (w : World) (rb : Nat) (S : IxS) : Prop := (∃ v, RxC w rb v S) ∧ S.WF
theorem RxC.up {w w' : World} {rb : Nat} {v : Value} {S : IxS} (h : RxC w rb v S) (hb : Below w.heap.size w w') : RxC w' rb v S := ⟨h.b.up hb (lt_of_block h.b), h.r.up hb⟩
theorem RxM.up {w w' : World} {rb : Nat} {S : IxS} (h : RxM w rb S) (hb : Below w.heap.size w w') : RxM w' rb S := by
  obtain ⟨⟨v, h⟩, hw⟩ := h
  exact ⟨⟨v, h.up hb⟩, hw⟩
theorem RxM.keep {F : Nat → Prop} {w w' : World} {rb : Nat} {S : IxS} (h : RxM w rb S) (hk : Kept F w w') (hF : ∀ k, F k → k < rb) : RxM w' rb S := by
  obtain ⟨⟨v, h1, h2⟩, hw⟩ := h
  exact ⟨⟨v, hk.blk h1 (fun e => by have := hF _ e; omega), h2.keep hk (fun g hg e => by have := hF _ e; omega)⟩, hw⟩
theorem RxM.lt {w : World} {rb : Nat} {S : IxS} (h : RxM w rb S) : rb < w.heap.size := by
  obtain ⟨⟨v, h⟩, _⟩ := h
  exact lt_of_block h.b
def RxTo (rb : Nat) (b : Bool) (S' : IxS) (w : World) (r : Ending) (w' : World) : Prop := r = .returned (.bool b) ∧ RxM w' rb S' ∧ Kept (fun k => k = rb) w w'
theorem IxS.lens {S : IxS} (h : S.WF) : S.L.length ≤ 64 ∧ S.room ≤ 64 := ⟨Nat.le_trans h.le h.r64, h.r64⟩
/-- Its cells, and those of a pair. -/
theorem RxC.cells {w : World} {rb : Nat} {v : Value} {S : IxS} (h : RxC w rb v S) : w.cell? ⟨rb, 0, none⟩ = some v ∧ w.cell? ⟨rb, 1, none⟩ = some (.int .i64 (S.room : Int)) := ⟨h.b.cell 0 (by simp), h.b.cell 1 (by simp)⟩
theorem pair_at {w : World} {b o : Nat} {L : PL} (h : ∀ i (h : i < (prsC L).length), w.cell? ⟨b, o + i, none⟩ = some (prsC L)[i]) (k : Nat) (hk : k < L.length) : w.cell? ⟨b, o + k * 2, none⟩ = some (.int .u32 (L[k].1 : Int)) ∧ w.cell? ⟨b, o + k * 2 + 1, none⟩ = some (.int .i64 L[k].2) := by
  obtain ⟨h0, h1⟩ := prsC_at hk
  obtain ⟨l0, e0⟩ := List.getElem?_eq_some_iff.1 h0
  obtain ⟨l1, e1⟩ := List.getElem?_eq_some_iff.1 h1
  rw [h _ l0, e0, Nat.add_assoc, h _ l1, e1]
  exact ⟨rfl, rfl⟩

def RxNew (n : Int) (w : World) (r : Ending) (w' : World) : Prop :=
  Below w.heap.size w w' ∧ if 1 ≤ n ∧ n ≤ 64 then r = .returned (.tuple #[.pointer (some ⟨w.heap.size, 0, none⟩), .int .i64 0]) ∧ RxM w' w.heap.size ⟨[], n.toNat⟩ else r = .returned (.tuple #[.pointer none, .int .i64 1])
theorem ynew_at (n : Int) (w : World) : Calls Tryd.prog 6 #[.int .i64 n] w (RxNew n w) := by
  by_cases h0 : n < 1
  · have hd : decide (n < 1) = true := by simpa using h0
    have HE : Hid (RxNew n w (.returned (.tuple #[.pointer none, .int .i64 1])) w) := Lib.hid ⟨Below.refl _ _, by rw [if_neg (by omega)]⟩
    go_enter Tryd.func6, Tryd.ntmps6
    go_wp2_with fail
    go_ret2
    exact HE.out
  · have hd : decide (n < 1) = false := by simpa using h0
    by_cases h1 : 64 < n
    · have HE : Hid (RxNew n w (.returned (.tuple #[.pointer none, .int .i64 1])) w) := Lib.hid ⟨Below.refl _ _, by rw [if_neg (by omega)]⟩
      go_enter Tryd.func6, Tryd.ntmps6
      go_wp2_with fail
      go_ret2
      exact HE.out
    · obtain ⟨m, rfl⟩ := Int.eq_ofNat_of_zero_le (show 0 ≤ n by omega)
      have HE : Hid (RxNew (m : Int) w (.returned (.tuple #[.pointer (some ⟨w.heap.size, 0, none⟩), .int .i64 0])) (w.alloc (.cells #[.slice none 0 0, .int .i64 (m : Int)] 44))) := Lib.hid ⟨(Below.refl _ _).alloc (Nat.le_refl _) _, by
        rw [if_pos (by omega)]
        exact ⟨rfl, ⟨.slice none 0 0, heap_alloc_new w _, OwnK.nil _ _ _ _⟩, ⟨List.Pairwise.nil, by simp, by simp; omega, by simp; omega⟩⟩⟩
      go_enter Tryd.func6, Tryd.ntmps6
      go_wp2_with fail
      go_ret2
      exact HE.out
theorem getL_take {k : Nat} : ∀ {L : PL} {i : Nat} (h : i < L.length), (∀ j (hj : j < i), L[j].1 ≠ k) → L[i].1 = k → getL L k = some L[i].2
  | x :: L, 0, h, _, hk => by
    have hk' : x.1 = k := hk
    unfold getL
    rw [if_pos hk']
    rfl
  | x :: L, i + 1, h, hn, hk => by
    have h0 : ¬ x.1 = k := hn 0 (by omega)
    unfold getL
    rw [if_neg h0, getL_take (i := i) (by simpa using h) (fun j hj => hn (j + 1) (by omega)) hk]
    rfl
section
variable {w : World} {rb : Nat} {S : IxS}
set_option maxHeartbeats 1000000 in
theorem yget_at (k : Nat) (h : RxM w rb S) : Calls Tryd.prog 13 #[.pointer (some ⟨rb, 0, none⟩), .int .u32 (k : Int)] w (fun r w' => r = .returned (.tuple #[.int .i64 (S.getN k), .bool (S.has k)]) ∧ w = w') := by
  obtain ⟨⟨v, hc⟩, hw⟩ := h
  obtain ⟨A, c, rfl, hnc, _, _⟩ := hc.r.form
  have HR := Lib.hid hc.r.rd
  have hl := (IxS.lens hw).1
  have g0 := hc.cells.1
  obtain ⟨n, hn⟩ : ∃ n, S.L.length = n := ⟨_, rfl⟩
  have HN := Lib.hid hn
  rw [hn] at g0 hl
  clear hc hw hnc hn
  go_enter Tryd.func13, Tryd.ntmps13
  go_wp2_with fail
  go_loopg [6] n (fun q y wr => ∃ i : Nat, i ≤ n ∧ q = n - i ∧ y = .int .i64 (i : Int) ∧ (∀ j (hj : j < i) (hl : j < S.L.length), S.L[j].1 ≠ k) ∧ w = wr)
  case atStart => exact ⟨0, by omega, rfl, rfl, fun j hj => by omega, rfl⟩
  case round =>
    obtain ⟨i, hi, hq, rfl, hno, rfl⟩ := hrel
    have HQ := Lib.hid hq
    have HNO := Lib.hid hno
    clear hq hno
    by_cases hlt : i < n
    · have hll : i < S.L.length := by rw [HN.out]; exact hlt
      obtain ⟨b, o, rfl, _, hcell⟩ := HR.out (by rw [prsC_len, HN.out]; omega)
      obtain ⟨c0, c1⟩ := pair_at hcell i hll
      by_cases he : S.L[i].1 = k
      · have HG : Hid (S.getN k = S.L[i].2 ∧ S.has k = true) := Lib.hid (by
          have := getL_take hll (fun j hj => HNO.out j hj (by omega)) he
          unfold IxS.getN IxS.has
          rw [this]
          exact ⟨rfl, rfl⟩)
        rw [he] at c0
        generalize S.L[i].2 = s at *
        have q : ((k : Int) == (k : Int)) = true := by simp
        clear hcell he HNO
        go_wp2_with fail
        go_ret2
        exact ⟨by rw [HG.out.1, HG.out.2]; rfl, rfl⟩
      · have HNO2 : Hid (∀ j (hj : j < i + 1) (hl : j < S.L.length), S.L[j].1 ≠ k) := Lib.hid (fun j hj hl => by
          by_cases e : j = i
          · subst e
            exact he
          · exact HNO.out j (by omega) hl)
        have q : ((S.L[i].1 : Int) == (k : Int)) = false := by simp; omega
        generalize S.L[i].1 = x at *
        clear hcell he HNO c1
        go_wp2_with fail
        go_roundg (n - (i + 1))
        case rel => exact ⟨i + 1, by omega, rfl, by go_num, HNO2.out, rfl⟩
        case measure => have := HQ.out; omega
    · have HG : Hid (S.getN k = 0 ∧ S.has k = false) := Lib.hid (by
        have := getL_none (L := S.L) (k := k) (fun e he => by
          obtain ⟨j, hj, rfl⟩ := List.getElem_of_mem he
          exact HNO.out j (by have := HN.out; omega) hj)
        unfold IxS.getN IxS.has
        rw [this]
        exact ⟨rfl, rfl⟩)
      clear HNO
      go_wp2_with fail
      go_ret2
      exact ⟨by rw [HG.out.1, HG.out.2]; rfl, rfl⟩
set_option maxHeartbeats 1000000 in
theorem ykeys_at (h : RxM w rb S) : Calls Tryd.prog 17 #[.pointer (some ⟨rb, 0, none⟩)] w (KeysIs (keysL S.L) w) := by
  obtain ⟨⟨v, hc⟩, hw⟩ := h
  obtain ⟨A, c, rfl, hnc, _, _⟩ := hc.r.form
  have HC := Lib.hid hc
  have hl := (IxS.lens hw).1
  obtain ⟨n, hn⟩ : ∃ n, S.L.length = n := ⟨_, rfl⟩
  have HN := Lib.hid hn
  rw [hn] at hl HC
  have hlt0 := lt_of_block hc.b
  have HK0 : Hid (KRow (w.alloc (.cells #[] 23)) w.heap.size (.slice (some ⟨w.heap.size, 0, none⟩) 0 0) []) := Lib.hid ⟨by simp [uC], .inr ⟨w.heap.size, 0, #[], rfl, Nat.le_refl _, heap_alloc_new w _, Nat.le_refl _, Nat.zero_le _, by simp, by simp [uC]⟩⟩
  have HB0 : Hid (Below w.heap.size w (w.alloc (.cells #[] 23))) := Lib.hid ((Below.refl _ _).alloc (Nat.le_refl _) _)
  clear hc hw hnc hn
  go_enter Tryd.func17, Tryd.ntmps17
  go_wp2_with fail
  go_loopg [3, 4] n (fun q x y wr => ∃ i : Nat, i ≤ n ∧ q = n - i ∧ y = .int .i64 (i : Int) ∧ KRow wr w.heap.size x ((keysL S.L).take i) ∧ Below w.heap.size w wr)
  case atStart => exact ⟨0, by omega, rfl, rfl, by rw [List.take_zero]; exact HK0.out, HB0.out⟩
  case round =>
    clear HK0 HB0
    obtain ⟨i, hi, hq, rfl, hr, hb⟩ := hrel
    have HQ := Lib.hid hq
    have HR := Lib.hid hr
    have HB := Lib.hid hb
    clear hq hr hb
    have g0 := (HB.out.cell (p := ⟨rb, 0, none⟩) hlt0).trans HC.out.cells.1
    by_cases hlt : i < n
    · have hll : i < S.L.length := by rw [HN.out]; exact hlt
      have hkl : i < (keysL S.L).length := by simpa [keysL] using hll
      have HRD := HC.out.r
      rw [← HN.out] at HRD
      obtain ⟨b, o, rfl, hbl, hcell⟩ := HRD.rd (by rw [prsC_len, HN.out]; omega)
      have c0 := (HB.out.cell (p := ⟨b, o + i * 2, none⟩) hbl).trans (pair_at hcell i hll).1
      have HT : Hid ((keysL S.L).take (i + 1) = (keysL S.L).take i ++ [S.L[i].1]) := Lib.hid (by
        rw [List.take_succ_eq_append_getElem hkl]
        simp [keysL])
      obtain ⟨ky, hky⟩ : ∃ ky, S.L[i].1 = ky := ⟨_, rfl⟩
      rw [hky] at c0 HT
      have hb2 : Below wr.heap.size wr (wr.alloc (.cells #[.int .u32 (ky : Int)] 23)) := (Below.refl _ _).alloc (Nat.le_refl _) _
      have HR2 := Lib.hid (HR.out.up hb2)
      have HB2 := Lib.hid (below_all HB.out hb2)
      have HC2 : Hid ((wr.alloc (.cells #[.int .u32 (ky : Int)] 23)).cell? ⟨wr.heap.size, 0, none⟩ = some (.int .u32 (ky : Int))) := Lib.hid (Blk.cell (T := 23) (cs := [.int .u32 (ky : Int)]) (heap_alloc_new wr _) 0 (by simp))
      obtain ⟨lst, hlst⟩ : ∃ lst, (keysL S.L).take i = lst := ⟨_, rfl⟩
      rw [hlst] at HR2 HT
      have HLT : Hid (lst.length ≤ 1000) := Lib.hid (by rw [← hlst]; simp; omega)
      clear hcell HRD hb2 HR HB hky hlst
      go_wp2_with (first
        | (at_builtin; refine appKey _ rfl (.tmp 15) (.tmp 24) rfl w.heap.size u3 lst ky wr.heap.size 1 rfl HR2.out rfl HC2.out HLT.out HB2.out.size ?_; intro g' cap' w6 ho hg; have HR3 : Hid (KRow w6 w.heap.size _ ((keysL S.L).take (i + 1))) := Lib.hid (by rw [HT.out]; exact ho); have HB3 := Lib.hid (below_grown HB2.out hg (fun k e => HR2.out.block e)); clear ho hg)
        | fail)
      go_roundg (n - (i + 1))
      case rel => exact ⟨i + 1, by omega, rfl, by go_num, HR3.out, HB3.out⟩
      case measure => have := HQ.out; omega
    · obtain rfl : i = n := by omega
      have HE : Hid (∀ v, v = u3 → KeysIs (keysL S.L) w (.returned v) wr) := Lib.hid (fun v hv => by
        subst hv
        have hr := HR.out
        rw [List.take_of_length_le (by simp [keysL]; have := HN.out; omega)] at hr
        have hkl : (keysL S.L).length = S.L.length := by simp [keysL]
        have hr2 : OwnK wr w.heap.size 23 1 v (keysL S.L).length (uC (keysL S.L)) := hr
        obtain ⟨A', c', rfl, h1, _, h2⟩ := hr2.form
        refine ⟨A', c', rfl, ⟨A', c', by rw [uC_len], by rw [uC_len]; exact h1, hr2.rd, fun _ => ?_, h2⟩, HB.out⟩
        intro b o x e
        subst e
        exact hr2.own b rfl)
      clear HR HB
      go_wp2_with fail
      go_ret
      exact HE.out _ rfl
end
end Go.Proofs.YtekaeeckhfghpaaDoor
