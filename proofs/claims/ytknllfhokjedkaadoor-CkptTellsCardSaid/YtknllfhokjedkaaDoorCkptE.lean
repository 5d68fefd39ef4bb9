/-
  platelayerlaw06's own, same and large.
-/
import Derived.Test.YtknllfhokjedkaaDoorCkptC
namespace Go.Proofs.YtknllfhokjedkaaDoor
open Go.RowKit

def ValB (v : Value) (w : World) (r : Ending) (w' : World) : Prop := r = .returned v ∧ Below w.heap.size w w'
theorem own_is (nu se sq z p b : Int) (A : Option Addr) (n c : Nat) (w : World) : Calls Tryd.prog 11 #[kV nu se sq z p b (.slice A n c)] w (ValB (kV nu se sq z p b (.slice A n c)) w) := by
  have HB := Lib.hid (((Below.refl w.heap.size w).alloc (Nat.le_refl _) (.cells (kCells nu se sq z p b (.slice A n c)) 27)).alloc (by simp) (.cells (kCells nu se sq z p b (.slice A n c)) 40))
  go_enter Tryd.func11, Tryd.ntmps11
  go_wp2_with fail
  refine bodyPost_ret (v := kV nu se sq z p b (.slice A n c)) (by simp [results, Tryd.results11, go_sem]) rfl ⟨rfl, ?_⟩
  exact HB.out

/-- Rows of bytes as their values. -/
theorem same_rows_step {l l2 : List (List Int)} {k : Nat} (h1 : k < l.length) (h2 : k < l2.length) (h : l.take k = l2.take k) (he : l[k] = l2[k]) : l.take (k + 1) = l2.take (k + 1) := by
  rw [List.take_succ_eq_append_getElem h1, List.take_succ_eq_append_getElem h2, h, he]
theorem same_rows_no {l l2 : List (List Int)} {k : Nat} (h1 : k < l.length) (h2 : k < l2.length) (he : l[k] ≠ l2[k]) : decide (l = l2) = false := by
  simp only [decide_eq_false_iff_not]
  rintro rfl
  exact he rfl
theorem rows_len {A A2 : Option Addr} {n m c c2 : Nat} {w : World} (h : n ≠ m) : Calls Tryd.prog 16 #[.slice A n c, .slice A2 m c2] w (BoolB false w) := by
  have q : ((n : Int) == (m : Int)) = false := by simp; omega
  go_enter Tryd.func16, Tryd.ntmps16
  go_wp2_with fail
  go_ret
  exact ⟨rfl, Below.refl _ _⟩
set_option maxHeartbeats 1000000 in
theorem rows_eq {A A2 : Option Addr} {n c c2 : Nat} {vs vs2 : List Value} {l l2 : List (List Int)} {w : World} (hl : l.length = n) (hl2 : l2.length = n) (hv : RdV w w.heap.size A vs) (hr : RdR w vs l) (hv2 : RdV w w.heap.size A2 vs2) (hr2 : RdR w vs2 l2) (hn : n ≤ 1000000) (hb : ∀ x ∈ l, x.length ≤ 20000) :
    Calls Tryd.prog 16 #[.slice A n c, .slice A2 n c2] w (BoolB (decide (l = l2)) w) := by
  have HL := Lib.hid hl
  have HL2 := Lib.hid hl2
  have HV := Lib.hid hv
  have HV2 := Lib.hid hv2
  have HR := Lib.hid hr
  have HR2 := Lib.hid hr2
  have HBB := Lib.hid hb
  clear hl hl2 hv hv2 hr hr2 hb
  go_enter Tryd.func16, Tryd.ntmps16
  go_wp2_with fail
  go_loopg [13] n (fun q i wr => ∃ k : Nat, k ≤ n ∧ q = n - k ∧ i = .int .i64 k ∧ l.take k = l2.take k ∧ Below w.heap.size w wr)
  case atStart => exact ⟨0, by omega, by omega, rfl, rfl, Below.refl _ _⟩
  case round =>
    obtain ⟨k, hk, hm, rfl, ht, hb⟩ := hrel
    have HB := Lib.hid hb
    have HM := Lib.hid hm
    have HT := Lib.hid ht
    clear hb hm ht
    by_cases hlt : k < n
    · have hk1 : k < l.length := by rw [HL.out]; exact hlt
      have hk2 : k < l2.length := by rw [HL2.out]; exact hlt
      have hv1 : k < vs.length := by rw [HR.out.1]; exact hk1
      have hv2 : k < vs2.length := by rw [HR2.out.1]; exact hk2
      obtain ⟨A1, d1, e1, hd1, hx1⟩ := HR.out.2 k hv1 hk1
      obtain ⟨A3, d3, e3, hd3, hx3⟩ := HR2.out.2 k hv2 hk2
      obtain ⟨b, o, rfl, hbl, hcell⟩ := HV.out (by omega)
      obtain ⟨b2, o2, rfl, hbl2, hcell2⟩ := HV2.out (by omega)
      have c0 := hcell k hv1
      have c1 := hcell2 k hv2
      rw [e1] at c0
      rw [e3] at c1
      have HC := Lib.hid (And.intro c0 c1)
      have HX := Lib.hid (And.intro hx1 hx3)
      have hbk := HBB.out _ (List.getElem_mem hk1)
      clear hcell hcell2 c0 c1 e1 e3 hx1 hx3
      have HD : Hid (decide (l[k] = l2[k]) = true → l.take (k + 1) = l2.take (k + 1)) := Lib.hid (fun h => same_rows_step hk1 hk2 HT.out (by simpa using h))
      have HD2 : Hid (decide (l[k] = l2[k]) = false → decide (l = l2) = false) := Lib.hid (fun h => same_rows_no hk1 hk2 (by simpa using h))
      generalize l[k] = x at *
      generalize l2[k] = y at *
      go_wp2_with fail
      refine wp_region_in (fun u => Below w.heap.size w u) HB.out.drew (by kernel_rfl) (by kernel_rfl) (fun ne => ?_)
      have c0 := fun q : In (fun u => Below w.heap.size w u) => (q.ok.cell (p := ⟨b, o + k, none⟩) hbl).trans HC.out.1
      have c1 := fun q : In (fun u => Below w.heap.size w u) => (q.ok.cell (p := ⟨b2, o2 + k, none⟩) hbl2).trans HC.out.2
      have sD := fun q : In (fun u => Below w.heap.size w u) => same_is (c := d1) (c2 := d3) (rd_up HX.out.1 q.ok) (rd_up HX.out.2 q.ok) rfl rfl hbk
      obtain ⟨t, ht⟩ : ∃ t, decide (x = y) = t := ⟨_, rfl⟩
      rw [ht] at sD HD HD2
      clear ht
      generalize x.length = lx at *
      generalize y.length = ly at *
      repeat (go_big_quiet_step (first
        | (go_at_call 38; with_reducible exact In.more (fun h1 h2 => below_all h1 h2) (sD _))))
      refine wpQuiet_nil ?_
      intro nq
      have HN := Lib.hid nq.ok
      clear c0 c1 sD
      cases t
      · have HF := Lib.hid (HD2.out rfl)
        go_wp2_with fail
        go_ret
        exact ⟨ret_bool HF.out.symm, HN.out⟩
      · have HS := Lib.hid (HD.out rfl)
        go_wp2_with fail
        go_roundg (n - (k + 1))
        case rel => exact ⟨k + 1, by omega, rfl, by go_num, HS.out, HN.out⟩
        case measure => have := HM.out; omega
    · obtain rfl : k = n := by omega
      have HS : Hid (decide (l = l2) = true) := Lib.hid (by
        have := HT.out
        rw [List.take_of_length_le (by rw [HL.out]; omega), List.take_of_length_le (by rw [HL2.out]; omega)] at this
        simpa using this)
      go_wp2_with fail
      go_ret
      exact ⟨ret_bool HS.out.symm, HB.out⟩
theorem rows_same {v v2 : Value} {l l2 : List (List Int)} {w : World} (h : RowsAt w v l) (h2 : RowsAt w v2 l2) (hn : l.length ≤ 1000000) (hb : ∀ x ∈ l, x.length ≤ 20000) : Calls Tryd.prog 16 #[v, v2] w (BoolB (decide (l = l2)) w) := by
  obtain ⟨A, c, vs, rfl, hc, hv, hr⟩ := h
  obtain ⟨A2, c2, vs2, rfl, hc2, hv2, hr2⟩ := h2
  by_cases hl : l.length = l2.length
  · have := rows_eq (c := c) (c2 := c2) rfl hl.symm hv hr hv2 hr2 hn hb
    rwa [hl] at this ⊢
  · have e : decide (l = l2) = false := by
      simp only [decide_eq_false_iff_not]
      rintro rfl
      exact hl rfl
    rw [e]
    exact rows_len hl

/-- More than is looked at. -/
def largeB (l : List (List Int)) : Bool := decide (40 < l.length) || l.any fun b => decide (100 < b.length)
set_option maxHeartbeats 1000000 in
theorem large_is {v : Value} {l : List (List Int)} {w : World} (h : RowsAt w v l) : Calls Tryd.prog 8 #[v] w (BoolB (largeB l) w) := by
  obtain ⟨A, c, vs, rfl, hc, hv, hr⟩ := h
  obtain ⟨n, hn⟩ : ∃ n, l.length = n := ⟨_, rfl⟩
  have HL := Lib.hid hn
  have HV := Lib.hid hv
  have HR := Lib.hid hr
  clear hv hr
  rw [hn]
  clear hn
  by_cases h1 : 40 < n
  · have HE : Hid (largeB l = true) := Lib.hid (by unfold largeB; rw [HL.out]; simp [h1])
    go_enter Tryd.func8, Tryd.ntmps8
    go_wp2_with fail
    go_ret
    exact ⟨ret_bool HE.out.symm, Below.refl _ _⟩
  · have HE : Hid (largeB l = l.any fun b => decide (100 < b.length)) := Lib.hid (by unfold largeB; rw [HL.out]; simp [h1])
    go_enter Tryd.func8, Tryd.ntmps8
    go_wp2_with fail
    go_loopg [10] n (fun q i wr => ∃ k : Nat, k ≤ n ∧ q = n - k ∧ i = .int .i64 k ∧ (l.take k).any (fun b => decide (100 < b.length)) = false ∧ w = wr)
    case atStart => exact ⟨0, by omega, by omega, rfl, rfl, rfl⟩
    case round =>
      obtain ⟨k, hk, hm, rfl, ht, rfl⟩ := hrel
      have HM := Lib.hid hm
      have HT := Lib.hid ht
      clear hm ht
      by_cases hlt : k < n
      · have hk1 : k < l.length := by rw [HL.out]; exact hlt
        have hv1 : k < vs.length := by rw [HR.out.1]; exact hk1
        obtain ⟨A1, d1, e1, hd1, hx1⟩ := HR.out.2 k hv1 hk1
        obtain ⟨b, o, rfl, hbl, hcell⟩ := HV.out (by omega)
        have c0 := hcell k hv1
        rw [e1] at c0
        have HS : Hid ((l.take (k + 1)).any (fun b => decide (100 < b.length)) = decide (100 < l[k].length)) := Lib.hid (by
          rw [List.take_succ_eq_append_getElem hk1, List.any_append, HT.out]
          simp)
        have HA : Hid (decide (100 < l[k].length) = true → (l.any fun b => decide (100 < b.length)) = true) := Lib.hid (fun h => List.any_eq_true.2 ⟨l[k], List.getElem_mem hk1, h⟩)
        clear hcell e1 hx1
        generalize l[k].length = x at *
        by_cases hx : 100 < x
        · have HF := Lib.hid (HA.out (by simpa using hx))
          go_wp2_with fail
          go_ret
          exact ⟨ret_bool (by rw [HE.out, HF.out]), Below.refl _ _⟩
        · have HF : Hid ((l.take (k + 1)).any (fun b => decide (100 < b.length)) = false) := Lib.hid (by rw [HS.out]; simpa using hx)
          go_wp2_with fail
          go_roundg (n - (k + 1))
          case rel => exact ⟨k + 1, by omega, rfl, by go_num, HF.out, rfl⟩
          case measure => have := HM.out; omega
      · obtain rfl : k = n := by omega
        have HF := Lib.hid HT.out
        rw [List.take_of_length_le (by rw [HL.out]; omega)] at HF
        go_wp2_with fail
        go_ret
        exact ⟨ret_bool (by rw [HE.out, HF.out]), Below.refl _ _⟩
end Go.Proofs.YtknllfhokjedkaaDoor
