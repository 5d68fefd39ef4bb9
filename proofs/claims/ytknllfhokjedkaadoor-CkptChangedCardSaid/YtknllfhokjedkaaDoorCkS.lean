/-
  Package ckpt's whole and empty: slices.ContainsFunc and IndexFunc at a function that reads alone.
-/
import Derived.Test.YtknllfhokjedkaaDoorCkR
namespace Go.Proofs.YtknllfhokjedkaaDoor
open Go.RowKit

theorem wholeA_is {x : List Int} {A : Option Addr} {n c : Nat} {w : World} (hl : x.length = n) : Calls Tryd.prog 46 #[.slice A n c] w (BoolIs (!decide (x.length = 16)) w) := by
  subst hl
  go_enter Tryd.func46, Tryd.ntmps46
  go_wp2_with fail
  go_ret
  refine ⟨ret_bool ?_, rfl⟩
  by_cases h : x.length = 16
  · simp [h]
  · have : ¬ ((x.length : Int) = 16) := by omega
    simp [h, this]
theorem emptyA_is (n : Int) (w : World) : Calls Tryd.prog 50 #[.int .u32 n] w (BoolIs (!decide (n = 0)) w) := by
  go_enter Tryd.func50, Tryd.ntmps50
  go_wp2_with fail
  go_ret
  refine ⟨ret_bool ?_, rfl⟩
  by_cases h : n = 0
  · simp [h]
  · simp [h]

/-- All rows have sixteen, up to k. -/
theorem all16_step {l : List (List Int)} {k : Nat} (hk : k < l.length) (h : (l.take k).all (fun b => decide (b.length = 16)) = true) (h2 : l[k].length = 16) : (l.take (k + 1)).all (fun b => decide (b.length = 16)) = true := by
  rw [List.take_succ_eq_append_getElem hk, List.all_append, h]
  simp [h2]
theorem all16_no {l : List (List Int)} {k : Nat} (hk : k < l.length) (h2 : ¬ l[k].length = 16) : l.all (fun b => decide (b.length = 16)) = false := by
  rw [Bool.eq_false_iff]
  intro h
  exact h2 (by simpa using List.all_eq_true.1 h _ (List.getElem_mem hk))
theorem all0_step {l : List Int} {k : Nat} (hk : k < l.length) (h : (l.take k).all (fun b => decide (b = 0)) = true) (h2 : l[k] = 0) : (l.take (k + 1)).all (fun b => decide (b = 0)) = true := by
  rw [List.take_succ_eq_append_getElem hk, List.all_append, h]
  simp [h2]
theorem all0_no {l : List Int} {k : Nat} (hk : k < l.length) (h2 : ¬ l[k] = 0) : l.all (fun b => decide (b = 0)) = false := by
  rw [Bool.eq_false_iff]
  intro h
  exact h2 (by simpa using List.all_eq_true.1 h _ (List.getElem_mem hk))

/-- The first one that isn't so: its number; none: -1. -/
def IdxIs (t : Bool) (w : World) (r : Ending) (w' : World) : Prop := (∃ i : Int, r = .returned (.int .i64 i) ∧ (decide (0 ≤ i)) = !t) ∧ Below w.heap.size w w'
set_option maxHeartbeats 1000000 in
theorem idxR_is {A : Option Addr} {n c : Nat} {vs : List Value} {l : List (List Int)} {w : World} (hl : l.length = n) (hv : RdV w w.heap.size A vs) (hr : RdR w vs l) (hn : n ≤ 1000000) :
    Calls Tryd.prog 60 #[.slice A n c, .func (.func 46) #[] #[]] w (IdxIs (l.all fun b => decide (b.length = 16)) w) := by
  have HL := Lib.hid hl
  have HV := Lib.hid hv
  have HR := Lib.hid hr
  clear hl hv hr
  go_enter Tryd.func60, Tryd.ntmps60
  go_wp2_with fail
  go_loopg [8] n (fun q i wr => ∃ k : Nat, k ≤ n ∧ q = n - k ∧ i = .int .i64 k ∧ (l.take k).all (fun b => decide (b.length = 16)) = true ∧ Below w.heap.size w wr)
  case atStart => exact ⟨0, by omega, by omega, rfl, rfl, Below.refl _ _⟩
  case round =>
    obtain ⟨k, hk, hm, rfl, ht, hb⟩ := hrel
    have HB := Lib.hid hb
    have HM := Lib.hid hm
    have HT := Lib.hid ht
    clear hb hm ht
    by_cases hlt : k < n
    · have hk1 : k < l.length := by rw [HL.out]; exact hlt
      have hv1 : k < vs.length := by rw [HR.out.1]; exact hk1
      obtain ⟨A1, d1, e1, hd1, hx1⟩ := HR.out.2 k hv1 hk1
      obtain ⟨b, o, rfl, hbl, hcell⟩ := (HV.out.below HB.out) (by omega)
      have c0 := hcell k hv1
      rw [e1] at c0
      clear hcell e1 hx1
      have HD : Hid (l[k].length = 16 → (l.take (k + 1)).all (fun b => decide (b.length = 16)) = true) := Lib.hid (fun h => all16_step hk1 HT.out h)
      have HD2 : Hid (¬ l[k].length = 16 → l.all (fun b => decide (b.length = 16)) = false) := Lib.hid (fun h => all16_no hk1 h)
      generalize l[k] = x at *
      go_wp2_with fail
      refine (wholeA_is (x := x) rfl).mono ?_
      rintro r w' ⟨rfl, rfl⟩
      by_cases h16 : x.length = 16
      · have HS := Lib.hid (HD.out h16)
        have q : (!decide (x.length = 16)) = false := by simp [h16]
        rw [q]
        clear HD HD2 h16 q
        go_wp2_with fail
        go_roundg (n - (k + 1))
        case rel => exact ⟨k + 1, by omega, rfl, by go_num, HS.out, HB.out⟩
        case measure => have := HM.out; omega
      · have HS := Lib.hid (HD2.out h16)
        have q : (!decide (x.length = 16)) = true := by simp [h16]
        rw [q]
        clear HD HD2 h16 q
        go_wp2_with fail
        go_ret
        exact ⟨⟨_, rfl, by rw [HS.out]; simp⟩, HB.out⟩
    · obtain rfl : k = n := by omega
      have HS : Hid (l.all (fun b => decide (b.length = 16)) = true) := Lib.hid (by
        have := HT.out
        rwa [List.take_of_length_le (by rw [HL.out]; omega)] at this)
      go_wp2_with fail
      go_ret
      exact ⟨⟨_, rfl, by rw [HS.out]; rfl⟩, HB.out⟩
set_option maxHeartbeats 1000000 in
theorem idxN_is {A : Option Addr} {n c : Nat} {l : List Int} {w : World} (hl : l.length = n) (hv : RdV w w.heap.size A (u32s l)) (hn : n ≤ 1000000) :
    Calls Tryd.prog 64 #[.slice A n c, .func (.func 50) #[] #[]] w (IdxIs (l.all fun b => decide (b = 0)) w) := by
  have HL := Lib.hid hl
  have HV := Lib.hid hv
  clear hl hv
  go_enter Tryd.func64, Tryd.ntmps64
  go_wp2_with fail
  go_loopg [8] n (fun q i wr => ∃ k : Nat, k ≤ n ∧ q = n - k ∧ i = .int .i64 k ∧ (l.take k).all (fun b => decide (b = 0)) = true ∧ Below w.heap.size w wr)
  case atStart => exact ⟨0, by omega, by omega, rfl, rfl, Below.refl _ _⟩
  case round =>
    obtain ⟨k, hk, hm, rfl, ht, hb⟩ := hrel
    have HB := Lib.hid hb
    have HM := Lib.hid hm
    have HT := Lib.hid ht
    clear hb hm ht
    by_cases hlt : k < n
    · have hk1 : k < l.length := by rw [HL.out]; exact hlt
      obtain ⟨b, o, rfl, hbl, hcell⟩ := (HV.out.below HB.out) (by rw [u32s_len]; omega)
      have c0 := hcell k (by rw [u32s_len]; omega)
      rw [u32s_get] at c0
      clear hcell
      have HD : Hid (l[k] = 0 → (l.take (k + 1)).all (fun b => decide (b = 0)) = true) := Lib.hid (fun h => all0_step hk1 HT.out h)
      have HD2 : Hid (¬ l[k] = 0 → l.all (fun b => decide (b = 0)) = false) := Lib.hid (fun h => all0_no hk1 h)
      generalize l[k] = x at *
      go_wp2_with fail
      refine (emptyA_is x _).mono ?_
      rintro r w' ⟨rfl, rfl⟩
      by_cases h16 : x = 0
      · have HS := Lib.hid (HD.out h16)
        have q : (!decide (x = 0)) = false := by simp [h16]
        rw [q]
        clear HD HD2 h16 q
        go_wp2_with fail
        go_roundg (n - (k + 1))
        case rel => exact ⟨k + 1, by omega, rfl, by go_num, HS.out, HB.out⟩
        case measure => have := HM.out; omega
      · have HS := Lib.hid (HD2.out h16)
        have q : (!decide (x = 0)) = true := by simp [h16]
        rw [q]
        clear HD HD2 h16 q
        go_wp2_with fail
        go_ret
        exact ⟨⟨_, rfl, by rw [HS.out]; simp⟩, HB.out⟩
    · obtain rfl : k = n := by omega
      have HS : Hid (l.all (fun b => decide (b = 0)) = true) := Lib.hid (by
        have := HT.out
        rwa [List.take_of_length_le (by rw [HL.out]; omega)] at this)
      go_wp2_with fail
      go_ret
      exact ⟨⟨_, rfl, by rw [HS.out]; rfl⟩, HB.out⟩
theorem hasR_is {A : Option Addr} {n c : Nat} {vs : List Value} {l : List (List Int)} {w : World} (hl : l.length = n) (hv : RdV w w.heap.size A vs) (hr : RdR w vs l) (hn : n ≤ 1000000) :
    Calls Tryd.prog 45 #[.slice A n c, .func (.func 46) #[] #[]] w (BoolB (!(l.all fun b => decide (b.length = 16))) w) := by
  have HL := Lib.hid hl
  have HV := Lib.hid hv
  have HR := Lib.hid hr
  clear hl hv hr
  go_enter Tryd.func45, Tryd.ntmps45
  go_wp2_with fail
  refine (idxR_is HL.out HV.out HR.out hn).mono ?_
  rintro r w' ⟨⟨i, rfl, hi⟩, hb⟩
  have HB := Lib.hid hb
  have HI := Lib.hid hi
  clear hb hi
  go_wp2_with fail
  go_ret
  exact ⟨ret_bool (by rw [← HI.out]), HB.out⟩
theorem hasN_is {A : Option Addr} {n c : Nat} {l : List Int} {w : World} (hl : l.length = n) (hv : RdV w w.heap.size A (u32s l)) (hn : n ≤ 1000000) :
    Calls Tryd.prog 49 #[.slice A n c, .func (.func 50) #[] #[]] w (BoolB (!(l.all fun b => decide (b = 0))) w) := by
  have HL := Lib.hid hl
  have HV := Lib.hid hv
  clear hl hv
  go_enter Tryd.func49, Tryd.ntmps49
  go_wp2_with fail
  refine (idxN_is HL.out HV.out hn).mono ?_
  rintro r w' ⟨⟨i, rfl, hi⟩, hb⟩
  have HB := Lib.hid hb
  have HI := Lib.hid hi
  clear hb hi
  go_wp2_with fail
  go_ret
  exact ⟨ret_bool (by rw [← HI.out]), HB.out⟩
theorem whole16_is {A : Option Addr} {n c : Nat} {vs : List Value} {l : List (List Int)} {w : World} (hl : l.length = n) (hv : RdV w w.heap.size A vs) (hr : RdR w vs l) (hn : n ≤ 1000000) :
    Calls Tryd.prog 27 #[.slice A n c] w (BoolB (l.all fun b => decide (b.length = 16)) w) := by
  obtain ⟨t, ht⟩ : ∃ t, (l.all fun b => decide (b.length = 16)) = t := ⟨_, rfl⟩
  rw [ht]
  have HT := Lib.hid ht
  clear ht
  have HL := Lib.hid hl
  have HV := Lib.hid hv
  have HR := Lib.hid hr
  clear hl hv hr
  go_enter Tryd.func27, Tryd.ntmps27
  go_wp2_with fail
  refine (hasR_is HL.out HV.out HR.out hn).mono ?_
  rintro r w' ⟨rfl, hb⟩
  have HB := Lib.hid hb
  clear hb
  rw [HT.out]
  go_wp2_with fail
  go_ret
  exact ⟨ret_bool (by simp), HB.out⟩
theorem empty0_is {A : Option Addr} {n c : Nat} {l : List Int} {w : World} (hl : l.length = n) (hv : RdV w w.heap.size A (u32s l)) (hn : n ≤ 1000000) :
    Calls Tryd.prog 33 #[.slice A n c] w (BoolB (l.all fun b => decide (b = 0)) w) := by
  obtain ⟨t, ht⟩ : ∃ t, (l.all fun b => decide (b = 0)) = t := ⟨_, rfl⟩
  rw [ht]
  have HT := Lib.hid ht
  clear ht
  have HL := Lib.hid hl
  have HV := Lib.hid hv
  clear hl hv
  go_enter Tryd.func33, Tryd.ntmps33
  go_wp2_with fail
  refine (hasN_is HL.out HV.out hn).mono ?_
  rintro r w' ⟨rfl, hb⟩
  have HB := Lib.hid hb
  clear hb
  rw [HT.out]
  go_wp2_with fail
  go_ret
  exact ⟨ret_bool (by simp), HB.out⟩
end Go.Proofs.YtknllfhokjedkaaDoor
