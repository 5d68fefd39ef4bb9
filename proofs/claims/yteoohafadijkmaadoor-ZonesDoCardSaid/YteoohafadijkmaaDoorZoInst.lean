/-
  The landed table's calls that change it: Close, Give; New; the bundle's instance. Written by gen/zou.py.
-/
import Derived.Test.YteoohafadijkmaaDoorZoT
import Derived.Test.YteoohafadijkmaaDoorTaOps
namespace Go.Proofs.YteoohafadijkmaaDoor
open Go.RowKit

section
variable {F : Nat → Prop} {w : World} {tb : Nat} {T : TaS}
set_option maxHeartbeats 2000000 in
set_option maxRecDepth 100000 in
theorem zoclose_at (z : Int) (h : ZoD F w tb T) (hn : T.done.length ≤ 100000) : Calls Tryd.prog 19 #[.pointer (some ⟨tb, 0, none⟩), .int .i64 z] w (TDone ZoD F tb (.bool (T.closeB z)) (T.closeS z) w) := by
  have HO := Lib.hid (zoisopen_at z h)
  obtain ⟨hw, hd, v1, v2, hm⟩ := h
  have HM := Lib.hid hm
  by_cases hz : T.stA z = 1
  · have e1 : T.closeB z = true := by unfold TaS.closeB; simpa using hz
    have HE : Hid (∀ w1 w2 w3 w4, Below w.heap.size w w1 → Kept F w1 w2 → Below w2.heap.size w2 w3 → ZtTo F tb T.st.length (.tuple #[]) T.row (T.es ++ [(z, T.done.length + 1)]) (T.done.length + 1) w3 (.returned (.tuple #[])) w4 → TDone ZoD F tb (.bool true) (T.closeS z) w (.returned (.bool true)) w4) := Lib.hid (fun w1 w2 w3 w4 h1 h2 h3 h4 => by
      obtain ⟨_, ⟨u1, u2, hu⟩, hk⟩ := h4
      have hK : Kept F w w4 := (((Kept.of_below h1).and h2).and (Kept.of_below h3)).and hk
      have hdone : (T.closeS z).done.length = T.done.length + 1 := by unfold TaS.closeS; rw [if_pos hz]; simp
      have hst : (T.closeS z).st.length = T.st.length := by unfold TaS.closeS; rw [if_pos hz]; simp
      have hrow : (T.closeS z).row = T.row := by unfold TaS.closeS; rw [if_pos hz]
      have hs1 := h1.size
      have hs2 := h2.size
      have hs3 := h3.size
      refine ⟨rfl, ⟨hw.close z, by rw [hdone]; omega, u1, u2, ?_⟩, hK⟩
      rw [hdone, hst, hrow, TaS.close_es hz]
      refine ⟨.inl hm.fb, fun k hk2 => hk2.elim (fun h => Nat.lt_of_lt_of_le (hm.lt k h) hK.size) (fun h => h.2), hu.b, hu.r1, hu.r2, fun j e => ?_, fun j e => ?_, hu.ap⟩
      · obtain ⟨a, b⟩ := hu.o1 j e
        exact ⟨a.elim .inl (fun h => .inr ⟨by omega, h.2⟩), b⟩
      · obtain ⟨a, b⟩ := hu.o2 j e
        exact ⟨a.elim .inl (fun h => .inr ⟨by omega, h.2⟩), b⟩)
    have HJ : Hid (∀ w1, Below w.heap.size w w1 → (w1.cell? ⟨tb, 5, none⟩ = some (.int .u32 (T.done.length : Int)) ∧ w1.frozen? ⟨tb, 5, none⟩ = false) ∧ Kept F w1 (w1.setCell ⟨tb, 5, none⟩ (.int .u32 ((T.done.length + 1 : Nat) : Int))) ∧ ∀ w3, Below (w1.setCell ⟨tb, 5, none⟩ (.int .u32 ((T.done.length + 1 : Nat) : Int))).heap.size (w1.setCell ⟨tb, 5, none⟩ (.int .u32 ((T.done.length + 1 : Nat) : Int))) w3 → w3.cell? ⟨tb, 5, none⟩ = some (.int .u32 ((T.done.length + 1 : Nat) : Int)) ∧ Calls Tryd.prog 35 #[.pointer (some ⟨tb, 3, none⟩), .agg #[.int .i64 z, .int .u32 ((T.done.length + 1 : Nat) : Int)]] w3 (ZtTo F tb T.st.length (.tuple #[]) T.row (T.es ++ [(z, T.done.length + 1)]) (T.done.length + 1) w3)) := Lib.hid (fun w1 h1 => by
      have hm1 := hm.up h1
      obtain ⟨q1, q2⟩ := hm1.tick (T.done.length + 1)
      refine ⟨⟨hm1.cells.2.2.2.2.2, hm1.b.free 5⟩, q2, fun w3 h3 => ?_⟩
      have hm3 := q1.up h3
      exact ⟨hm3.cells.2.2.2.2.2, zojoinE_at z (T.done.length + 1) hm3 (ZoD.es_le hw)⟩)
    rw [e1] at HO
    have hwr : IntKind.u32.wrap ((T.done.length : Int) + 1) = ((T.done.length + 1 : Nat) : Int) := by
      rw [IntWalk.u32_in _ (by omega)]
      omega
    obtain ⟨q, hq⟩ : ∃ q : Nat, T.done.length = q := ⟨_, rfl⟩
    rw [hq] at HE HJ hwr
    have hqc : ((q + 1 : Nat) : Int) = (q : Int) + 1 := by omega
    rw [hqc] at hwr
    clear hm hw hd hz hn hq HM
    rw [e1]
    clear e1
    go_enter Tryd.func19, Tryd.ntmps19
    go_wp2_with fail
    refine HO.out.mono ?_
    rintro r w1 ⟨rfl, hb⟩
    obtain ⟨⟨y5, f5⟩, hk, hj⟩ := HJ.out w1 hb
    rw [hqc] at hk hj
    have HJ2 := Lib.hid hj
    have HE2 := Lib.hid (fun w3 w4 h3 h4 => HE.out w1 _ w3 w4 hb hk h3 h4)
    obtain ⟨w2, hw2⟩ : ∃ u, w1.setCell ⟨tb, 5, none⟩ (.int .u32 ((q : Int) + 1)) = u := ⟨_, rfl⟩
    rw [hw2] at HJ2 HE2
    clear hb hk hj HJ HE HO
    go_wp2_with fail
    clear hw2 y5 f5
    refine wp_region_held_drew (S := fun u => u.cell? ⟨tb, 5, none⟩ = some (.int .u32 ((q : Int) + 1))) (by kernel_rfl) ((HJ2.out _ (Below.refl _ _).drew).1) (fun hHeld => ?_)
    show wpAnyH _ _ _ _ _ 10 _ _ _
    refine wpAnyH_take (i := 0) (v := ?_) rfl (by kernel_rfl) (by kernel_rfl) (by kernel_rfl) (fun _ _ _ h => h) (Or.inl ⟨by rfl, ?_⟩) hHeld ?_
    rotate_left
    · intro u hSu
      obtain hSu := hSu
      go_simp
      try with_reducible rfl
    try simp only [Act.put, List.setIfInBounds_toArray, List.set_cons_zero, List.set_cons_succ, List.getElem_toArray, List.getElem_cons_zero, List.getElem_cons_succ]
    refine wpAnyH_take (i := 1) (v := ?_) rfl (by kernel_rfl) (by kernel_rfl) (by kernel_rfl) (fun _ _ _ h => h) (Or.inl ⟨by rfl, ?_⟩) hHeld ?_
    rotate_left
    · intro u hSu
      obtain hSu := hSu
      go_simp
      try with_reducible rfl
    try simp only [Act.put, List.setIfInBounds_toArray, List.set_cons_zero, List.set_cons_succ, List.getElem_toArray, List.getElem_cons_zero, List.getElem_cons_succ]
    refine wpAnyH_take (i := 2) (v := ?_) rfl (by kernel_rfl) (by kernel_rfl) (by kernel_rfl) (fun _ _ _ h => h) (Or.inl ⟨by rfl, ?_⟩) hHeld ?_
    rotate_left
    · intro u hSu
      obtain hSu := hSu
      go_simp
      try with_reducible rfl
    try simp only [Act.put, List.setIfInBounds_toArray, List.set_cons_zero, List.set_cons_succ, List.getElem_toArray, List.getElem_cons_zero, List.getElem_cons_succ]
    refine wpAnyH_take (i := 3) (v := ?_) rfl (by kernel_rfl) (by kernel_rfl) (by kernel_rfl) (fun _ _ _ h => h) (Or.inl ⟨by rfl, ?_⟩) hHeld ?_
    rotate_left
    · intro u hSu
      obtain hSu := hSu
      go_simp
      try with_reducible rfl
    try simp only [Act.put, List.setIfInBounds_toArray, List.set_cons_zero, List.set_cons_succ, List.getElem_toArray, List.getElem_cons_zero, List.getElem_cons_succ]
    refine wpAnyH_take (i := 4) (v := ?_) rfl (by kernel_rfl) (by kernel_rfl) (by kernel_rfl) (fun _ _ _ h => h) (Or.inl ⟨by rfl, ?_⟩) hHeld ?_
    rotate_left
    · intro u hSu
      obtain hSu := hSu
      go_simp
      try with_reducible rfl
    try simp only [Act.put, List.setIfInBounds_toArray, List.set_cons_zero, List.set_cons_succ, List.getElem_toArray, List.getElem_cons_zero, List.getElem_cons_succ]
    refine wpAnyH_take (i := 5) (v := ?_) rfl (by kernel_rfl) (by kernel_rfl) (by kernel_rfl) (fun _ _ _ h => h) (Or.inl ⟨by rfl, ?_⟩) hHeld ?_
    rotate_left
    · intro u hSu
      obtain hSu := hSu
      go_simp
      try with_reducible rfl
    try simp only [Act.put, List.setIfInBounds_toArray, List.set_cons_zero, List.set_cons_succ, List.getElem_toArray, List.getElem_cons_zero, List.getElem_cons_succ]
    refine wpAnyH_take (i := 6) (v := ?_) rfl (by kernel_rfl) (by kernel_rfl) (by kernel_rfl) (fun _ _ _ h => h) (Or.inl ⟨by rfl, ?_⟩) hHeld ?_
    rotate_left
    · intro u hSu
      obtain hSu := hSu
      go_simp
      try with_reducible rfl
    try simp only [Act.put, List.setIfInBounds_toArray, List.set_cons_zero, List.set_cons_succ, List.getElem_toArray, List.getElem_cons_zero, List.getElem_cons_succ]
    refine wpAnyH_take (i := 7) (v := ?_) rfl (by kernel_rfl) (by kernel_rfl) (by kernel_rfl) (fun _ _ _ h => h) (Or.inl ⟨by rfl, ?_⟩) hHeld ?_
    rotate_left
    · intro u hSu
      obtain hSu := hSu
      go_simp
      try with_reducible rfl
    try simp only [Act.put, List.setIfInBounds_toArray, List.set_cons_zero, List.set_cons_succ, List.getElem_toArray, List.getElem_cons_zero, List.getElem_cons_succ]
    refine wpAnyH_take (i := 8) (v := ?_) rfl (by kernel_rfl) (by kernel_rfl) (by kernel_rfl) (fun _ _ _ h => h) (Or.inl ⟨by rfl, ?_⟩) hHeld ?_
    rotate_left
    · intro u hSu
      obtain hSu := hSu
      go_simp
      try with_reducible rfl
    try simp only [Act.put, List.setIfInBounds_toArray, List.set_cons_zero, List.set_cons_succ, List.getElem_toArray, List.getElem_cons_zero, List.getElem_cons_succ]
    refine wpAnyH_ready (rs := [9]) (by kernel_rfl) (by simp) ?_
    refine (AllReadyH.cons rfl (fun K hK => ?_) AllReadyH.nil)
    go_simp
    refine (HJ2.out _ (Below.refl _ _).drew).2.mono ?_
    rintro r w4 h4
    have HE3 := Lib.hid (HE2.out _ w4 (Below.refl _ _).drew (by obtain ⟨rfl, h5⟩ := h4; exact ⟨rfl, h5⟩))
    obtain ⟨rfl, ⟨u1, u2, hu⟩, _⟩ := h4
    have hc5 := hu.cells.2.2.2.2.2
    rw [hqc] at hc5
    have HC5 := Lib.hid hc5
    clear hu hc5
    refine hK.out _ _ ?_ (fun hHeld2 => ?_)
    · exact HC5.out
    clear hK K hHeld
    have hHeld := hHeld2
    clear hHeld2
    try simp only [Act.put, List.setIfInBounds_toArray, List.set_cons_zero, List.set_cons_succ, List.getElem_toArray, List.getElem_cons_zero, List.getElem_cons_succ]
    refine wpAnyH_done (by kernel_rfl) ?_ _
    go_wp2_with fail
    go_ret
    exact HE3.out
  · have e1 : T.closeB z = false := by unfold TaS.closeB; simpa using hz
    have HE : Hid (∀ w1, Below w.heap.size w w1 → TDone ZoD F tb (.bool false) (T.closeS z) w (.returned (.bool false)) w1) := Lib.hid (fun w1 h1 => by
      have e3 : T.closeS z = T := by unfold TaS.closeS; rw [if_neg hz]
      rw [e3]
      exact ⟨rfl, ⟨hw, hd, v1, v2, hm.grown h1⟩, Kept.of_below h1⟩)
    rw [e1] at HO
    clear hm hw hd hz hn HM
    rw [e1]
    clear e1
    go_enter Tryd.func19, Tryd.ntmps19
    go_wp2_with fail
    refine HO.out.mono ?_
    rintro r w1 ⟨rfl, hb⟩
    have HE2 := Lib.hid (HE.out w1 hb)
    clear hb HE HO
    go_wp2_with fail
    go_ret
    exact HE2.out
set_option maxHeartbeats 4000000 in
set_option maxRecDepth 100000 in
theorem zogive_at (z : Int) (h : ZoD F w tb T) : Calls Tryd.prog 20 #[.pointer (some ⟨tb, 0, none⟩), .int .i64 z] w (TDone ZoD F tb (.bool (T.giveB z)) (T.giveS z) w) := by
  have HO := Lib.hid (zoisopen_at z h)
  obtain ⟨hw, hd, v1, v2, hm⟩ := h
  have hes : T.es.filter (fun e => decide (e.1 ≠ z)) = T.es ∨ T.stA z = 2 := by
    by_cases h2 : T.stA z = 2
    · exact .inr h2
    · exact .inl (filter_out (fun (e : Int × Nat) => e.1) (by rw [TaS.es_fst, TaS.closed_mem hw]; exact h2))
  have hmem : z ∈ T.es.map (·.1) ↔ T.stA z = 2 := by rw [TaS.es_fst]; exact TaS.closed_mem hw z
  by_cases hz : T.stA z = 0
  · have e1 : T.giveB z = false := by unfold TaS.giveB; simpa using hz
    have e2 : T.closeB z = false := by unfold TaS.closeB; simp [hz]
    have hno : decide (z ∈ T.es.map (·.1)) = false := decide_eq_false (fun h => by have := hmem.1 h; omega)
    have HL : Hid (∀ w1, Below w.heap.size w w1 → Calls Tryd.prog 36 #[.pointer (some ⟨tb, 3, none⟩), .int .i64 z] w1 (fun r w2 => r = .returned (.bool false) ∧ TDone ZoD F tb (.bool false) (T.giveS z) w (.returned (.bool false)) w2)) := Lib.hid (fun w1 h1 => by
      refine (zoleaveE_at z (hm.up h1) (TaS.es_nd T) (ZoD.es_le hw)).mono fun r w2 h2 => ?_
      obtain ⟨rfl, ⟨u1, u2, hu⟩, hk⟩ := h2
      rw [hno]
      have e3 : T.giveS z = T := by unfold TaS.giveS; rw [if_pos hz]
      rw [e3]
      rcases hes with he | he
      · rw [he] at hu
        have hs1 := h1.size
        have hs2 := hk.size
        refine ⟨rfl, rfl, ⟨hw, hd, u1, u2, ?_⟩, (Kept.of_below h1).and hk⟩
        refine ⟨.inl hm.fb, fun k hk2 => hk2.elim (fun h => Nat.lt_of_lt_of_le (hm.lt k h) (Nat.le_trans hs1 hs2)) (fun h => h.2), hu.b, hu.r1, hu.r2, fun j e => ?_, fun j e => ?_, hu.ap⟩
        · obtain ⟨a, b⟩ := hu.o1 j e
          exact ⟨a.elim .inl (fun h => .inr ⟨by omega, h.2⟩), b⟩
        · obtain ⟨a, b⟩ := hu.o2 j e
          exact ⟨a.elim .inl (fun h => .inr ⟨by omega, h.2⟩), b⟩
      · omega)
    rw [e2] at HO
    rw [e1]
    clear hm hw hd hz hes hmem hno e1 e2
    go_enter Tryd.func20, Tryd.ntmps20
    go_wp2_with fail
    refine HO.out.mono ?_
    rintro r w1 ⟨rfl, hb⟩
    have HL2 := Lib.hid (HL.out w1 hb)
    clear hb HL HO
    go_wp2_with fail
    refine HL2.out.mono ?_
    rintro r w2 ⟨rfl, he⟩
    have HE := Lib.hid he
    clear he HL2
    go_wp2_with fail
    go_ret
    exact HE.out
  · have e1 : T.giveB z = true := by unfold TaS.giveB; simpa using hz
    have HE : Hid (∀ w1 w2, Kept F w w1 → ZtTo (grow F w w1) tb T.st.length (.tuple #[]) (T.row ++ [z]) (T.es.filter (fun e => decide (e.1 ≠ z))) T.done.length w1 (.returned (.tuple #[])) w2 → TDone ZoD F tb (.bool true) (T.giveS z) w (.returned (.bool true)) w2) := Lib.hid (fun w1 w2 h1 h2 => by
      obtain ⟨_, ⟨u1, u2, hu⟩, hk⟩ := h2
      have hK : Kept F w w2 := h1.trans hk
      have hdone : (T.giveS z).done = T.done := by unfold TaS.giveS; rw [if_neg hz]
      have hst : (T.giveS z).st.length = T.st.length := by unfold TaS.giveS; rw [if_neg hz]; simp
      have hrow : (T.giveS z).row = T.row ++ [z] := by unfold TaS.giveS; rw [if_neg hz]
      refine ⟨rfl, ⟨hw.give z, by rw [hdone]; exact hd, u1, u2, ?_⟩, hK⟩
      rw [hdone, hst, hrow, TaS.give_es hz]
      exact hu.re (grow_grow h1.size hk.size))
    have HJ : Hid (∀ w1, Kept F w w1 → (∃ u1 u2, ZtM (grow F w w1) w1 tb T.st.length u1 u2 T.row (T.es.filter (fun e => decide (e.1 ≠ z))) T.done.length) → Calls Tryd.prog 23 #[.pointer (some ⟨tb, 1, none⟩), .int .i64 z] w1 (fun r w2 => r = .returned (.tuple #[]) ∧ TDone ZoD F tb (.bool true) (T.giveS z) w (.returned (.bool true)) w2)) := Lib.hid (fun w1 h1 ⟨u1, u2, hu⟩ => by
      refine (zojoinI_at z hu (ZoD.row_le hw)).mono fun r w2 h2 => ⟨h2.1, HE.out w1 w2 h1 ⟨rfl, h2.2⟩⟩)
    rw [e1]
    by_cases h1 : T.stA z = 1
    · have e2 : T.closeB z = true := by unfold TaS.closeB; simp [h1]
      have HJ2 : Hid (∀ w1, Below w.heap.size w w1 → Calls Tryd.prog 23 #[.pointer (some ⟨tb, 1, none⟩), .int .i64 z] w1 (fun r w2 => r = .returned (.tuple #[]) ∧ TDone ZoD F tb (.bool true) (T.giveS z) w (.returned (.bool true)) w2)) := Lib.hid (fun w1 hb => HJ.out w1 (Kept.of_below hb) ⟨v1, v2, by
        rcases hes with he | he
        · rw [he]
          exact hm.grown hb
        · omega⟩)
      rw [e2] at HO
      clear hm hw hd hz hes hmem e1 e2 HE HJ h1
      go_enter Tryd.func20, Tryd.ntmps20
      go_wp2_with fail
      refine HO.out.mono ?_
      rintro r w1 ⟨rfl, hb⟩
      have HJ3 := Lib.hid (HJ2.out w1 hb)
      clear hb HJ2 HO
      go_wp2_with fail
      refine HJ3.out.mono ?_
      rintro r w2 ⟨rfl, he⟩
      have HE := Lib.hid he
      clear he HJ3
      go_wp2_with fail
      go_ret
      exact HE.out
    · have h2 : T.stA z = 2 := by
        rcases hw.st z with e | e | e
        · exact absurd e hz
        · exact absurd e h1
        · exact e
      have e2 : T.closeB z = false := by unfold TaS.closeB; simp [h2]
      have hyes : decide (z ∈ T.es.map (·.1)) = true := decide_eq_true (hmem.2 h2)
      have HL : Hid (∀ w1, Below w.heap.size w w1 → Calls Tryd.prog 36 #[.pointer (some ⟨tb, 3, none⟩), .int .i64 z] w1 (fun r w2 => r = .returned (.bool true) ∧ Kept F w w2 ∧ ∃ u1 u2, ZtM (grow F w w2) w2 tb T.st.length u1 u2 T.row (T.es.filter (fun e => decide (e.1 ≠ z))) T.done.length)) := Lib.hid (fun w1 hb => by
        refine (zoleaveE_at z (hm.up hb) (TaS.es_nd T) (ZoD.es_le hw)).mono fun r w2 h2 => ?_
        obtain ⟨rfl, ⟨u1, u2, hu⟩, hk⟩ := h2
        rw [hyes]
        have hs1 := hb.size
        have hs2 := hk.size
        refine ⟨rfl, (Kept.of_below hb).and hk, u1, u2, ?_⟩
        refine ⟨.inl hm.fb, fun k hk2 => hk2.elim (fun h => Nat.lt_of_lt_of_le (hm.lt k h) (Nat.le_trans hs1 hs2)) (fun h => h.2), hu.b, hu.r1, hu.r2, fun j e => ?_, fun j e => ?_, hu.ap⟩
        · obtain ⟨a, b⟩ := hu.o1 j e
          exact ⟨a.elim .inl (fun h => .inr ⟨by omega, h.2⟩), b⟩
        · obtain ⟨a, b⟩ := hu.o2 j e
          exact ⟨a.elim .inl (fun h => .inr ⟨by omega, h.2⟩), b⟩)
      rw [e2] at HO
      clear hm hw hd hz hes hmem hyes e1 e2 HE h1 h2
      go_enter Tryd.func20, Tryd.ntmps20
      go_wp2_with fail
      refine HO.out.mono ?_
      rintro r w1 ⟨rfl, hb⟩
      have HL2 := Lib.hid (HL.out w1 hb)
      clear hb HL HO
      go_wp2_with fail
      refine HL2.out.mono ?_
      rintro r w2 ⟨rfl, hk, hu⟩
      have HJ3 := Lib.hid (HJ.out w2 hk hu)
      clear hk hu HL2 HJ
      go_wp2_with fail
      refine HJ3.out.mono ?_
      rintro r w3 ⟨rfl, he⟩
      have HE := Lib.hid he
      clear he HJ3
      go_wp2_with fail
      go_ret
      exact HE.out
end
theorem es_new (n : Nat) : (TaS.new n).es = [] := rfl
theorem range_one (k : Nat) : (List.range (k + 1)).map (fun (i : Nat) => (i : Int)) = (List.range k).map (fun (i : Nat) => (i : Int)) ++ [(k : Int)] := by
  rw [List.range_succ, List.map_append]
  rfl
set_option maxHeartbeats 2000000 in
set_option maxRecDepth 100000 in
theorem zonew_at {w : World} (n : Int) : Calls Tryd.prog 5 #[.int .i64 n] w (TMade ErrOne ZoD n w) := by
  by_cases hn : 1 ≤ n ∧ n ≤ 24
  · obtain ⟨m, rfl⟩ : ∃ m : Nat, n = (m : Int) := ⟨n.toNat, by omega⟩
    have hm1 : 1 ≤ m := by omega
    have hm2 : m ≤ 24 := by omega
    have d1 : decide ((m : Int) < 1) = false := by simp; omega
    have d2 : decide ((24 : Int) < (m : Int)) = false := by simp; omega
    have HE : Hid (∀ wr v1 v2, ZtM (fun j => w.heap.size ≤ j ∧ j < wr.heap.size) wr w.heap.size m v1 v2 ((List.range m).map (fun (i : Nat) => (i : Int))) [] 0 → Below w.heap.size w wr → TMade ErrOne ZoD (m : Int) w (.returned (.tuple #[.pointer (some ⟨w.heap.size, 0, none⟩), .nilIface])) wr) := Lib.hid (fun wr v1 v2 h hb => by
      refine ⟨hb, ?_⟩
      rw [if_pos (by omega)]
      refine ⟨w.heap.size, rfl, ?_⟩
      rw [Int.toNat_natCast]
      refine ⟨TaS.WF.new hm1 hm2, Nat.zero_le _, v1, v2, ?_⟩
      rw [es_new]
      have hl : (TaS.new m).st.length = m := by simp [TaS.new]
      rw [hl]
      exact h)
    obtain ⟨w1, hw1⟩ : ∃ u, w.alloc (.cells #[.int .i64 (m : Int), .slice none 0 0, .func (.func 21) #[] #[], .slice none 0 0, .func (.func 22) #[] #[], .int .u32 0] 60) = u := ⟨_, rfl⟩
    have hb1 : Below w.heap.size w w1 := by rw [← hw1]; exact (Below.refl _ _).alloc (Nat.le_refl _) _
    have h1 : ZtM (fun j => w.heap.size ≤ j ∧ j < w1.heap.size) w1 w.heap.size m (.slice none 0 0) (.slice none 0 0) [] [] 0 := by
      have hbk : Blk w1 w.heap.size 60 [.int .i64 (m : Int), .slice none 0 0, .func (.func 21) #[] #[], .slice none 0 0, .func (.func 22) #[] #[], .int .u32 ((0 : Nat) : Int)] := by rw [← hw1]; exact heap_alloc_new w _
      exact ⟨⟨Nat.le_refl _, lt_of_block hbk⟩, fun k hk => hk.2, hbk, OwnK.nil _ _ _ _, OwnK.nil _ _ _ _, fun j e => (by cases e), fun j e => (by cases e), fun j e => (by cases e)⟩
    have H1 := Lib.hid h1
    have HB1 := Lib.hid hb1
    clear hn h1 hb1
    go_enter Tryd.func5, Tryd.ntmps5
    go_wp2_with fail
    clear hw1
    go_loopg [19] m (fun q y wr => ∃ k : Nat, k ≤ m ∧ q = m - k ∧ y = .int .i64 (k : Int) ∧ (∃ v1 v2, ZtM (fun j => w.heap.size ≤ j ∧ j < wr.heap.size) wr w.heap.size m v1 v2 ((List.range k).map (fun (i : Nat) => (i : Int))) [] 0) ∧ Below w.heap.size w wr)
    case atStart => exact ⟨0, by omega, rfl, rfl, ⟨_, _, H1.out⟩, HB1.out⟩
    case round =>
      clear H1 HB1
      obtain ⟨k, hk, hq, rfl, ⟨v1, v2, hm⟩, hb⟩ := hrel
      have HQ := Lib.hid hq
      have HB := Lib.hid hb
      have HM := Lib.hid hm
      clear hq hb
      by_cases hlt : k < m
      · have HJ := Lib.hid (zojoinI_at (k : Int) hm (by simp; omega))
        clear hm
        go_wp2_with fail
        refine HJ.out.mono ?_
        rintro r w' ⟨rfl, ⟨u1, u2, hu⟩, hkp⟩
        rw [← range_one] at hu
        have hs := hkp.size
        have hsb := HB.out.size
        have HU := Lib.hid (hu.re (G := fun j => w.heap.size ≤ j ∧ j < w'.heap.size) (fun j => by
          unfold grow
          constructor
          · rintro (h | h)
            · exact ⟨h.1, by omega⟩
            · exact ⟨by omega, h.2⟩
          · rintro ⟨h, h2⟩
            by_cases h3 : j < wr.heap.size
            · exact .inl ⟨h, h3⟩
            · exact .inr ⟨by omega, h2⟩))
        have HB2 := Lib.hid (HB.out.trans (hkp.below hsb (fun k h => h.1)))
        clear hu hkp hs hsb HJ
        go_wp2_with fail
        go_roundg (m - (k + 1))
        case rel => exact ⟨k + 1, by omega, rfl, by go_num, ⟨_, _, HU.out⟩, HB2.out⟩
        case measure => have := HQ.out; omega
      · obtain rfl : k = m := by omega
        clear hm
        go_wp2_with fail
        go_ret2
        exact HE.out _ _ _ HM.out HB.out
  · have HE : Hid (TMade ErrOne ZoD n w (.returned (.tuple #[.pointer none, .iface 30 (.int .i64 1)])) w) := Lib.hid ⟨Below.refl _ _, by rw [if_neg hn]; exact ⟨_, rfl, rfl⟩⟩
    by_cases h1 : n < 1
    · have d1 : decide (n < 1) = true := by simpa using h1
      clear hn h1
      go_enter Tryd.func5, Tryd.ntmps5
      go_wp2_with fail
      go_ret2
      exact HE.out
    · have d1 : decide (n < 1) = false := by simpa using h1
      have d2 : decide ((24 : Int) < n) = true := by rw [decide_eq_true_eq]; omega
      clear hn h1
      go_enter Tryd.func5, Tryd.ntmps5
      go_wp2_with fail
      go_ret2
      exact HE.out
/-- The landed table is one. -/
noncomputable def zops : TOps ErrOne where
  D := ZoD
  keep := fun ⟨hw, hd, v1, v2, hm⟩ hk hn => ⟨hw, hd, v1, v2, hm.keep hk hn⟩
  lt := fun ⟨_, _, _, _, hm⟩ => hm.lt
  wf := fun h => h.1
  new := fun n => zonew_at n
  state := fun z h => zostate_at z h
  take := fun h => zotake_at h
  close := fun z h hn => zoclose_at z h hn
  give := fun z h _ => zogive_at z h
  free := fun h => zofree_at h
  closed := fun h _ => zoclosed_at h
  age := fun z h _ => zoage_at z h
end Go.Proofs.YteoohafadijkmaaDoor
