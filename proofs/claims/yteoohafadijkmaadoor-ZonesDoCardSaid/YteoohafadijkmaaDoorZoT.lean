/-
  The landed table's calls: State, isOpen, Take, Close, Give, Free, Closed, Age.
-/
import Derived.Test.YteoohafadijkmaaDoorZoI
import Derived.Test.YteoohafadijkmaaDoorZoE
namespace Go.Proofs.YteoohafadijkmaaDoor
open Go.RowKit

theorem ZtM.re {F G : Nat → Prop} {w : World} {tb n m : Nat} {v1 v2 : Value} {fr : List Int} {es : List (Int × Nat)} (h : ZtM F w tb n v1 v2 fr es m) (e : ∀ k, F k ↔ G k) : ZtM G w tb n v1 v2 fr es m :=
  ⟨(e _).1 h.fb, fun k hk => h.lt k ((e k).2 hk), h.b, h.r1, h.r2, fun j hj => ⟨(e j).1 (h.o1 j hj).1, (h.o1 j hj).2⟩, fun j hj => ⟨(e j).1 (h.o2 j hj).1, (h.o2 j hj).2⟩, h.ap⟩
theorem grow_grow {F : Nat → Prop} {a b c : World} (h1 : a.heap.size ≤ b.heap.size) (h2 : b.heap.size ≤ c.heap.size) (k : Nat) : grow (grow F a b) b c k ↔ grow F a c k := by
  unfold grow
  constructor
  · rintro ((h | h) | h)
    · exact .inl h
    · exact .inr ⟨h.1, by omega⟩
    · exact .inr ⟨by omega, h.2⟩
  · rintro (h | h)
    · exact .inl (.inl h)
    · by_cases hk : k < b.heap.size
      · exact .inl (.inr ⟨h.1, hk⟩)
      · exact .inr ⟨by omega, h.2⟩
/-- The landed table in memory is T. -/
def ZoD (F : Nat → Prop) (w : World) (tb : Nat) (T : TaS) : Prop := T.WF ∧ T.done.length ≤ 200000 ∧ ∃ v1 v2, ZtM F w tb T.st.length v1 v2 T.row T.es T.done.length
theorem ZoD.es_le {T : TaS} (h : T.WF) : T.es.length ≤ 1000 := by
  rw [TaS.es_len]
  exact Nat.le_trans (TaS.closed_len2 h) (by omega)
theorem ZoD.row_le {T : TaS} (h : T.WF) : T.row.length ≤ 1000 := Nat.le_trans (TaS.row_len h) (by omega)
section
variable {F : Nat → Prop} {w : World} {tb : Nat} {T : TaS}
set_option maxHeartbeats 2000000 in
set_option maxRecDepth 100000 in
theorem zostate_at (z : Int) (h : ZoD F w tb T) : Calls Tryd.prog 10 #[.pointer (some ⟨tb, 0, none⟩), .int .i64 z] w (ValB (.tuple #[.int .i64 (T.stA z), .bool (T.inB z)]) w) := by
  obtain ⟨hw, _, v1, v2, hm⟩ := h
  have HM := Lib.hid hm
  have y0 := hm.cells.1
  obtain ⟨n, hn⟩ : ∃ n, T.st.length = n := ⟨_, rfl⟩
  rw [hn] at y0 HM
  cases hin : T.inB z with
  | false =>
    have HE : Hid (ValB (.tuple #[.int .i64 (T.stA z), .bool false]) w (.returned (.tuple #[.int .i64 0, .bool false])) w) := Lib.hid ⟨by rw [TaS.st_out hin], Below.refl _ _⟩
    have hno : ¬ (0 ≤ z ∧ z < (n : Int)) := fun h => by
      rw [TaS.in_iff.2 (by rw [hn]; exact h)] at hin
      cases hin
    clear hm hw hin hn
    by_cases h0 : z < 0
    · have d1 : decide (z < 0) = true := by simpa using h0
      clear hno
      go_enter Tryd.func10, Tryd.ntmps10
      go_wp2_with fail
      go_ret2
      exact HE.out
    · have d1 : decide (z < 0) = false := by simpa using h0
      have d2 : decide ((n : Int) ≤ z) = true := by rw [decide_eq_true_eq]; omega
      clear hno
      go_enter Tryd.func10, Tryd.ntmps10
      go_wp2_with fail
      go_ret2
      exact HE.out
  | true =>
    have hiz := TaS.in_iff.1 hin
    rw [hn] at hiz
    have d1 : decide (z < 0) = false := by simp; omega
    have d2 : decide ((n : Int) ≤ z) = false := by simp; omega
    have HA := Lib.hid (zoatI_at z hm (ZoD.row_le hw))
    have HB : Hid (∀ u, Below w.heap.size w u → Calls Tryd.prog 29 #[.pointer (some ⟨tb, 3, none⟩), .int .i64 z] u (ZoAt (T.es.map (·.1)) z u)) := Lib.hid (fun u hu => zoatE_at z (hm.up hu) (ZoD.es_le hw))
    have H0 : Hid (z ∈ T.row → T.stA z = 0) := Lib.hid (fun h => ((hw.row z).1 h).2)
    have H2 : Hid (z ∈ T.es.map (·.1) → T.stA z = 2) := Lib.hid (fun h => (TaS.closed_mem hw z).1 (by rw [← TaS.es_fst]; exact h))
    have H1 : Hid (z ∉ T.row → z ∉ T.es.map (·.1) → T.stA z = 1) := Lib.hid (fun h h' => by
      rcases hw.st z with e | e | e
      · exact absurd ((hw.row z).2 ⟨hin, e⟩) h
      · exact e
      · exact absurd (by rw [TaS.es_fst]; exact (TaS.closed_mem hw z).2 e) h')
    clear hm hw hin hn hiz
    obtain ⟨st, hst⟩ : ∃ s, T.stA z = s := ⟨_, rfl⟩
    rw [hst] at H0 H1 H2 ⊢
    clear hst
    go_enter Tryd.func10, Tryd.ntmps10
    go_wp2_with fail
    refine HA.out.mono ?_
    rintro r w1 ⟨⟨i, rfl, hi⟩, hb⟩
    have HB1 := Lib.hid hb
    rcases hi with ⟨p, rfl, hp, hpe⟩ | ⟨rfl, hno⟩
    · have HE : Hid (ValB (.tuple #[.int .i64 st, .bool true]) w (.returned (.tuple #[.int .i64 0, .bool true])) w1) := Lib.hid ⟨by rw [H0.out (by rw [← hpe]; exact List.getElem_mem hp)], hb⟩
      clear hp hpe hb
      go_wp2_with fail
      go_ret2
      exact HE.out
    · have HN := Lib.hid hno
      have HC := Lib.hid (HB.out w1 hb)
      clear hno hb HB HA
      go_wp2_with fail
      refine HC.out.mono ?_
      rintro r w2 ⟨⟨i, rfl, hi⟩, hb⟩
      have HB2 := Lib.hid (below_all HB1.out hb)
      rcases hi with ⟨p, rfl, hp, hpe⟩ | ⟨rfl, hno⟩
      · have HE : Hid (ValB (.tuple #[.int .i64 st, .bool true]) w (.returned (.tuple #[.int .i64 2, .bool true])) w2) := Lib.hid ⟨by rw [H2.out (by rw [← hpe]; exact List.getElem_mem hp)], HB2.out⟩
        clear hp hpe hb
        go_wp2_with fail
        go_ret2
        exact HE.out
      · have HE : Hid (ValB (.tuple #[.int .i64 st, .bool true]) w (.returned (.tuple #[.int .i64 1, .bool true])) w2) := Lib.hid ⟨by rw [H1.out HN.out hno], HB2.out⟩
        clear hno hb
        go_wp2_with fail
        go_ret2
        exact HE.out
set_option maxHeartbeats 2000000 in
theorem zoisopen_at (z : Int) (h : ZoD F w tb T) : Calls Tryd.prog 34 #[.pointer (some ⟨tb, 0, none⟩), .int .i64 z] w (BoolB (T.closeB z) w) := by
  have HS := Lib.hid (zostate_at z h)
  have HE : Hid (∀ b : Bool, T.inB z = b → T.closeB z = (if b = true then (T.stA z == 1) else false)) := Lib.hid (fun b e => by
    unfold TaS.closeB
    cases b with
    | true => rw [if_pos rfl, Bool.eq_iff_iff]; simp
    | false => rw [TaS.st_out e]; simp)
  clear h
  obtain ⟨ib, hib⟩ : ∃ b, T.inB z = b := ⟨_, rfl⟩
  have HE2 := Lib.hid (HE.out ib hib)
  rw [hib] at HS
  obtain ⟨st, hst⟩ : ∃ s, T.stA z = s := ⟨_, rfl⟩
  rw [hst] at HS HE2
  clear hib hst HE
  go_enter Tryd.func34, Tryd.ntmps34
  go_wp2_with fail
  refine HS.out.mono ?_
  rintro r w1 ⟨rfl, hb⟩
  have HB := Lib.hid hb
  clear hb
  cases ib with
  | true =>
    go_wp2_with fail
    go_ret
    exact ⟨ret_bool (by rw [HE2.out]; simp), HB.out⟩
  | false =>
    go_wp2_with fail
    go_ret
    exact ⟨ret_bool (by rw [HE2.out]; simp), HB.out⟩
set_option maxHeartbeats 2000000 in
set_option maxRecDepth 100000 in
theorem zotake_at (h : ZoD F w tb T) : Calls Tryd.prog 18 #[.pointer (some ⟨tb, 0, none⟩)] w (TDone ZoD F tb (.tuple #[.int .i64 T.takeN, .bool T.takeB]) T.takeS w) := by
  obtain ⟨hw, hd, v1, v2, hm⟩ := h
  obtain ⟨A, c, hv, _, _, _⟩ := hm.r1.form
  subst hv
  have y1 := hm.cells.2.1
  cases hr : T.row with
  | nil =>
    have HE : Hid (TDone ZoD F tb (.tuple #[.int .i64 T.takeN, .bool T.takeB]) T.takeS w (.returned (.tuple #[.int .i64 0, .bool false])) w) := Lib.hid (by
      have e1 : T.takeN = 0 := by unfold TaS.takeN; rw [hr]; rfl
      have e2 : T.takeB = false := by unfold TaS.takeB; simp [hr]
      have e3 : T.takeS = T := by unfold TaS.takeS; rw [if_pos hr]
      rw [e1, e2, e3]
      exact ⟨rfl, ⟨hw, hd, _, v2, hm.grown (Below.refl _ _)⟩, Kept.refl _ _⟩)
    rw [hr, List.length_nil] at y1
    clear hm hw hr
    go_enter Tryd.func18, Tryd.ntmps18
    go_wp2_with fail
    go_ret2
    exact HE.out
  | cons z l =>
    have hlen : T.row.length = l.length + 1 := by rw [hr, List.length_cons]
    have HL := Lib.hid (zoleaveI_at z hm hw.nd (ZoD.row_le hw))
    have hrd := hm.r1.rd
    have hin : z ∈ T.row := by rw [hr]; simp
    have hfil : T.row.filter (fun e => decide (e ≠ z)) = l := by
      have hn : (z :: l).Nodup := hr ▸ hw.nd
      rw [List.nodup_cons] at hn
      rw [hr, List.filter_cons_of_neg (by simp)]
      have := filter_out (fun (e : Int) => e) (z := z) (l := l) (by simpa using hn.1)
      exact this
    have HE : Hid (∀ w', ZtTo F tb T.st.length (.bool (decide (z ∈ T.row))) (T.row.filter (fun e => decide (e ≠ z))) T.es T.done.length w (.returned (.bool true)) w' → TDone ZoD F tb (.tuple #[.int .i64 T.takeN, .bool T.takeB]) T.takeS w (.returned (.tuple #[.int .i64 z, .bool true])) w') := Lib.hid (fun w' hz => by
      obtain ⟨_, ⟨u1, u2, hu⟩, hk⟩ := hz
      have e1 : T.takeN = z := by unfold TaS.takeN; rw [hr]; rfl
      have e2 : T.takeB = true := by unfold TaS.takeB; simp [hr]
      rw [e1, e2]
      have hrow : T.takeS.row = l := by unfold TaS.takeS; rw [if_neg (by simp [hr])]; show T.row.tail = l; rw [hr]; rfl
      have hdone : T.takeS.done = T.done := by unfold TaS.takeS; split <;> rfl
      have hst : T.takeS.st.length = T.st.length := by
        unfold TaS.takeS
        split
        · rfl
        · simp
      refine ⟨rfl, ⟨hw.take, by rw [hdone]; exact hd, u1, u2, ?_⟩, hk⟩
      rw [hrow, hdone, hst, TaS.take_es hw, ← hfil]
      exact hu)
    rw [decide_eq_true hin] at HL HE
    obtain ⟨b, o, rfl, _, hcell⟩ := hrd (by rw [iCells_len]; omega)
    have c0 := rdv_i (B := 0) hcell 0 (by omega)
    have hg0 : T.row[0]'(by omega) = z := by simp [hr]
    rw [hg0] at c0
    rw [Nat.add_zero] at c0
    obtain ⟨k, hk⟩ : ∃ k, T.row.length = k + 1 := ⟨_, hlen⟩
    rw [hk] at y1
    have hq : (((k : Int) + 1) == 0) = false := by simp; omega
    clear hm hw hr hlen hrd hin hfil hcell hg0 hk
    go_enter Tryd.func18, Tryd.ntmps18
    go_wp2_with fail
    refine HL.out.mono ?_
    rintro r w' hz
    have HE2 := Lib.hid (HE.out w' (by obtain ⟨rfl, h1⟩ := hz; exact ⟨rfl, h1⟩))
    obtain ⟨rfl, _⟩ := hz
    clear HE HL y1 c0
    go_wp2_with fail
    go_ret2
    exact HE2.out
set_option maxHeartbeats 1000000 in
theorem zofree_at (h : ZoD F w tb T) : Calls Tryd.prog 15 #[.pointer (some ⟨tb, 0, none⟩)] w (NumsO T.row w) := by
  obtain ⟨hw, hd, v1, v2, hm⟩ := h
  have HZ := Lib.hid (zozonesI_at hm (ZoD.row_le hw))
  clear hm hw hd
  go_enter Tryd.func15, Tryd.ntmps15
  go_wp2_with fail
  refine HZ.out.mono ?_
  rintro r w' h
  have HE := Lib.hid h
  obtain ⟨v, rfl, _⟩ := h
  go_wp2_with fail
  go_ret
  exact HE.out
set_option maxHeartbeats 1000000 in
theorem zoclosed_at (h : ZoD F w tb T) : Calls Tryd.prog 16 #[.pointer (some ⟨tb, 0, none⟩)] w (NumsO T.closedL w) := by
  obtain ⟨hw, hd, v1, v2, hm⟩ := h
  have HZ := Lib.hid (zozonesE_at hm (ZoD.es_le hw))
  rw [TaS.es_fst] at HZ
  clear hm hw hd
  go_enter Tryd.func16, Tryd.ntmps16
  go_wp2_with fail
  refine HZ.out.mono ?_
  rintro r w' h
  have HE := Lib.hid h
  obtain ⟨v, rfl, _⟩ := h
  go_wp2_with fail
  go_ret
  exact HE.out
set_option maxHeartbeats 2000000 in
set_option maxRecDepth 100000 in
theorem zoage_at (z : Int) (h : ZoD F w tb T) : Calls Tryd.prog 12 #[.pointer (some ⟨tb, 0, none⟩), .int .i64 z] w (ValB (.int .u32 (T.ageN z : Int)) w) := by
  obtain ⟨hw, hd, v1, v2, hm⟩ := h
  have HA := Lib.hid (zoatE_at z hm (ZoD.es_le hw))
  have HM := Lib.hid hm
  have HW := Lib.hid hw
  obtain ⟨A, c, hv, _, _, _⟩ := hm.r2.form
  subst hv
  have HD := Lib.hid hd
  clear hm hw hd
  go_enter Tryd.func12, Tryd.ntmps12
  go_wp2_with fail
  refine HA.out.mono ?_
  rintro r w1 ⟨⟨i, rfl, hi⟩, hb⟩
  have HB := Lib.hid hb
  rcases hi with ⟨p, rfl, hp, hpe⟩ | ⟨rfl, hno⟩
  · have hp2 : p < T.es.length := by simpa using hp
    obtain ⟨e1, e2⟩ := TaS.es_age hp2 (by simpa using hpe)
    have hm1 := HM.out.up hb
    obtain ⟨_, _, _, y3, _, y5⟩ := hm1.cells
    obtain ⟨b, o, rfl, _, hcell⟩ := hm1.r2.rd (by rw [esC_len]; omega)
    obtain ⟨_, c1⟩ := e_cells hcell p hp2
    have hd := HD.out
    obtain ⟨u, hu⟩ : ∃ u, T.es[p].2 = u := ⟨_, rfl⟩
    rw [hu] at c1 e1 e2
    obtain ⟨q, hq⟩ : ∃ q, T.done.length = q := ⟨_, rfl⟩
    rw [hq] at y5 e1 e2 hd
    obtain ⟨k, hk⟩ : ∃ k, T.es.length = k := ⟨_, rfl⟩
    rw [hk] at y3 hp2
    have hwr : IntKind.u32.wrap ((q : Int) - (u : Int)) = (T.ageN z : Int) := by
      rw [← e1]
      exact IntWalk.u32_in _ (by omega)
    have HE : Hid (ValB (.int .u32 (T.ageN z : Int)) w (.returned (.int .u32 (T.ageN z : Int))) w1 ∧ ∀ n, Below w.heap.size w (w1.drewN n)) := Lib.hid ⟨⟨rfl, hb⟩, fun n => by
      induction n with
      | zero => exact hb
      | succ n ih => exact ih.drew⟩
    clear hp hpe e1 e2 hm1 hcell hb hu hq hk HM HA HW HD hd
    go_wp2_with fail
    go_quiet (fail)
    go_wp2_with fail
    go_ret
    exact ⟨rfl, HE.out.2 _⟩
  · have HE : Hid (ValB (.int .u32 (T.ageN z : Int)) w (.returned (.int .u32 0)) w1) := Lib.hid ⟨by rw [TaS.age_out HW.out (by rw [← TaS.es_fst]; exact hno)]; rfl, hb⟩
    clear hno hb HM HA HW HD
    go_wp2_with fail
    go_ret
    exact HE.out
end
end Go.Proofs.YteoohafadijkmaaDoor
