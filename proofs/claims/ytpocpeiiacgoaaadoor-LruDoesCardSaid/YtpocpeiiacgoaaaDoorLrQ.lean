/-
  The document's ranking in memory: In, New, Insert, Remove, Victim.
-/
import Derived.Test.YtpocpeiiacgoaaaDoorLrP
import Derived.Deep.QuietTactic
import Derived.BigQuiet
import Derived.Laws.Tables
namespace Go.Proofs.YtpocpeiiacgoaaaDoor
open Go.RowKit

section
variable {w : World} {base rb : Nat} {S : RkS}
theorem RefC.cells {vT vK : Value} (h : RefC w base rb vT vK S) : w.cell? ⟨rb, 0, none⟩ = some vT ∧ w.cell? ⟨rb, 1, none⟩ = some vK ∧ w.cell? ⟨rb, 2, none⟩ = some (.int .i64 (S.n : Int)) := ⟨h.1.cell 0 (by simp), h.1.cell 1 (by simp), h.1.cell 2 (by simp)⟩
theorem RefM.lens (h : RefM w base rb S) : S.T.length ≤ 64 ∧ S.K.length ≤ 64 ∧ S.n ≤ 64 := by
  have h1 := RkS.len_le h.2
  have h2 := h.2.n64
  omega
set_option maxHeartbeats 1000000 in
theorem rin_at (x : Int) (h : RefM w base rb S) : Calls Tryd.prog 32 #[.pointer (some ⟨rb, 0, none⟩), .int .i64 x] w (HasIs (S.has x) w) := by
  have hl := h.lens
  obtain ⟨⟨vT, vK, hc⟩, hwf⟩ := h
  obtain ⟨A, c, A2, c2, rfl, rfl⟩ := hc.slices
  obtain ⟨g0, g1, g2⟩ := hc.cells
  have HT := Lib.hid (rhas_at (c := c) x hc.2.1.rdI.1 rfl (by omega))
  have HK := Lib.hid (rhas_at (c := c2) x hc.2.2.1.rdI.1 rfl (by omega))
  have HH : Hid (S.has x = (hasL S.T x || hasL S.K x)) := Lib.hid rfl
  generalize S.T.length = tl at *
  generalize S.K.length = kl at *
  generalize S.has x = hh at *
  generalize hasL S.T x = b1 at *
  generalize hasL S.K x = b2 at *
  clear hc hwf g2 hl
  cases b1 with
  | true =>
    go_enter Tryd.func32, Tryd.ntmps32
    go_wp2_with fail
    refine HT.out.mono ?_
    rintro r w' ⟨rfl, rfl⟩
    go_wp2_with fail
    go_ret
    exact ⟨by rw [HH.out]; rfl, rfl⟩
  | false =>
    go_enter Tryd.func32, Tryd.ntmps32
    go_wp2_with fail
    refine HT.out.mono ?_
    rintro r w' ⟨rfl, rfl⟩
    go_wp2_with fail
    refine HK.out.mono ?_
    rintro r w' ⟨rfl, rfl⟩
    go_wp2_with fail
    go_ret
    exact ⟨by rw [HH.out]; rfl, rfl⟩
def RNewIs (n : Int) (w : World) (r : Ending) (w' : World) : Prop :=
  Below w.heap.size w w' ∧ if 1 ≤ n ∧ n ≤ 64 then r = .returned (.tuple #[.pointer (some ⟨w.heap.size, 0, none⟩), .int .i64 0]) ∧ RefM w' w.heap.size w.heap.size ⟨[], [], n.toNat⟩ else r = .returned (.tuple #[.pointer none, .int .i64 1])
theorem rnew_at (n : Int) (w : World) : Calls Tryd.prog 6 #[.int .i64 n] w (RNewIs n w) := by
  by_cases h0 : n < 1
  · have hd : decide (n < 1) = true := by simpa using h0
    have HE : Hid (RNewIs n w (.returned (.tuple #[.pointer none, .int .i64 1])) w) := Lib.hid ⟨Below.refl _ _, by rw [if_neg (by omega)]⟩
    go_enter Tryd.func6, Tryd.ntmps6
    go_wp2_with fail
    go_ret2
    exact HE.out
  · have hd : decide (n < 1) = false := by simpa using h0
    by_cases h1 : 64 < n
    · have HE : Hid (RNewIs n w (.returned (.tuple #[.pointer none, .int .i64 1])) w) := Lib.hid ⟨Below.refl _ _, by rw [if_neg (by omega)]⟩
      go_enter Tryd.func6, Tryd.ntmps6
      go_wp2_with fail
      go_ret2
      exact HE.out
    · obtain ⟨m, rfl⟩ := Int.eq_ofNat_of_zero_le (show 0 ≤ n by omega)
      have HE : Hid (RNewIs (m : Int) w (.returned (.tuple #[.pointer (some ⟨w.heap.size, 0, none⟩), .int .i64 0])) (w.alloc (.cells #[.slice none 0 0, .slice none 0 0, .int .i64 (m : Int)] 42))) := Lib.hid ⟨(Below.refl _ _).alloc (Nat.le_refl _) _, by
        rw [if_pos (by omega)]
        exact ⟨rfl, ⟨.slice none 0 0, .slice none 0 0, heap_alloc_new w _, RowF.nil _ _, RowF.nil _ _, Nat.le_refl _⟩, ⟨List.nodup_nil, fun s hs => (by cases hs), by simp; omega, by simp; omega⟩⟩⟩
      go_enter Tryd.func6, Tryd.ntmps6
      go_wp2_with fail
      go_ret2
      exact HE.out
set_option maxHeartbeats 2000000 in
theorem rinsert_at (x : Int) (h : RefM w base rb S) : Calls Tryd.prog 19 #[.pointer (some ⟨rb, 0, none⟩), .int .i64 x] w (RefTo base rb (S.insB x) (S.insS x) w) := by
  have hl := h.lens
  have HH := Lib.hid h
  have HIN := Lib.hid (rin_at x h)
  obtain ⟨⟨vT, vK, hc⟩, hwf⟩ := h
  obtain ⟨A, c, A2, c2, rfl, rfl⟩ := hc.slices
  obtain ⟨g0, g1, g2⟩ := hc.cells
  have hn64 := hl.2.2
  obtain ⟨n, hn⟩ : ∃ n, S.n = n := ⟨_, rfl⟩
  rw [hn] at g2 hn64
  have no : S.insB x = false → RefTo base rb (S.insB x) (S.insS x) w (.returned (.bool false)) w := fun e => by
    refine ⟨by rw [e], ?_, Kept.refl _ _⟩
    unfold RkS.insS
    rw [e]
    exact HH.out
  by_cases h1 : x < 0
  · have HE := Lib.hid (no (by
      unfold RkS.insB
      have : ¬ 0 ≤ x := by omega
      simp [this]))
    have hd : decide (x < 0) = true := by simpa using h1
    clear hc hwf hn no g0 g1 hl
    go_enter Tryd.func19, Tryd.ntmps19
    go_wp2_with fail
    go_ret
    exact HE.out
  · have hd : decide (x < 0) = false := by simpa using h1
    by_cases h2 : (n : Int) ≤ x
    · have HE := Lib.hid (no (by
        unfold RkS.insB
        have : ¬ x < S.n := by omega
        simp [this]))
      clear hc hwf hn no g0 g1 hl
      go_enter Tryd.func19, Tryd.ntmps19
      go_wp2_with fail
      go_ret
      exact HE.out
    · cases e1 : S.has x with
      | true =>
        have HE := Lib.hid (no (by
          unfold RkS.insB
          simp [e1]))
        rw [e1] at HIN
        clear hc hwf hn no g0 g1 hl e1
        go_enter Tryd.func19, Tryd.ntmps19
        go_wp2_with fail
        refine HIN.out.mono ?_
        rintro r w' ⟨rfl, rfl⟩
        go_wp2_with fail
        go_ret
        exact HE.out
      | false =>
        have hx0 : 0 ≤ x := by omega
        have hy : S.insB x = true := by
          unfold RkS.insB
          have : x < S.n := by omega
          simp [e1, hx0, this]
        have HY := Lib.hid hy
        have HW := Lib.hid (RkS.insS_wf hwf x)
        obtain ⟨s, rfl⟩ := Int.eq_ofNat_of_zero_le hx0
        rw [e1] at HIN
        have HC := Lib.hid hc
        have HN1 : Hid (NatR (w.alloc (.cells #[.int .i64 (s : Int)] 3)) w.heap.size w.heap.size 1 [s]) := Lib.hid (NatR.new w _ (Nat.le_refl _) [s] (by simp))
        have HB1 : Hid (Below w.heap.size w (w.alloc (.cells #[.int .i64 (s : Int)] 3))) := Lib.hid ((Below.refl _ _).alloc (Nat.le_refl _) _)
        have k0 := (HB1.out.cell (p := ⟨rb, 0, none⟩) (lt_of_block hc.1)).trans g0
        obtain ⟨tl, htl⟩ : ∃ tl, S.T.length = tl := ⟨_, rfl⟩
        have HTL := Lib.hid htl
        have htl64 : tl ≤ 64 := by omega
        rw [htl] at k0
        clear hc hwf hn no e1 hy g0 g1 hl htl
        go_enter Tryd.func19, Tryd.ntmps19
        go_wp2_with fail
        refine HIN.out.mono ?_
        rintro r w' ⟨rfl, rfl⟩
        go_wp2_with (first
          | (at_builtin; refine appI _ rfl (.tmp 22) (.tmp 26) rfl w.heap.size w.heap.size w.heap.size 1 1 tl c [(s : Int)] (nats S.T) A rfl HN1.out rfl rfl (HC.out.2.1.rdI.1.below HB1.out) (by rw [nats_len]; exact HTL.out) (by omega) HB1.out.size ?_; intro g6 cap6 w6 ho hg hgg; have HO6 : Hid (NatR w6 w.heap.size g6 cap6 (s :: S.T)) := Lib.hid ho; have HB6 := Lib.hid (HB1.out.grown hg HB1.out.size (fun e he => by have := Option.some.inj he; omega)); have f0 := (HC.out.up HB6.out).1.free 0; have k6 := (HC.out.up HB6.out).cells.1; clear ho hg hgg)
          | fail)
        go_ret
        have hT := HC.out.newT HB6.out HO6.out (Nat.le_refl _) (m := 1 + tl) (by have := HTL.out; simp; omega)
        refine ⟨by rw [HY.out]; rfl, ⟨?_, HW.out⟩, hT.2⟩
        unfold RkS.insS
        rw [if_pos HY.out]
        exact ⟨_, _, hT.1⟩
theorem tel_has (l : List Nat) (s : Nat) : RkS.telL true (s : Int) l = butL l s := RkS.tel_yes s l
set_option maxHeartbeats 2000000 in
theorem rremove_at (x : Int) (h : RefM w base rb S) : Calls Tryd.prog 21 #[.pointer (some ⟨rb, 0, none⟩), .int .i64 x] w (RefTo base rb (S.has x) (S.remS x) w) := by
  have hl := h.lens
  have HIN := Lib.hid (rin_at x h)
  have HW := Lib.hid (RkS.remS_wf h.2 x)
  cases e1 : S.has x with
  | false =>
    have HE : Hid (RefTo base rb false (S.remS x) w (.returned (.bool false)) w) := Lib.hid ⟨rfl, by unfold RkS.remS; rw [e1]; exact h, Kept.refl _ _⟩
    rw [e1] at HIN
    clear h e1
    go_enter Tryd.func21, Tryd.ntmps21
    go_wp2_with fail
    refine HIN.out.mono ?_
    rintro r w' ⟨rfl, rfl⟩
    go_wp2_with fail
    go_ret
    exact HE.out
  | true =>
    have HY := Lib.hid e1
    rw [e1] at HIN
    obtain ⟨⟨vT, vK, hc⟩, hwf⟩ := h
    obtain ⟨s, rfl, hs⟩ := RkS.has_some e1
    obtain ⟨A, c, A2, c2, rfl, rfl⟩ := hc.slices
    obtain ⟨g0, g1, g2⟩ := hc.cells
    have HC := Lib.hid hc
    have HT := Lib.hid (rbut_at (c := c) (s : Int) hc.2.1.rdI.1 rfl (by omega))
    rw [tel_has] at HT
    obtain ⟨tl, htl⟩ : ∃ tl, S.T.length = tl := ⟨_, rfl⟩
    obtain ⟨kl, hkl⟩ : ∃ kl, S.K.length = kl := ⟨_, rfl⟩
    have HKL : Hid (S.K.length = kl ∧ kl ≤ 64) := Lib.hid ⟨hkl, by omega⟩
    rw [htl] at g0 HT
    rw [hkl] at g1
    clear hc hwf e1 g1 g2 hl htl hkl
    go_enter Tryd.func21, Tryd.ntmps21
    go_wp2_with fail
    refine HIN.out.mono ?_
    rintro r w' ⟨rfl, rfl⟩
    go_wp2_with fail
    refine HT.out.mono ?_
    rintro r w2 ⟨g, cap, rfl, hn, hb⟩
    obtain ⟨m, hm⟩ : ∃ m, (butL S.T s).length = m := ⟨_, rfl⟩
    have hT := HC.out.newT hb hn (Nat.le_refl _) hm
    have f0 := (HC.out.up hb).1.free 0
    have k0 := (HC.out.up hb).cells.1
    obtain ⟨w3, hw3⟩ : ∃ w3, w2.setCell ⟨rb, 0, none⟩ (.slice (some ⟨g, 0, none⟩) m cap) = w3 := ⟨_, rfl⟩
    rw [hw3] at hT
    have HT3 := Lib.hid hT
    rw [hm]
    clear hT hn hb hm g0
    obtain ⟨q0, q1, q2⟩ := HT3.out.1.cells
    rw [HKL.out.1] at q1
    clear q0 q2
    have HKB : Hid (∀ x : Int, Calls Tryd.prog 33 #[.slice A2 kl c2, .int .i64 x] w3 (ButIs (RkS.telL true x S.K) w3)) := Lib.hid (fun x => rbut_at x HT3.out.1.2.2.1.rdI.1 HKL.out.1 (by have := HKL.out.2; omega))
    go_wp2_with fail
    refine (HKB.out _).mono ?_
    rw [tel_has]
    rintro r w4 ⟨g4, cap4, rfl, hn, hb⟩
    obtain ⟨m4, hm⟩ : ∃ m, (butL S.K s).length = m := ⟨_, rfl⟩
    have hK := HT3.out.1.newK hb hn (Nat.le_refl _) hm
    have f1 := (HT3.out.1.up hb).1.free 1
    have k1 := (HT3.out.1.up hb).cells.2.1
    rw [hm]
    have HK4 := Lib.hid hK
    clear hK hn hb hm
    go_wp2_with fail
    go_ret
    refine ⟨rfl, ⟨?_, HW.out⟩, HT3.out.2.and HK4.out.2⟩
    unfold RkS.remS
    rw [if_pos HY.out]
    simp only [Int.toNat_natCast]
    exact ⟨_, _, HK4.out.1⟩
theorem last_at {l : List Nat} {m : Nat} (h : l.length = m + 1) : l.getLast? = l[m]? := by rw [List.getLast?_eq_getElem?, h]; rfl
def VicTo (S : RkS) (w : World) (r : Ending) (w' : World) : Prop := r = .returned (.tuple #[.int .i64 (S.vicN : Int), .bool S.vic.isSome]) ∧ Below w.heap.size w w'
theorem below_drewN {b : Nat} {w w' : World} (h : Below b w w') (n : Nat) : Below b w (w'.drewN n) := ⟨h.os, h.tape, h.output, h.size, h.block⟩
set_option maxHeartbeats 2000000 in
theorem rvictim_at (h : RefM w base rb S) : Calls Tryd.prog 14 #[.pointer (some ⟨rb, 0, none⟩)] w (VicTo S w) := by
  have hl := h.lens
  obtain ⟨⟨vT, vK, hc⟩, hwf⟩ := h
  obtain ⟨A, c, A2, c2, rfl, rfl⟩ := hc.slices
  obtain ⟨g0, g1, g2⟩ := hc.cells
  rcases Nat.eq_zero_or_pos S.T.length with hT | hT
  · have hTn : S.T = [] := List.eq_nil_of_length_eq_zero hT
    rw [hT] at g0
    rcases Nat.eq_zero_or_pos S.K.length with hK | hK
    · have hKn : S.K = [] := List.eq_nil_of_length_eq_zero hK
      rw [hK] at g1
      have HV : Hid (VicTo S w (.returned (.tuple #[.int .i64 0, .bool false])) w) := Lib.hid ⟨by unfold RkS.vicN RkS.vic; rw [hTn, hKn]; rfl, Below.refl _ _⟩
      clear hc hwf g2 hl hT hK hTn hKn
      go_enter Tryd.func14, Tryd.ntmps14
      go_wp2_with fail
      go_ret2
      exact HV.out
    · obtain ⟨m, hm⟩ : ∃ m, S.K.length = m + 1 := ⟨S.K.length - 1, by omega⟩
      have hml : m < S.K.length := by omega
      obtain ⟨b, o, rfl, hbl, hcell⟩ := hc.2.2.1.rdI.1 (by rw [iCells_len, nats_len]; omega)
      have c0 := rdv_i (B := 0) hcell m (by rw [nats_len]; exact hml)
      rw [show (nats S.K)[m]'(by rw [nats_len]; exact hml) = (S.K[m] : Int) by simp [nats]] at c0
      obtain ⟨s, hs⟩ : ∃ s, S.K[m] = s := ⟨_, rfl⟩
      have HV : Hid (∀ w', Below w.heap.size w w' → VicTo S w (.returned (.tuple #[.int .i64 (s : Int), .bool true])) w') := Lib.hid (fun w' hb => ⟨by
        have e : S.vic = some s := by unfold RkS.vic; rw [hTn, last_at hm, List.getElem?_eq_getElem hml, hs]; rfl
        unfold RkS.vicN; rw [e]; rfl, hb⟩)
      rw [hs] at c0
      rw [hm] at g1
      have e1 : (((m + 1 : Nat) : Int)) = (m : Int) + 1 := by omega
      have e2 : (m : Int) + 1 - 1 = (m : Int) := by omega
      have hm64 : m ≤ 63 := by omega
      have hq : 0 < (m : Int) + 1 := by omega
      clear hc hwf g2 hl hT hK hTn hm hml hs hcell
      go_enter Tryd.func14, Tryd.ntmps14
      go_wp2_with fail
      go_quiet (fail)
      all_goals
        go_wp2_with fail
        go_ret2
        exact HV.out _ (below_drewN (Below.refl _ _) _)
  · obtain ⟨m, hm⟩ : ∃ m, S.T.length = m + 1 := ⟨S.T.length - 1, by omega⟩
    have hml : m < S.T.length := by omega
    obtain ⟨b, o, rfl, hbl, hcell⟩ := hc.2.1.rdI.1 (by rw [iCells_len, nats_len]; omega)
    have c0 := rdv_i (B := 0) hcell m (by rw [nats_len]; exact hml)
    rw [show (nats S.T)[m]'(by rw [nats_len]; exact hml) = (S.T[m] : Int) by simp [nats]] at c0
    obtain ⟨s, hs⟩ : ∃ s, S.T[m] = s := ⟨_, rfl⟩
    have HV : Hid (∀ w', Below w.heap.size w w' → VicTo S w (.returned (.tuple #[.int .i64 (s : Int), .bool true])) w') := Lib.hid (fun w' hb => ⟨by
      have e : S.vic = some s := by unfold RkS.vic; rw [last_at hm, List.getElem?_eq_getElem hml, hs]; rfl
      unfold RkS.vicN; rw [e]; rfl, hb⟩)
    rw [hs] at c0
    rw [hm] at g0
    have e1 : (((m + 1 : Nat) : Int)) = (m : Int) + 1 := by omega
    have e2 : (m : Int) + 1 - 1 = (m : Int) := by omega
    have hm64 : m ≤ 63 := by omega
    have hq : 0 < (m : Int) + 1 := by omega
    clear hc hwf g1 g2 hl hT hm hml hs hcell
    go_enter Tryd.func14, Tryd.ntmps14
    go_wp2_with fail
    go_quiet (fail)
    all_goals
      go_wp2_with fail
      go_ret2
      exact HV.out _ (below_drewN (Below.refl _ _) _)
end
end Go.Proofs.YtpocpeiiacgoaaaDoor
