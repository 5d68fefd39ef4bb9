/-
  platelayerlaw13.ZonesParts answers true.
-/
import Derived.Test.YteoohafadijkmaaTaPt
import Derived.Test.YteoohafadijkmaaTaMath2
import Derived.IntWalk
namespace Go.Proofs.Yteoohafadijkmaa
open Go.RowKit

theorem TaS.do_len (T : TaS) (d z : Int) : (T.doS d z).st.length = T.st.length := by
  unfold TaS.doS TaS.takeS TaS.closeS TaS.giveS
  split
  · split <;> simp
  · split
    · split <;> simp
    · split
      · split <;> simp
      · rfl
/-- States behind k free ones. -/
def fB (T : TaS) (k : Nat) : Nat → Int := fun i => if (i : Int) ∈ T.row.take k then 0 else 1
/-- .. behind k closed ones. -/
def fC (T : TaS) (k : Nat) : Nat → Int := fun i => if (i : Int) ∈ T.closedL.take k then 2 else if (i : Int) ∈ T.row then 0 else 1
theorem fB_step {T : TaS} {k j : Nat} (hk : k < T.row.length) (hj : T.row[k] = (j : Int)) (i : Nat) : (if i = j then 0 else fB T k i) = fB T (k + 1) i := by
  unfold fB
  rw [List.take_succ_eq_append_getElem hk, hj]
  by_cases e : i = j
  · subst e
    simp
  · rw [if_neg e]
    have : ¬ (i : Int) = (j : Int) := by omega
    simp [this]
theorem fC_step {T : TaS} {k j : Nat} (hk : k < T.closedL.length) (hj : T.closedL[k] = (j : Int)) (i : Nat) : (if i = j then 2 else fC T k i) = fC T (k + 1) i := by
  unfold fC
  rw [List.take_succ_eq_append_getElem hk, hj]
  by_cases e : i = j
  · subst e
    simp
  · rw [if_neg e]
    have : ¬ (i : Int) = (j : Int) := by omega
    simp [this]
theorem fB_all (T : TaS) (i : Nat) : fB T T.row.length i = fC T 0 i := by
  unfold fB fC
  rw [List.take_length]
  simp
theorem fC_one {T : TaS} (h : T.WF) {k j : Nat} (hk : k < T.closedL.length) (hj : T.closedL[k] = (j : Int)) : fC T k j = 1 := by
  have h2 : T.stA (j : Int) = 2 := by
    rw [← hj]
    exact (TaS.closed_mem h _).1 (List.getElem_mem hk)
  have hn : ¬ (j : Int) ∈ T.closedL.take k := by
    intro hm
    obtain ⟨q, hq, e⟩ := List.getElem_of_mem hm
    rw [List.getElem_take] at e
    have hqk : q < k := by simp at hq; omega
    exact (List.pairwise_iff_getElem.1 (List.nodup_iff_pairwise_ne.1 (TaS.closed_nodup T))) q k (by omega) hk hqk (e.trans hj.symm)
  have hr : ¬ (j : Int) ∈ T.row := fun hm => by
    have := ((h.row _).1 hm).2
    omega
  unfold fC
  rw [if_neg hn, if_neg hr]
theorem fC_all {T : TaS} (h : T.WF) {i : Nat} (hi : i < T.st.length) : fC T T.closedL.length i = T.stA (i : Int) := by
  unfold fC
  rw [List.take_length]
  have hin : T.inB (i : Int) = true := TaS.in_iff.2 ⟨by omega, by omega⟩
  rcases h.st (i : Int) with h0 | h0 | h0
  · rw [if_neg (fun hm => by have := (TaS.closed_mem h _).1 hm; omega), if_pos ((h.row _).2 ⟨hin, h0⟩), h0]
  · rw [if_neg (fun hm => by have := (TaS.closed_mem h _).1 hm; omega), if_neg (fun hm => by have := ((h.row _).1 hm).2; omega), h0]
  · rw [if_pos ((TaS.closed_mem h _).2 h0), h0]
theorem row_nat {T : TaS} (h : T.WF) {k : Nat} (hk : k < T.row.length) : ∃ j : Nat, T.row[k] = (j : Int) ∧ j < T.st.length := by
  have := TaS.in_iff.1 ((h.row _).1 (List.getElem_mem hk)).1
  exact ⟨T.row[k].toNat, by omega, by omega⟩
theorem closed_nat {T : TaS} (h : T.WF) {k : Nat} (hk : k < T.closedL.length) : ∃ j : Nat, T.closedL[k] = (j : Int) ∧ j < T.st.length := by
  have h2 := (TaS.closed_mem h _).1 (List.getElem_mem hk)
  have := TaS.in_iff.1 (TaS.in_of (T := T) (z := T.closedL[k]) (by omega))
  exact ⟨T.closedL[k].toNat, by omega, by omega⟩
theorem closed_old {T : TaS} {p k : Nat} (hk : k < T.closedL.length) (hp : p + 1 = k) : T.ageN T.closedL[k] < T.ageN (T.closedL[p]'(by omega)) := by
  subst hp
  exact TaS.closed_older hk
set_option maxHeartbeats 16000000 in
set_option maxRecDepth 100000 in
theorem zoparts_true {E : Value → Prop} (O : TOps E) {w : World} (n : Int) (A : Option Addr) (m c : Nat) (l : List ZAct) (hl : l.length = m) (hr : RdZA w A l) : Calls Try.prog 3 #[.int .i64 n, .slice A m c] w (BoolB true w) := by
  have HL := Lib.hid hl
  have HR := Lib.hid hr
  clear hl hr
  go_enter Try.func3, Try.ntmps3
  go_wp2_with fail
  refine (zoawake_true O w).mono ?_
  rintro r w1 ⟨rfl, hb⟩
  have HB1 := Lib.hid hb
  clear hb
  go_wp2_with fail
  refine (O.new n).mono ?_
  rintro r w2 ⟨hb, h⟩
  have HB2 := Lib.hid (below_all HB1.out hb)
  by_cases hn : 1 ≤ n ∧ n ≤ 24
  · rw [if_pos hn] at h
    obtain ⟨tb, rfl, hd⟩ := h
    have HX : Hid (TaX O w w2 tb (TaS.new n.toNat) (fun _ => False)) := Lib.hid ⟨_, hd, fun k hk => ⟨by have := HB1.out.size; omega, id⟩, fun k hk => hk.elim, HB2.out⟩
    clear hd hb
    obtain ⟨n, rfl⟩ : ∃ m : Nat, n = (m : Int) := ⟨n.toNat, by omega⟩
    have hn1 : 1 ≤ n := by omega
    have hn2 : n ≤ 24 := by omega
    rw [Int.toNat_natCast] at HX
    have d1 : ¬ (24 : Int) < (n : Int) := by omega
    clear hn
    by_cases hmm : 200 < m
    · go_wp2_with fail
      go_ret
      exact ⟨rfl, HB2.out⟩
    go_wp2_with fail
    refine (xfree HX.out).mono ?_
    rintro r w3 hnn
    obtain ⟨A3, c3, rfl, hrd, _, hown, hb⟩ := tr_own hnn
    have HZ3 : Hid (ZQ O w w3 tb (TaS.new n) (fun k => False ∨ (w2.heap.size ≤ k ∧ k < w3.heap.size)) A3 (TaS.new n).row.length c3 (TaS.new n).row) := Lib.hid (by
      have q := QRow.of_own hown rfl
      exact ⟨HX.out.fresh hb, ⟨q.len, q.le, q.max, q.nil, (QRow.of_own (hown.le HB2.out.size) rfl).blk⟩, fun g hg => .inr ⟨q.ge g hg, q.lt g hg⟩⟩)
    have HLN : Hid ((TaS.new n).st.length = n) := Lib.hid (by simp [TaS.new])
    clear hrd hown hb hnn d1
    go_wp2_with fail
    go_loopg [7, 46] m (fun q x y wr => ∃ (i : Nat) (T : TaS) (A' : Nat → Prop) (RA : Option Addr) (rn rc : Nat), i ≤ m ∧ q = m - i ∧ x = .slice RA rn rc ∧ y = .int .i64 (i : Int) ∧ T.st.length = n ∧ T.done.length ≤ i ∧ ZQ O w wr tb T A' RA rn rc T.row)
    case atStart => exact ⟨0, _, _, _, _, _, by omega, by omega, rfl, rfl, HLN.out, Nat.le_refl _, HZ3.out⟩
    case round =>
      clear HZ3 HX HB2 HB1 HLN
      obtain ⟨i, T, A', RA, rn, rc, hi, hq, rfl, rfl, hsl, hdl, hz⟩ := hrel
      have HQ := Lib.hid hq
      have HSL := Lib.hid hsl
      have HDL := Lib.hid hdl
      have HZ := Lib.hid hz
      clear hq hsl hdl hz
      by_cases hlt : i < m
      · have hll : i < l.length := by rw [HL.out]; exact hlt
        obtain ⟨bl, o, rfl, hbl, hcell⟩ := (HR.out.below HZ.out.x.old) (by omega)
        obtain ⟨c0, c1⟩ := hcell i hll
        obtain ⟨d, hd⟩ : ∃ d, l[i].d = d := ⟨_, rfl⟩
        obtain ⟨z, hz⟩ : ∃ z, l[i].z = z := ⟨_, rfl⟩
        rw [hd] at c0
        rw [hz] at c1
        clear hcell hd hz hll
        have hba : Below wr.heap.size wr (wr.alloc (.cells #[.int .i64 d, .int .i64 z] 32)) := (Below.refl _ _).alloc (Nat.le_refl _) _
        have HACT : Hid (Blk (wr.alloc (.cells #[.int .i64 d, .int .i64 z] 32)) wr.heap.size 32 [.int .i64 d, .int .i64 z]) := Lib.hid (heap_alloc_new _ _)
        have HZA := Lib.hid (HZ.out.fresh hba)
        have HAA : Hid ((fun k => A' k ∨ (wr.heap.size ≤ k ∧ k < (wr.alloc (.cells #[.int .i64 d, .int .i64 z] 32)).heap.size)) wr.heap.size) := Lib.hid (.inr ⟨Nat.le_refl _, by simp⟩)
        obtain ⟨wa, hwa⟩ : ∃ wa, wr.alloc (.cells #[.int .i64 d, .int .i64 z] 32) = wa := ⟨_, rfl⟩
        rw [hwa] at HACT HZA HAA
        obtain ⟨A1, hA1⟩ : ∃ B : Nat → Prop, (fun k => A' k ∨ (wr.heap.size ≤ k ∧ k < wa.heap.size)) = B := ⟨_, rfl⟩
        rw [hA1] at HZA HAA
        obtain ⟨a, ha⟩ : ∃ a, wr.heap.size = a := ⟨_, rfl⟩
        rw [ha] at HACT HAA
        have x0 := HACT.out.cell 0 (by simp)
        have x1 := HACT.out.cell 1 (by simp)
        simp only [List.getElem_cons_zero, List.getElem_cons_succ] at x0 x1
        clear hba hA1 HZ
        have HDO := Lib.hid (xdo d z HZA.out.x (by have := HDL.out; omega))
        have HT0 : Hid (d = 0 → T.doN d = T.takeN ∧ T.doB d z = T.takeB) := Lib.hid (fun h => by unfold TaS.doN TaS.doB; rw [if_pos h, if_pos h]; exact ⟨rfl, rfl⟩)
        have HT2 : Hid (d = 2 → T.doB d z = T.giveB z) := Lib.hid (fun h => by unfold TaS.doB; rw [if_neg (by omega), if_neg (by omega), if_pos h])
        have HRW := Lib.hid (rowA_do T d z)
        have HSL2 : Hid ((T.doS d z).st.length = n) := Lib.hid (by rw [TaS.do_len]; exact HSL.out)
        have HDL2 : Hid ((T.doS d z).done.length ≤ i + 1) := Lib.hid (by have := TaS.do_done T d z; have := HDL.out; omega)
        obtain ⟨dn, hdn⟩ : ∃ x, T.doN d = x := ⟨_, rfl⟩
        obtain ⟨db, hdb⟩ : ∃ x, T.doB d z = x := ⟨_, rfl⟩
        obtain ⟨T', hT'⟩ : ∃ x, T.doS d z = x := ⟨_, rfl⟩
        rw [hdn, hdb, hT'] at HDO
        rw [hdn, hdb] at HT0
        rw [hdb] at HT2
        rw [hT'] at HRW HSL2 HDL2
        clear hdn hdb hT'
        go_wp2_with fail
        refine HDO.out.mono ?_
        rintro r w4 h
        have HZ4 := Lib.hid (HZA.out.to h)
        have HACT4 := Lib.hid (h.2.2.blk HACT.out (fun hx => hx.2 HAA.out))
        obtain ⟨rfl, _, _⟩ := h
        clear x0 x1 c0 c1 HDO HACT HZA hwa ha
        have x0 := HACT4.out.cell 0 (by simp)
        have x1 := HACT4.out.cell 1 (by simp)
        simp only [List.getElem_cons_zero, List.getElem_cons_succ] at x0 x1
        go_upto_if 58 with fail
        go_cut [7] (fun s7 wx => ∃ (RA1 : Option Addr) (n1 c1 : Nat), s7 = .slice RA1 n1 c1 ∧ QRow w4 w.heap.size RA1 n1 c1 (rowA T d) ∧ (∀ g, inQ RA1 g → A1 g) ∧ w4 = wx)
        case first =>
          by_cases h0 : d = 0
          · have hra : rowA T d = T.takeS.row := by unfold rowA; rw [if_pos h0]
            obtain ⟨e1, e2⟩ := HT0.out h0
            have q0 : (d == 0) = true := by simpa using h0
            cases hrow : T.row with
            | nil =>
              have e3 : T.takeB = false := by unfold TaS.takeB; rw [hrow]; rfl
              have e4 : T.takeS.row = T.row := by unfold TaS.takeS; rw [if_pos hrow]
              have e5 : rn = 0 := by have := HZ4.out.q.len; rw [hrow] at this; simpa using this.symm
              obtain rfl : db = false := e2.trans e3
              subst e5
              have HE : Hid (QRow w4 w.heap.size RA 0 rc (rowA T d)) := Lib.hid (by rw [hra, e4]; exact HZ4.out.q)
              clear h0 hra e1 e2 e3 e4 hrow
              go_wp2_with fail
              go_meet
              case rel => exact ⟨_, _, _, rfl, HE.out, HZ4.out.qa, rfl⟩
            | cons x r =>
              obtain ⟨e3, e4, e5⟩ := TaS.take_cons hrow
              obtain rfl : db = true := e2.trans e4
              obtain rfl : x = dn := (e1.trans e3).symm
              have hq4 := HZ4.out.q
              rw [hrow] at hq4
              obtain ⟨RA', m', c', rfl, hcut, hq5, hin⟩ := hq4.cut he_z hz_z
              obtain ⟨b, o2, hbo, hbl2, hcell⟩ := hq4.rd (by rw [iCells_len]; simp)
              subst hbo
              have c0 := i_cell0 hcell
              obtain ⟨t1, t2⟩ := hcut
              have HE : Hid (QRow w4 w.heap.size RA' m' c' (rowA T d)) := Lib.hid (by rw [hra, e5]; exact hq5)
              have HIN : Hid (∀ g, inQ RA' g → A1 g) := Lib.hid (fun g hg => HZ4.out.qa g (hin g hg))
              have qz : (x != x) = false := by simp
              have dp : decide ((0 : Int) < ((m' + 1 : Nat) : Int)) = true := by simp
              clear h0 hra e1 e2 e3 e4 e5 hrow hq4 hq5 hin hcell hbl2
              go_wp2_with fail
              go_meet
              case rel => exact ⟨_, _, _, rfl, HE.out, HIN.out, rfl⟩
          · have HE : Hid (QRow w4 w.heap.size RA rn rc (rowA T d)) := Lib.hid (by unfold rowA; rw [if_neg h0]; exact HZ4.out.q)
            have q0 : (d == 0) = false := by simpa using h0
            clear h0
            go_wp2_with fail
            go_meet
            case rel => exact ⟨_, _, _, rfl, HE.out, HZ4.out.qa, rfl⟩
        case rest =>
          obtain ⟨RA1, n1, c1, rfl, hq, hqa, rfl⟩ := hcut
          have HX4 := Lib.hid HZ4.out.x
          have HQ1 := Lib.hid hq
          have HQA := Lib.hid hqa
          clear hq hqa HZ4 HT0
          go_upto_region 16 with fail
          go_cut [82] (fun s82 wx => s82 = .bool (decide (d = 2) && db) ∧ w4 = wx)
          case first =>
            by_cases h2 : d = 2
            · have q2 : (d == 2) = true := by simpa using h2
              have e : (decide (d = 2) && db) = db := by rw [decide_eq_true h2]; rfl
              have HE := Lib.hid e
              clear e h2
              go_wp2_with fail
              go_meet
              case rel => exact ⟨by rw [HE.out], rfl⟩
            · have q2 : (d == 2) = false := by simpa using h2
              have e : (decide (d = 2) && db) = false := by rw [decide_eq_false h2]; rfl
              have HE := Lib.hid e
              clear e h2
              go_wp2_with fail
              go_meet
              case rel => exact ⟨by rw [HE.out], rfl⟩
          case rest =>
            obtain ⟨rfl, rfl⟩ := hcut
            obtain ⟨tt, htt⟩ : ∃ t, (decide (d = 2) && db) = t := ⟨_, rfl⟩
            rw [htt]
            have HRW2 : Hid (T'.row = if tt = true then rowA T d ++ [z] else rowA T d) := Lib.hid (by
              rw [HRW.out, ← htt]
              by_cases h2 : d = 2
              · rw [← HT2.out h2, decide_eq_true h2, Bool.true_and]
                by_cases h3 : db = true
                · rw [if_pos ⟨h2, h3⟩, if_pos h3]
                · rw [if_neg (fun h => h3 h.2), if_neg h3]
              · rw [if_neg (fun h => h2 h.1), decide_eq_false h2, Bool.false_and, if_neg (by decide)])
            clear htt HRW HT2
            go_upto_if 82 with fail
            go_cut [7] (fun s7 wx => ∃ (RA2 : Option Addr) (n2 c2 : Nat) (A2 : Nat → Prop), s7 = .slice RA2 n2 c2 ∧ ZQ O w wx tb T' A2 RA2 n2 c2 T'.row)
            case first =>
              cases tt with
              | false =>
                have e := HRW2.out
                rw [if_neg (by decide)] at e
                have HE : Hid (ZQ O w w4 tb T' A1 RA1 n1 c1 T'.row) := Lib.hid ⟨HX4.out, by rw [e]; exact HQ1.out, HQA.out⟩
                clear e
                go_wp2_with fail
                go_meet
                case rel => exact ⟨_, _, _, _, rfl, HE.out⟩
              | true =>
                have e := HRW2.out
                rw [if_pos rfl] at e
                have HTR := Lib.hid e
                have hb5 : Below w4.heap.size w4 (w4.alloc (.cells #[.int .i64 z] 3)) := (Below.refl _ _).alloc (Nat.le_refl _) _
                have HR5 : Hid (RdV (w4.alloc (.cells #[.int .i64 z] 3)) (w4.alloc (.cells #[.int .i64 z] 3)).heap.size (some ⟨w4.heap.size, 0, none⟩) [.int .i64 z]) := Lib.hid (row_rd w4 [.int .i64 z])
                have HX5 := Lib.hid (HX4.out.up hb5)
                have HQ5 := Lib.hid (HQ1.out.up hb5)
                have HN1 : Hid (n1 ≤ 100000) := Lib.hid (by
                  have h1 := HX4.out.wf
                  have h2 := TaS.row_len h1
                  rw [HTR.out, List.length_append, HQ1.out.len] at h2
                  omega)
                obtain ⟨w5, hw5⟩ : ∃ u, w4.alloc (.cells #[.int .i64 z] 3) = u := ⟨_, rfl⟩
                rw [hw5] at HR5 HX5 HQ5
                clear e hb5
                go_wp2_with (first
                  | (at_builtin; go_loud (refine appQ _ rfl (.tmp 83) (.tmp 86) rfl w.heap.size n1 c1 1 w4.heap.size RA1 (rowA T d) z rfl HQ5.out rfl HR5.out HN1.out HX5.out.old.size ?_; intro RA2 c2 w6 hq hk hg; have HE : Hid (ZQ O w w6 tb T' (fun k => A1 k ∨ (w5.heap.size ≤ k ∧ k < w6.heap.size)) RA2 (n1 + 1) c2 T'.row) := Lib.hid ⟨HX5.out.putf hk (fun k hx => ⟨HQA.out k hx, HQ5.out.ge k hx⟩), by rw [HTR.out]; exact hq, fun g hx => (hg g hx).elim (fun h => .inl (HQA.out g h)) (fun h => .inr ⟨by omega, hq.lt g hx⟩)⟩; clear hq hk hg))
                  | fail)
                go_meet
                case rel => exact ⟨_, _, _, _, rfl, HE.out⟩
            case rest =>
              obtain ⟨RA2, n2, c2, A2, rfl, hz⟩ := hcut
              have HZ5 := Lib.hid hz
              have HWF := Lib.hid hz.x.wf
              have HN2 := Lib.hid hz.q.len
              clear hz HX4 HQ1 HQA HRW2 x0 x1 HACT4 HAA
              have hr24 := TaS.row_len HWF.out
              have hc24 := TaS.closed_len2 HWF.out
              obtain ⟨w5, hw5⟩ : ∃ u : World, u = wc := ⟨_, rfl⟩
              subst hw5
              go_wp2_with fail
              refine (xfree HZ5.out.x).mono ?_
              rintro r w6 hnn
              obtain ⟨A5, c5, rfl, _, _, hown, hb⟩ := tr_own hnn
              have HZ6 := Lib.hid (HZ5.out.fresh hb)
              have HF6 := Lib.hid (hown.le HZ5.out.x.old.size)
              clear hown hb hnn HZ5
              go_wp2_with fail
              refine (xclosed HZ6.out.x (by have := HDL2.out; omega)).mono ?_
              rintro r w7 hnn
              obtain ⟨A6, c6, rfl, _, _, hown, hb⟩ := tr_own hnn
              have HZ7 := Lib.hid (HZ6.out.up hb)
              have HF7 := Lib.hid (HF6.out.up hb)
              have HC7 := Lib.hid (hown.le HZ6.out.x.old.size)
              clear hown hb hnn HZ6 HF6
              go_wp2_with fail
              refine (rsame_is (xs := T'.row) (ys := T'.row) HF7.out.rd HZ7.out.q.rd rfl HN2.out (by omega)).mono ?_
              rintro r w8 ⟨rfl, hb⟩
              rw [show decide (T'.row = T'.row) = true by simp]
              have HZ8 := Lib.hid (HZ7.out.up hb)
              have HF8 := Lib.hid (HF7.out.up hb)
              have HC8 := Lib.hid (HC7.out.up hb)
              have hmk := make_ints n (by omega) w8
              have HB9 : Hid (Below w8.heap.size w8 (w8.alloc (zerosI n))) := Lib.hid ((Below.refl _ _).alloc (Nat.le_refl _) _)
              have HS9 := Lib.hid (zerosI_blk n w8)
              obtain ⟨w9, hw9⟩ : ∃ u, w8.alloc (zerosI n) = u := ⟨_, rfl⟩
              rw [hw9] at hmk HB9 HS9
              have HZR : Hid (∃ B, ZR O w w9 tb T' B RA2 n2 c2 w8.heap.size n (fun _ => 0) (.slice A5 T'.row.length c5) (.slice A6 T'.closedL.length c6)) := Lib.hid ⟨_, HZ8.out.fresh HB9.out, HS9.out, .inr ⟨Nat.le_refl _, lt_of_block HS9.out⟩, HZ8.out.x.old.size, fun g hg => HZ8.out.q.lt g hg, HF8.out.up HB9.out, HF8.out.ltOff, HC8.out.up HB9.out, HC8.out.ltOff⟩
              obtain ⟨A9, hzr9⟩ := HZR.out
              have HZ9 := Lib.hid hzr9
              obtain ⟨gs, hgs⟩ : ∃ g, w8.heap.size = g := ⟨_, rfl⟩
              rw [hgs] at HZ9 hmk
              obtain ⟨fn, hfn⟩ : ∃ x, T'.row.length = x := ⟨_, rfl⟩
              obtain ⟨cn, hcn⟩ : ∃ x, T'.closedL.length = x := ⟨_, rfl⟩
              have HFN := Lib.hid hfn
              have HCN := Lib.hid hcn
              rw [hfn, hcn] at HZ9
              rw [hfn] at hr24 ⊢
              rw [hcn] at hc24 ⊢
              clear hb HZ7 HF7 HC7 HZ8 HF8 HC8 HZR hzr9 HB9 HS9 hw9 hgs hfn hcn
              go_wp2_with fail
              clear hmk
              go_loopg [100] n (fun q y wx => ∃ k : Nat, k ≤ n ∧ q = n - k ∧ y = .int .i64 (k : Int) ∧ ZR O w wx tb T' A9 RA2 n2 c2 gs n (fun i => if i < k then 1 else 0) (.slice A5 fn c5) (.slice A6 cn c6))
              case atStart => exact ⟨0, by omega, by omega, rfl, HZ9.out.same (fun i hi => by rw [if_neg (by omega)])⟩
              case round =>
                clear HZ9
                obtain ⟨k, hk, hg, rfl, hz⟩ := hrel
                have HG := Lib.hid hg
                have HZ := Lib.hid hz
                clear hg hz
                by_cases hkn : k < n
                · obtain ⟨x, y0⟩ : ∃ x, wr.cell? ⟨gs, k, none⟩ = some x := ⟨_, HZ.out.cell hkn⟩
                  have f0 := HZ.out.s.free k
                  have HP := Lib.hid ((HZ.out.put k 1).same (g := fun i => if i < k + 1 then 1 else 0) (fun i hi => by
                    by_cases e : i = k
                    · rw [if_pos e, if_pos (by omega)]
                    · rw [if_neg e]
                      by_cases e2 : i < k
                      · rw [if_pos e2, if_pos (by omega)]
                      · rw [if_neg e2, if_neg (by omega)]))
                  clear HZ
                  go_wp2_with fail
                  go_roundg (n - (k + 1))
                  case rel => exact ⟨k + 1, by omega, rfl, by go_num, HP.out⟩
                  case measure => have := HG.out; omega
                · obtain rfl : k = n := by omega
                  have HZ1 := Lib.hid (HZ.out.same (g := fB T' 0) (fun i hi => by rw [if_pos hi]; unfold fB; rw [List.take_zero, if_neg (by simp)]))
                  obtain ⟨n, rfl⟩ : ∃ n, n = k := ⟨_, rfl⟩
                  clear HZ hkn HG hk
                  go_wp2_with fail
                  go_loopg [109] fn (fun q y wx => ∃ k : Nat, k ≤ fn ∧ q = fn - k ∧ y = .int .i64 (k : Int) ∧ ZR O w wx tb T' A9 RA2 n2 c2 gs n (fB T' k) (.slice A5 fn c5) (.slice A6 cn c6))
                  case atStart => exact ⟨0, by omega, by omega, rfl, HZ1.out⟩
                  case round =>
                    clear HZ1
                    obtain ⟨k, hk, hg, rfl, hz⟩ := hrel
                    have HG := Lib.hid hg
                    have HZ := Lib.hid hz
                    clear hg hz
                    by_cases hkn : k < fn
                    · have hkl : k < T'.row.length := by rw [HFN.out]; exact hkn
                      obtain ⟨j, hj, hjn⟩ := row_nat HWF.out hkl
                      rw [HSL2.out] at hjn
                      have hfo := HZ.out.fo
                      rw [HFN.out] at hfo
                      obtain ⟨b5, o5, rfl, _, hcell⟩ := hfo.rd (by rw [iCells_len]; omega)
                      have c0 := i_cellK hcell k hkl
                      rw [hj] at c0
                      obtain ⟨x, y0⟩ : ∃ x, wr.cell? ⟨gs, j, none⟩ = some x := ⟨_, HZ.out.cell hjn⟩
                      have f0 := HZ.out.s.free j
                      have HP := Lib.hid ((HZ.out.put j 0).same (g := fB T' (k + 1)) (fun i hi => fB_step hkl hj i))
                      clear HZ hkl hj hfo hcell
                      go_wp2_with fail
                      go_roundg (fn - (k + 1))
                      case rel => exact ⟨k + 1, by omega, rfl, by go_num, HP.out⟩
                      case measure => have := HG.out; omega
                    · obtain rfl : k = fn := by omega
                      have HZ2 := Lib.hid (HZ.out.same (g := fC T' 0) (fun i hi => by rw [← HFN.out]; exact fB_all T' i))
                      obtain ⟨fn, rfl⟩ : ∃ n, n = k := ⟨_, rfl⟩
                      clear HZ hkn HG hk
                      go_wp2_with fail
                      go_loopg [119] cn (fun q y wx => ∃ k : Nat, k ≤ cn ∧ q = cn - k ∧ y = .int .i64 (k : Int) ∧ ZR O w wx tb T' A9 RA2 n2 c2 gs n (fC T' k) (.slice A5 fn c5) (.slice A6 cn c6))
                      case atStart => exact ⟨0, by omega, by omega, rfl, HZ2.out⟩
                      case round =>
                        clear HZ2
                        obtain ⟨k, hk, hg, rfl, hz⟩ := hrel
                        have HG := Lib.hid hg
                        have HZ := Lib.hid hz
                        clear hg hz
                        by_cases hkn : k < cn
                        · have hkl : k < T'.closedL.length := by rw [HCN.out]; exact hkn
                          obtain ⟨j, hj, hjn⟩ := closed_nat HWF.out hkl
                          rw [HSL2.out] at hjn
                          have hco := HZ.out.co
                          rw [HCN.out] at hco
                          obtain ⟨b6, o6, rfl, hbl6, hcell⟩ := hco.rd (by rw [iCells_len]; omega)
                          have c0 := i_cellK hcell k hkl
                          rw [hj] at c0
                          have y0 := HZ.out.cell hjn
                          rw [fC_one HWF.out hkl hj] at y0
                          have q0 : ((1 : Int) != 1) = false := by decide
                          have HP := Lib.hid (fun (u : World) (hu : ZR O w u tb T' A9 RA2 n2 c2 gs n (fC T' k) (.slice A5 fn c5) (.slice (some ⟨b6, o6, none⟩) cn c6)) => (hu.put j 2).same (g := fC T' (k + 1)) (fun i hi => fC_step hkl hj i))
                          have HFR : Hid (∀ (u : World), ZR O w u tb T' A9 RA2 n2 c2 gs n (fC T' k) (.slice A5 fn c5) (.slice (some ⟨b6, o6, none⟩) cn c6) → u.frozen? ⟨gs, j, none⟩ = false ∧ ∃ x, u.cell? ⟨gs, j, none⟩ = some x) := Lib.hid (fun u hu => ⟨hu.s.free j, _, hu.cell hjn⟩)
                          by_cases hk0 : 0 < k
                          · obtain ⟨p, hp⟩ : ∃ p, p + 1 = k := ⟨k - 1, by omega⟩
                            have hpl : p < T'.closedL.length := by omega
                            have hold := closed_old hkl hp
                            obtain ⟨jp, hjp, _⟩ := closed_nat HWF.out hpl
                            have c1 := i_cellK hcell p hpl
                            rw [hjp] at c1 hold
                            rw [hj] at hold
                            have HA1 := Lib.hid (fun (u : World) (hu : ZR O w u tb T' A9 RA2 n2 c2 gs n (fC T' k) (.slice A5 fn c5) (.slice (some ⟨b6, o6, none⟩) cn c6)) => xage (jp : Int) hu.z.x (by have := HDL2.out; omega))
                            have HA2 := Lib.hid (fun (u : World) (hu : ZR O w u tb T' A9 RA2 n2 c2 gs n (fC T' k) (.slice A5 fn c5) (.slice (some ⟨b6, o6, none⟩) cn c6)) => xage (j : Int) hu.z.x (by have := HDL2.out; omega))
                            obtain ⟨a1, ha1⟩ : ∃ x, T'.ageN (jp : Int) = x := ⟨_, rfl⟩
                            obtain ⟨a2, ha2⟩ : ∃ x, T'.ageN (j : Int) = x := ⟨_, rfl⟩
                            rw [ha1] at HA1 hold
                            rw [ha2] at HA2 hold
                            have w1 : IntKind.i64.wrap ((k : Int) - 1) = (p : Int) := by rw [IntWalk.i64_in _ (by omega)]; omega
                            have hpc : p < cn := by omega
                            have dk : decide ((0 : Int) < (k : Int)) = true := by simp; omega
                            have da : decide ((a1 : Int) ≤ (a2 : Int)) = false := by simp; omega
                            clear hkl hj hjp hco hcell ha1 ha2 hpl hp
                            go_wp2_with fail
                            refine (HA1.out _ HZ.out).mono ?_
                            rintro r wb ⟨rfl, hb⟩
                            have HZb := Lib.hid (HZ.out.up hb)
                            clear hb
                            go_wp2_with fail
                            refine (HA2.out _ HZb.out).mono ?_
                            rintro r wd ⟨rfl, hb⟩
                            have HZd := Lib.hid (HZb.out.up hb)
                            obtain ⟨f0, x, hx⟩ := HFR.out _ HZd.out
                            clear hb HZb HA1 HA2 y0 c0 c1
                            go_wp2_with fail
                            go_roundg (cn - (k + 1))
                            case rel => exact ⟨k + 1, by omega, rfl, by go_num, HP.out _ HZd.out⟩
                            case measure => have := HG.out; omega
                          · have dk : decide ((0 : Int) < (k : Int)) = false := by simp; omega
                            obtain ⟨f0, x, hx⟩ := HFR.out _ HZ.out
                            clear hkl hj hco hcell
                            go_wp2_with fail
                            go_roundg (cn - (k + 1))
                            case rel => exact ⟨k + 1, by omega, rfl, by go_num, HP.out _ HZ.out⟩
                            case measure => have := HG.out; omega
                        · obtain rfl : k = cn := by omega
                          have HZ3 := Lib.hid (HZ.out.same (g := fun i => T'.stA (i : Int)) (fun i hi => by rw [← HCN.out]; exact fC_all HWF.out (by rw [HSL2.out]; exact hi)))
                          obtain ⟨cn, rfl⟩ : ∃ n, n = k := ⟨_, rfl⟩
                          clear HZ hkn HG hk
                          go_wp2_with fail
                          go_loopg [152] n (fun q y wx => ∃ k : Nat, k ≤ n ∧ q = n - k ∧ y = .int .i64 (k : Int) ∧ ZR O w wx tb T' A9 RA2 n2 c2 gs n (fun i => T'.stA (i : Int)) (.slice A5 fn c5) (.slice A6 cn c6))
                          case atStart => exact ⟨0, by omega, by omega, rfl, HZ3.out⟩
                          case round =>
                            clear HZ3
                            obtain ⟨k, hk, hg, rfl, hz⟩ := hrel
                            have HG := Lib.hid hg
                            have HZ := Lib.hid hz
                            clear hg hz
                            by_cases hkn : k < n
                            · have y0 := HZ.out.cell hkn
                              have HS := Lib.hid (xstate (k : Int) HZ.out.z.x)
                              rw [TaS.in_iff.2 (show 0 ≤ (k : Int) ∧ (k : Int) < (T'.st.length : Int) by rw [HSL2.out]; omega)] at HS
                              have HAG := Lib.hid (fun (u : World) (hu : ZR O w u tb T' A9 RA2 n2 c2 gs n (fun i => T'.stA (i : Int)) (.slice A5 fn c5) (.slice A6 cn c6)) => xage (k : Int) hu.z.x (by have := HDL2.out; omega))
                              have HA0 : Hid (T'.stA (k : Int) ≠ 2 → T'.ageN (k : Int) = 0) := Lib.hid (fun h => by unfold TaS.ageN; rw [if_neg h])
                              obtain ⟨s, hs⟩ : ∃ s, T'.stA (k : Int) = s := ⟨_, rfl⟩
                              rw [hs] at HS HA0
                              simp only [hs] at y0
                              have qs : (s != s) = false := by simp
                              clear hs
                              go_wp2_with fail
                              refine HS.out.mono ?_
                              rintro r wb ⟨rfl, hb⟩
                              have HZb := Lib.hid (HZ.out.up hb)
                              clear hb HS y0
                              by_cases h2 : s = 2
                              · have q2 : (s != 2) = false := by simp [h2]
                                clear h2
                                go_wp2_with fail
                                go_roundg (n - (k + 1))
                                case rel => exact ⟨k + 1, by omega, rfl, by go_num, HZb.out⟩
                                case measure => have := HG.out; omega
                              · have q2 : (s != 2) = true := by simpa using h2
                                have HA := Lib.hid (HAG.out _ HZb.out)
                                rw [HA0.out h2] at HA
                                clear h2 HAG HA0
                                go_wp2_with fail
                                refine HA.out.mono ?_
                                rintro r wd ⟨rfl, hb⟩
                                have HZd := Lib.hid (HZb.out.up hb)
                                clear hb HA
                                go_wp2_with fail
                                go_roundg (n - (k + 1))
                                case rel => exact ⟨k + 1, by omega, rfl, by go_num, HZd.out⟩
                                case measure => have := HG.out; omega
                            · obtain rfl : k = n := by omega
                              go_wp2_with fail
                              go_roundg (m - (i + 1))
                              case rel => exact ⟨i + 1, T', A9, RA2, n2, c2, by omega, rfl, rfl, by go_num, HSL2.out, HDL2.out, HZ.out.z⟩
                              case measure => have := HQ.out; omega
      · go_wp2_with fail
        go_ret
        exact ⟨rfl, HZ.out.x.old⟩
  · rw [if_neg hn] at h
    obtain ⟨ev, _, rfl⟩ := h
    clear hb hn
    go_wp2_with fail
    go_ret
    exact ⟨rfl, HB2.out⟩
end Go.Proofs.Yteoohafadijkmaa
