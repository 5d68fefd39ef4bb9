/-
  platelayerlaw01.FaultWords answers true, whatever the code, the steps and the step more.
-/
import Derived.Test.YtppanjdhfecmpaaDoorFaultS
namespace Go.Proofs.YtppanjdhfecmpaaDoor
open Go.RowKit Go.Extern.Stop Go.Stop Go.Extern

def MadeToo (w : World) (e : Int) (l : List (ByteArray × Int)) (r : Ending) (w' : World) : Prop :=
  ∃ (v : Value) (A : Option Addr) (c : Nat), r = .returned (.tuple #[v, .agg #[.slice A l.length c, .int .i64 e]]) ∧ Err w' e l.reverse v ∧ Steps w' w'.heap.size A l.reverse ∧ (l.reverse = [] → A = none ∧ c = 0) ∧ Below w.heap.size w w'

set_option maxHeartbeats 1000000 in
theorem made_none {w : World} (e : Int) (he : (e == 0) = false) (A : Option Addr) (c : Nat) : Calls Tryd.prog 8 #[.int .i64 e, .slice A 0 c] w (MadeToo w e []) := by
  have he' : (e != 0) = true := by simp [bne, he]
  go_enter Tryd.func8, Tryd.ntmps8
  go_wp2_with fail
  refine wp_loop_rounds 1 ?_
  rw [rounds_succ]
  go_wp2_with fail
  go_region
  go_wp2
  exact bodyPost_ret (v := .tuple #[.iface 22 (.int .i64 e), .agg #[.slice none 0 0, .int .i64 e]]) (by simp [results, Tryd.results8, go_sem]) rfl ⟨_, none, 0, rfl, rfl, (fun h => by simp at h), (fun _ => ⟨rfl, rfl⟩), (((Below.refl _ _).alloc (Nat.le_refl _) _).alloc (by simp) _).drew⟩
theorem made_too {w : World} (e : Int) (he : (e == 0) = false) (A : Option Addr) (l : List (ByteArray × Int)) (c : Nat) (hl : l.length ≤ 100) (hs : Steps w w.heap.size A l) :
    Calls Tryd.prog 8 #[.int .i64 e, .slice A l.length c] w (MadeToo w e l) := by
  cases l with
  | nil => exact made_none e he A c
  | cons s l =>
    refine (made_err e he A (s :: l) c hl hs).mono ?_
    rintro r w' ⟨v, A', c', hr, h1, h2, h3⟩
    exact ⟨v, A', c', hr, h1, h2, (fun h => by simp at h), h3⟩

theorem words_long {w : World} (hg : Gl w) (e : Int) (A : Option Addr) (n c : Nat) (op : ByteArray) (at_ : Int) (hn : 100 < n) : Calls Tryd.prog 6 #[.int .i64 e, .slice A n c, .agg #[.string op, .int .i64 at_]] w (TrueB w) := by
  have HB := Lib.hid ((Below.refl w.heap.size w).alloc (Nat.le_refl _) (.cells #[.string op, .int .i64 at_] 44))
  have HG := Lib.hid (hg.below HB.out)
  clear hg
  go_enter Tryd.func6, Tryd.ntmps6
  go_wp2_with (go_at_call 7; refine (awake_true HG.out).mono ?_; rintro r w1 ⟨rfl, hb⟩)
  go_ret
  exact ⟨rfl, below_all HB.out hb⟩
theorem words_ok {w : World} (hg : Gl w) (A : Option Addr) (n c : Nat) (op : ByteArray) (at_ : Int) (hn : ¬ 100 < n) : Calls Tryd.prog 6 #[.int .i64 0, .slice A n c, .agg #[.string op, .int .i64 at_]] w (TrueB w) := by
  have HB := Lib.hid ((Below.refl w.heap.size w).alloc (Nat.le_refl _) (.cells #[.string op, .int .i64 at_] 44))
  have HG := Lib.hid (hg.below HB.out)
  clear hg
  go_enter Tryd.func6, Tryd.ntmps6
  go_wp2_with (go_at_call 7; refine (awake_true HG.out).mono ?_; rintro r w1 ⟨rfl, hb⟩)
  go_ret
  exact ⟨rfl, below_all HB.out hb⟩
theorem words_big {w : World} (hg : Gl w) (e : Int) (he : (e == 0) = false) (A : Option Addr) (n c : Nat) (op : ByteArray) (at_ : Int) (hn : ¬ 100 < n) (hop : 100 < op.size) : Calls Tryd.prog 6 #[.int .i64 e, .slice A n c, .agg #[.string op, .int .i64 at_]] w (TrueB w) := by
  have HB := Lib.hid ((Below.refl w.heap.size w).alloc (Nat.le_refl _) (.cells #[.string op, .int .i64 at_] 44))
  have HG := Lib.hid (hg.below HB.out)
  clear hg
  go_enter Tryd.func6, Tryd.ntmps6
  go_wp2_with fail
  refine (awake_true HG.out).mono ?_
  rintro r w1 ⟨rfl, hb⟩
  have HB1 := Lib.hid hb
  have t0 : w1.cell? ⟨w.heap.size, 0, none⟩ = some (.string op) := (hb.cell (p := ⟨w.heap.size, 0, none⟩) (by simp)).trans (by simp)
  clear hb
  go_wp2_with fail
  go_ret
  exact ⟨rfl, below_all HB.out HB1.out⟩

theorem keep4 {w w' : World} {p q r t : Addr} {x y z v : Value} (h : w.cell? p = some x ∧ w.cell? q = some y ∧ w.cell? r = some z ∧ w.cell? t = some v) (hb : Below w.drew.heap.size w.drew w') :
    w'.cell? p = some x ∧ w'.cell? q = some y ∧ w'.cell? r = some z ∧ w'.cell? t = some v :=
  ⟨(hb.cell (p := p) (lt_of_cell h.1)).trans h.1, (hb.cell (p := q) (lt_of_cell h.2.1)).trans h.2.1, (hb.cell (p := r) (lt_of_cell h.2.2.1)).trans h.2.2.1, (hb.cell (p := t) (lt_of_cell h.2.2.2)).trans h.2.2.2⟩

def LoopAt (w : World) (l : List (ByteArray × Int)) (k : Nat) (i : Value) (wr : World) : Prop :=
  ∃ j : Nat, j ≤ l.length ∧ k = l.length - j ∧ i = .int .i64 j ∧ (∀ q (h : q < l.length), q < j → l[q].1.size ≤ 100) ∧ Below w.heap.size w wr

set_option maxHeartbeats 2000000 in
set_option maxRecDepth 100000 in
theorem words_true {w : World} (hg : Gl w) (ht : Tab w) (h1 : 1 < w.heap.size) (e : Int) (he : (e == 0) = false) (her : InRange e) (A : Option Addr) (l : List (ByteArray × Int)) (c : Nat) (op : ByteArray) (at_ : Int) (hl : l.length ≤ 100) (hop : op.size ≤ 100) (hat : InRange at_) (hr : ∀ s ∈ l, InRange s.2) (hs : Steps w w.heap.size A l) :
    Calls Tryd.prog 6 #[.int .i64 e, .slice A l.length c, .agg #[.string op, .int .i64 at_]] w (TrueB w) := by
  have HB := Lib.hid ((Below.refl w.heap.size w).alloc (Nat.le_refl _) (.cells #[.string op, .int .i64 at_] 44))
  have HG := Lib.hid (hg.below HB.out)
  have HS := Lib.hid hs
  have HTW := Lib.hid ht
  have HER := Lib.hid her
  have HAT := Lib.hid hat
  have HRG := Lib.hid hr
  clear hg hs ht her hat hr
  go_enter Tryd.func6, Tryd.ntmps6
  go_wp2_with fail
  refine (awake_true HG.out).mono ?_
  rintro r w1 ⟨rfl, hb1⟩
  have HB1 := Lib.hid hb1
  have t0 : w1.cell? ⟨w.heap.size, 0, none⟩ = some (.string op) := (hb1.cell (p := ⟨w.heap.size, 0, none⟩) (by simp)).trans (by simp)
  clear hb1
  go_wp2_with fail
  clear t0
  go_loopg [29] l.length (fun k i wr => LoopAt (w.alloc (.cells #[.string op, .int .i64 at_] 44)) l k i wr)
  case atStart => exact ⟨0, by omega, by omega, rfl, (fun q _ h => by omega), HB1.out⟩
  case round =>
    obtain ⟨j, hj, hk, rfl, hsm, hb⟩ := hrel
    have HK := Lib.hid hk
    have HBr := Lib.hid hb
    have HSM := Lib.hid hsm
    have hsz := hb.size
    clear hk hsm hb
    by_cases hlt : j < l.length
    · obtain ⟨b, o, rfl, hbl, hcell⟩ := ((HS.out.up HB.out).up HBr.out) (by omega)
      obtain ⟨g1, g2⟩ := hcell j hlt
      clear hcell
      have HSJ : Hid (l[j].1.size ≤ 100 → ∀ q (h : q < l.length), q < j + 1 → l[q].1.size ≤ 100) := Lib.hid fun h0 q hq hlt' => by
        rcases Nat.lt_or_ge q j with h | h
        · exact HSM.out q hq h
        · obtain rfl : q = j := by omega
          exact h0
      generalize l[j] = st at *
      obtain ⟨o1, n1⟩ := st
      dsimp only at g1 g2
      by_cases hbig : 100 < o1.size
      · go_wp2_with fail
        go_ret
        exact ⟨rfl, below_all HB.out (below_all HBr.out ((Below.refl _ _).alloc (Nat.le_refl _) _))⟩
      · go_wp2_with fail
        go_roundg (l.length - (j + 1))
        case rel => exact ⟨j + 1, by omega, rfl, by go_num, HSJ.out (by show o1.size ≤ 100; omega), below_all HBr.out ((Below.refl _ _).alloc (Nat.le_refl _) _)⟩
        case measure => rw [HK.out]; omega
    · obtain rfl : j = l.length := by omega
      have hokl : ∀ s ∈ (op, at_) :: l.reverse, OkStep s := by
        intro s hs
        rcases List.mem_cons.1 hs with rfl | hs
        · exact ⟨hop, HAT.out⟩
        · have hs' : s ∈ l := List.mem_reverse.1 hs
          obtain ⟨q, hq, rfl⟩ := List.getElem_of_mem hs'
          exact ⟨HSM.out q hq hq, HRG.out _ hs'⟩
      have HOK := Lib.hid hokl
      clear hokl
      go_wp2_with fail
      refine (made_too e he A l c hl ((HS.out.up HB.out).up HBr.out)).mono ?_
      rintro r w2 ⟨v2, A2, c2, rfl, herr2, hst2, h02, hb2⟩
      have hal : Below w2.heap.size w2 (w2.alloc (.cells #[.slice A2 l.length c2, .int .i64 e] 29)) := (Below.refl _ _).alloc (Nat.le_refl _) _
      have HBa := Lib.hid (below_all (below_all HBr.out hb2) hal)
      have HEa := Lib.hid (herr2.below hal)
      have HSa := Lib.hid (hst2.up hal)
      have HFa := Lib.hid (Rf.new w2 (.slice A2 l.length c2) (.int .i64 e))
      have H02 := Lib.hid h02
      have m0 : (w2.alloc (.cells #[.slice A2 l.length c2, .int .i64 e] 29)).cell? ⟨w.heap.size, 0, none⟩ = some (.string op) := (HBa.out.cell (p := ⟨w.heap.size, 0, none⟩) (by simp)).trans (by simp)
      have m1 : (w2.alloc (.cells #[.slice A2 l.length c2, .int .i64 e] 29)).cell? ⟨w.heap.size, 1, none⟩ = some (.int .i64 at_) := (HBa.out.cell (p := ⟨w.heap.size, 1, none⟩) (by simp)).trans (by simp)
      obtain ⟨tt, xv, rfl⟩ := herr2.form
      have hMl : w.heap.size < w2.heap.size := by have := below_all HBr.out hb2 |>.size; simp at this; omega
      clear hb2 herr2 hst2 hal h02
      go_wp2_with fail
      have HX := HEa.out.wrapped op at_
      rw [World.size_alloc] at HX
      have hal2 : Below (w2.alloc (.cells #[.slice A2 l.length c2, .int .i64 e] 29)).heap.size (w2.alloc (.cells #[.slice A2 l.length c2, .int .i64 e] 29)) ((w2.alloc (.cells #[.slice A2 l.length c2, .int .i64 e] 29)).alloc (.cells #[.string op, .int .i64 at_, .iface tt xv] 48)) := (Below.refl _ _).alloc (Nat.le_refl _) _
      have HBb := Lib.hid (below_all HBa.out hal2)
      have HSb := Lib.hid (HSa.out.up hal2)
      have HFb := Lib.hid (HFa.out.alloc (.cells #[.string op, .int .i64 at_, .iface tt xv] 48))
      have HXb := Lib.hid HX
      clear HX hal2 HBa HSa HFa HEa m0 m1
      generalize (w2.alloc (.cells #[.slice A2 l.length c2, .int .i64 e] 29)).alloc (.cells #[.string op, .int .i64 at_, .iface tt xv] 48) = wb at *
      have HMet : Hid (Met wb.drew e ((op, at_) :: l.reverse) (.pointer (some ⟨w2.heap.size + 1, 0, none⟩))) := by
        obtain ⟨bb, uu, hv, q1, q2, q3, q4, q5⟩ := HXb.out.below (Below.refl wb.heap.size wb).drew
        injection hv with _ hv
        exact Lib.hid ⟨bb, uu, hv, q1, q2, q3, q4, q5⟩
      have m0 : wb.cell? ⟨w.heap.size, 0, none⟩ = some (.string op) := (HBb.out.cell (p := ⟨w.heap.size, 0, none⟩) (by simp)).trans (by simp)
      have m1 : wb.cell? ⟨w.heap.size, 1, none⟩ = some (.int .i64 at_) := (HBb.out.cell (p := ⟨w.heap.size, 1, none⟩) (by simp)).trans (by simp)
      have f0 : wb.cell? ⟨w2.heap.size, 0, none⟩ = some (.slice A2 l.length c2) := HFb.out.cell 0
      have f1 : wb.cell? ⟨w2.heap.size, 1, none⟩ = some (.int .i64 e) := HFb.out.cell 1
      have hK : Hid (wb.cell? ⟨w.heap.size, 0, none⟩ = some (.string op) ∧ wb.cell? ⟨w.heap.size, 1, none⟩ = some (.int .i64 at_) ∧ wb.cell? ⟨w2.heap.size, 0, none⟩ = some (.slice A2 l.length c2) ∧ wb.cell? ⟨w2.heap.size, 1, none⟩ = some (.int .i64 e)) := Lib.hid ⟨m0, m1, f0, f1⟩
      have HTb : Hid (Tab wb.drew) := Lib.hid (tab_below HTW.out ((below_all HB.out HBb.out).drew) h1)
      have hwb1 : 1 < wb.drew.heap.size := by have := (below_all HB.out HBb.out).size; show 1 < wb.heap.size; omega
      have HSd := Lib.hid (HSb.out.up (Below.refl wb.heap.size wb).drew)
      have HLN : Hid (((op, at_) :: l.reverse).length = l.length + 1) := Lib.hid (by simp)
      have HWE := Lib.hid (error_is (p := .pointer (some ⟨w2.heap.size + 1, 0, none⟩)) (by simp) (by simp; omega) HOK.out HER.out HTb.out hwb1 HMet.out)
      have HWR : Hid (∀ (W : World) (Ax : Option Addr) (cx : Nat), Steps W W.heap.size Ax ((op, at_) :: l.reverse) → Calls Tryd.prog 19 #[.agg #[.slice Ax (l.length + 1) cx, .int .i64 e]] W (StrIs W (wordsOf e ((op, at_) :: l.reverse)))) := Lib.hid fun W Ax cx hst => by
        have h9 := rwords_is (c := cx) (by simp; omega) HOK.out HER.out hst
        rw [HLN.out] at h9
        exact h9
      have HWW : Hid (∀ W : World, Steps W W.heap.size A2 l.reverse → Calls Tryd.prog 20 #[.string op, .int .i64 at_, .agg #[.slice A2 l.length c2, .int .i64 e]] W (RWrapIs W e ((op, at_) :: l.reverse))) := Lib.hid fun W hst => by
        have h9 := rwrap_err (c := c2) op at_ he (by simp; omega) H02.out hst
        rw [List.length_reverse] at h9
        exact h9
      generalize wordsOf e ((op, at_) :: l.reverse) = res at *
      go_region_held3 (fun w' => w'.cell? ⟨w.heap.size, 0, none⟩ = some (.string op) ∧ w'.cell? ⟨w.heap.size, 1, none⟩ = some (.int .i64 at_) ∧ w'.cell? ⟨w2.heap.size, 0, none⟩ = some (.slice A2 l.length c2) ∧ w'.cell? ⟨w2.heap.size, 1, none⟩ = some (.int .i64 e))
        (first | exact K7.out | exact K6.out | exact K5.out | go_keep)
        (first
          | (go_at_call 18; refine HWE.out.mono ?_; rintro r w5 ⟨rfl, hb5⟩; have HB5 := Lib.hid hb5; clear hb5; have K5 := Lib.hid (keep4 hK.out HB5.out))
          | (go_at_call 20; refine (HWW.out _ (HSd.out.up HB5.out)).mono ?_; rintro r w6 ⟨A6, c6, rfl, _, hst6, hb6⟩; rw [HLN.out]; have HB6 := Lib.hid (below_all HB5.out hb6); have HST6 := Lib.hid hst6; clear hb6 hst6; have K6 := Lib.hid (keep4 hK.out HB6.out))
          | (go_at_call 19; refine (HWR.out _ _ _ HST6.out).mono ?_; rintro r w7 ⟨rfl, hb7⟩; have HB7 := Lib.hid (below_all HB6.out hb7); clear hb7; have K7 := Lib.hid (keep4 hK.out HB7.out)))
      go_wp2
      go_ret
      exact ⟨rfl, below_all HB.out (below_all (below_all HBb.out (Below.refl _ _).drew) HB7.out)⟩
end Go.Proofs.YtppanjdhfecmpaaDoor
