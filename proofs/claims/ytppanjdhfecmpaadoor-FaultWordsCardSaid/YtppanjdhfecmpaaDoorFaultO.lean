/-
  platelayerlaw01.FaultTells answers true, whatever the code, the steps, the Op and the other code.
-/
import Derived.Test.YtppanjdhfecmpaaDoorFaultM
import Derived.Test.YtppanjdhfecmpaaDoorFaultN
namespace Go.Proofs.YtppanjdhfecmpaaDoor
open Go.RowKit Go.Extern.Stop Go.Stop Go.Extern

theorem beq_flip (a b : Int) : (a == b) = (b == a) := by
  rw [Bool.eq_iff_iff, beq_iff_eq, beq_iff_eq]
  exact eq_comm

theorem tells_long {w : World} (hg : Gl w) (e : Int) (A : Option Addr) (n c : Nat) (op : ByteArray) (o : Int) (hn : 100 < n) : Calls Tryd.prog 3 #[.int .i64 e, .slice A n c, .string op, .int .i64 o] w (TrueB w) := by
  have HG := Lib.hid hg
  clear hg
  go_enter Tryd.func3, Tryd.ntmps3
  go_wp2_with (go_at_call 7; refine (awake_true HG.out).mono ?_; rintro r w1 ⟨rfl, hb⟩)
  go_ret
  exact ⟨rfl, hb⟩

theorem keep2 {w w' : World} {p q : Addr} {x y : Value} (h : w.cell? p = some x ∧ w.cell? q = some y) (hb : Below w.drew.heap.size w.drew w') : w'.cell? p = some x ∧ w'.cell? q = some y :=
  ⟨(hb.cell (p := p) (lt_of_cell h.1)).trans h.1, (hb.cell (p := q) (lt_of_cell h.2)).trans h.2⟩

set_option maxHeartbeats 2000000 in
set_option maxRecDepth 100000 in
theorem tells_true {w : World} (hg : Gl w) (e : Int) (he : (e == 0) = false) (A : Option Addr) (l : List (ByteArray × Int)) (c : Nat) (op : ByteArray) (o : Int) (hl : l.length ≤ 100) (hs : Steps w w.heap.size A l) :
    Calls Tryd.prog 3 #[.int .i64 e, .slice A l.length c, .string op, .int .i64 o] w (TrueB w) := by
  have HG := Lib.hid hg
  have HS := Lib.hid hs
  clear hg hs
  go_enter Tryd.func3, Tryd.ntmps3
  go_wp2_with fail
  refine (awake_true HG.out).mono ?_
  rintro r w1 ⟨rfl, hb1⟩
  have HB1 := Lib.hid hb1
  clear hb1
  go_wp2_with fail
  refine (made_err e he A l c hl (HS.out.up HB1.out)).mono ?_
  rintro r w2 ⟨v2, A2, c2, rfl, herr2, hst2, hb2⟩
  have hal : Below w2.heap.size w2 (w2.alloc (.cells #[.slice A2 l.length c2, .int .i64 e] 29)) := (Below.refl _ _).alloc (Nat.le_refl _) _
  have HBa := Lib.hid (below_all (below_all HB1.out hb2) hal)
  have HEa := Lib.hid (herr2.below hal)
  have HSa := Lib.hid (hst2.up hal)
  have HFa := Lib.hid (Rf.new w2 (.slice A2 l.length c2) (.int .i64 e))
  obtain ⟨tt, x, rfl⟩ := herr2.form
  clear hb2 herr2 hst2 hal
  go_wp2_with fail
  refine (place_err op HEa.out).mono ?_
  rintro r w3 ⟨rfl, hw3⟩
  have HP3 := rplace_is (e := e) (c := c2) op (by simp; omega) HSa.out
  rw [List.length_reverse] at HP3
  have HPC := Lib.hid HP3
  clear HP3
  rw [hw3] at HBa HEa HSa HFa HPC
  clear hw3
  generalize placeOf op l.reverse = pl at *
  obtain ⟨pa, pb⟩ := pl
  have f0 : w3.cell? ⟨w2.heap.size, 0, none⟩ = some (.slice A2 l.length c2) := HFa.out.cell 0
  have f1 : w3.cell? ⟨w2.heap.size, 1, none⟩ = some (.int .i64 e) := HFa.out.cell 1
  go_wp2_with fail
  refine HPC.out.mono ?_
  rintro r w4 ⟨rfl, hb4⟩
  have HB4 := Lib.hid (below_all HBa.out hb4)
  have HE4 := Lib.hid (HEa.out.below hb4)
  have HS4 := Lib.hid (HSa.out.up hb4)
  have HF4 := Lib.hid (HFa.out.below hb4 HFa.out.lt)
  clear hb4 f0 f1
  have f0 : w4.cell? ⟨w2.heap.size, 0, none⟩ = some (.slice A2 l.length c2) := HF4.out.cell 0
  have f1 : w4.cell? ⟨w2.heap.size, 1, none⟩ = some (.int .i64 e) := HF4.out.cell 1
  have hdr : Below w4.heap.size w4 w4.drew := (Below.refl _ _).drew
  have HGd := Lib.hid (HG.out.below (below_all HB4.out hdr))
  have HEd := Lib.hid (HE4.out.below hdr)
  have HSd := Lib.hid (HS4.out.up hdr)
  clear hdr
  have HL0 := Lib.hid (show (ops l.reverse).length = l.length by simp [ops])
  have hK : Hid (w4.cell? ⟨w2.heap.size, 0, none⟩ = some (.slice A2 l.length c2) ∧ w4.cell? ⟨w2.heap.size, 1, none⟩ = some (.int .i64 e)) := Lib.hid ⟨f0, f1⟩
  go_wp2_with fail
  go_region_held3 (fun w' => w'.cell? ⟨w2.heap.size, 0, none⟩ = some (.slice A2 l.length c2) ∧ w'.cell? ⟨w2.heap.size, 1, none⟩ = some (.int .i64 e))
      (first | exact K8.out | exact K7.out | exact K6.out | exact K5.out | go_keep)
      (first
        | (go_at_call 11; (with_reducible refine (code_err HGd.out HEd.out).mono ?_); rintro r w5 ⟨rfl, hb5⟩; have HB5 := Lib.hid hb5; clear hb5; have K5 := Lib.hid (keep2 hK.out HB5.out))
        | (go_at_call 13; (with_reducible refine (trail_err (by simp; omega) (HEd.out.below HB5.out)).mono ?_); rintro r w6 ⟨v6, rfl, hst6, hb6⟩; have HB6 := Lib.hid (below_all HB5.out hb6); clear hb6; have HT6 := Lib.hid hst6; clear hst6; have K6 := Lib.hid (keep2 hK.out HB6.out))
        | (go_at_call 14; have HCR := Lib.hid (rtrail_is (e := e) (c := c2) (by simp; omega) (HSd.out.up HB6.out)); rw [List.length_reverse] at HCR; refine HCR.out.mono ?_; rintro r w7 ⟨v7, rfl, hst7, hb7⟩; have HB7 := Lib.hid (below_all HB6.out hb7); have HT67 := Lib.hid (HT6.out.up hb7); clear hb7 HCR; have HT7 := Lib.hid hst7; clear hst7; have K7 := Lib.hid (keep2 hK.out HB7.out))
        | (go_at_call 12; refine (same_strs (by rw [HL0.out]; omega) HT67.out HT7.out).mono ?_; rintro r w8 ⟨rfl, n8, rfl⟩; have HB8 := Lib.hid (below_drewN HB7.out n8); have K8 := Lib.hid (keep2 hK.out HB8.out)))
  have HE8 : Hid (Err (w7.drewN n8) e l.reverse (.iface tt x)) := Lib.hid (HEd.out.below HB8.out)
  obtain ⟨k0, k1⟩ := K8.out
  have HBf := Lib.hid (below_all (below_all HB4.out (Below.refl _ _).drew) HB8.out)
  have hq1 : (!(o == 0) && (e == o)) = (!(o == 0) && (o == e)) := by
    rw [beq_flip e o]
  cases h0 : (o == 0) with
  | true =>
    have h0' : (o != 0) = false := by simp [bne, h0]
    rw [h0] at hq1
    have HQ := Lib.hid h0
    clear h0 hq1
    go_wp2_with fail
    refine (fIs_err o HE8.out).mono ?_
    rintro r w9 ⟨rfl, rfl⟩
    rw [HQ.out]
    go_wp2_with fail
    refine (wrap_ok _ _ _).mono ?_
    rintro r w10 ⟨rfl, rfl⟩
    go_wp2_with fail
    refine (wrap_nil _ _ _).mono ?_
    rintro r w10 ⟨rfl, rfl⟩
    go_wp2_with fail
    go_ret
    exact ⟨rfl, HBf.out⟩
  | false =>
    have h0' : (o != 0) = true := by simp [bne, h0]
    rw [h0] at hq1
    have HQ := Lib.hid h0
    have HQ1 := Lib.hid hq1
    clear h0 hq1
    cases h1 : (o == e) with
    | true =>
      go_wp2_with fail
      refine (fIs_err o HE8.out).mono ?_
      rintro r w9 ⟨rfl, rfl⟩
      rw [HQ.out, HQ1.out, h1]
      go_wp2_with fail
      refine (wrap_ok _ _ _).mono ?_
      rintro r w10 ⟨rfl, rfl⟩
      go_wp2_with fail
      refine (wrap_nil _ _ _).mono ?_
      rintro r w10 ⟨rfl, rfl⟩
      go_wp2_with fail
      go_ret
      exact ⟨rfl, HBf.out⟩
    | false =>
      go_wp2_with fail
      refine (fIs_err o HE8.out).mono ?_
      rintro r w9 ⟨rfl, rfl⟩
      rw [HQ.out, HQ1.out, h1]
      go_wp2_with fail
      refine (wrap_ok _ _ _).mono ?_
      rintro r w10 ⟨rfl, rfl⟩
      go_wp2_with fail
      refine (wrap_nil _ _ _).mono ?_
      rintro r w10 ⟨rfl, rfl⟩
      go_wp2_with fail
      go_ret
      exact ⟨rfl, HBf.out⟩

set_option maxHeartbeats 2000000 in
set_option maxRecDepth 100000 in
theorem tells_ok {w : World} (hg : Gl w) (A : Option Addr) (l : List (ByteArray × Int)) (c : Nat) (op : ByteArray) (o : Int) (hl : l.length ≤ 100) (hs : Steps w w.heap.size A l) :
    Calls Tryd.prog 3 #[.int .i64 0, .slice A l.length c, .string op, .int .i64 o] w (TrueB w) := by
  have HG := Lib.hid hg
  have HS := Lib.hid hs
  clear hg hs
  go_enter Tryd.func3, Tryd.ntmps3
  go_wp2_with fail
  refine (awake_true HG.out).mono ?_
  rintro r w1 ⟨rfl, hb1⟩
  have HB1 := Lib.hid hb1
  clear hb1
  go_wp2_with fail
  refine (made_ok A l c hl (HS.out.up HB1.out)).mono ?_
  rintro r w2 ⟨rfl, hb2⟩
  have hal : Below w2.heap.size w2 (w2.alloc (.cells #[.slice none 0 0, .int .i64 0] 29)) := (Below.refl _ _).alloc (Nat.le_refl _) _
  have HBa := Lib.hid (below_all (below_all HB1.out hb2) hal)
  have HFa := Lib.hid (Rf.new w2 (.slice none 0 0) (.int .i64 0))
  have hnil : Steps (w2.alloc (.cells #[.slice none 0 0, .int .i64 0] 29)) (w2.alloc (.cells #[.slice none 0 0, .int .i64 0] 29)).heap.size none [] := fun h => by simp at h
  have HNs := Lib.hid hnil
  clear hb2 hal hnil
  go_wp2_with fail
  refine (place_nil op _).mono ?_
  rintro r w3 ⟨rfl, hw3⟩
  rw [hw3] at HBa HFa HNs
  clear hw3
  have f0 : w3.cell? ⟨w2.heap.size, 0, none⟩ = some (.slice none 0 0) := HFa.out.cell 0
  have f1 : w3.cell? ⟨w2.heap.size, 1, none⟩ = some (.int .i64 0) := HFa.out.cell 1
  go_wp2_with fail
  refine (rplace_is (l := []) op (by simp) HNs.out).mono ?_
  rintro r w4 ⟨rfl, hb4⟩
  have HB4 := Lib.hid (below_all HBa.out hb4)
  have HF4 := Lib.hid (HFa.out.below hb4 HFa.out.lt)
  clear hb4 f0 f1
  have f0 : w4.cell? ⟨w2.heap.size, 0, none⟩ = some (.slice none 0 0) := HF4.out.cell 0
  have f1 : w4.cell? ⟨w2.heap.size, 1, none⟩ = some (.int .i64 0) := HF4.out.cell 1
  have hpl : placeOf op [] = (0, false) := rfl
  rw [hpl]
  clear hpl
  have hK : Hid (w4.cell? ⟨w2.heap.size, 0, none⟩ = some (.slice none 0 0) ∧ w4.cell? ⟨w2.heap.size, 1, none⟩ = some (.int .i64 0)) := Lib.hid ⟨f0, f1⟩
  go_wp2_with fail
  go_region_held3 (fun w' => w'.cell? ⟨w2.heap.size, 0, none⟩ = some (.slice none 0 0) ∧ w'.cell? ⟨w2.heap.size, 1, none⟩ = some (.int .i64 0))
      (first | exact K8.out | exact K7.out | exact K6.out | exact K5.out | go_keep)
      (first
        | (go_at_call 11; (with_reducible refine (code_nil _).mono ?_); rintro r w5 ⟨rfl, hb5⟩; have HB5 := Lib.hid hb5; clear hb5; have K5 := Lib.hid (keep2 hK.out HB5.out))
        | (go_at_call 13; (with_reducible refine (trail_nil _).mono ?_); rintro r w6 ⟨v6, rfl, hst6, hb6⟩; have HB6 := Lib.hid (below_all HB5.out hb6); clear hb6; have HT6 := Lib.hid hst6; clear hst6; have K6 := Lib.hid (keep2 hK.out HB6.out))
        | (go_at_call 14; refine (rtrail_is (l := []) (e := 0) (c := 0) (by simp) (fun h => by simp at h)).mono ?_; rintro r w7 ⟨v7, rfl, hst7, hb7⟩; have HB7 := Lib.hid (below_all HB6.out hb7); have HT67 := Lib.hid (HT6.out.up hb7); clear hb7; have HT7 := Lib.hid hst7; clear hst7; have K7 := Lib.hid (keep2 hK.out HB7.out))
        | (go_at_call 12; refine (same_strs (xs := []) (by simp) HT67.out HT7.out).mono ?_; rintro r w8 ⟨rfl, n8, rfl⟩; have HB8 := Lib.hid (below_drewN HB7.out n8); have K8 := Lib.hid (keep2 hK.out HB8.out)))
  obtain ⟨k0, k1⟩ := K8.out
  have HBf := Lib.hid (below_all (below_all HB4.out (Below.refl _ _).drew) HB8.out)
  by_cases h0 : o = 0
  · subst h0
    go_wp2_with fail
    refine (is_nil _ _).mono ?_
    rintro r w9 ⟨rfl, rfl⟩
    go_wp2_with fail
    refine (wrap_ok _ _ _).mono ?_
    rintro r w10 ⟨rfl, rfl⟩
    go_wp2_with fail
    refine (wrap_nil _ _ _).mono ?_
    rintro r w10 ⟨rfl, rfl⟩
    go_wp2_with fail
    go_ret
    exact ⟨rfl, HBf.out⟩
  · have h1 : (o == 0) = false := by simpa using h0
    have h2 : (o != 0) = true := by simp [bne, h1]
    clear h0
    go_wp2_with fail
    refine (is_nil _ _).mono ?_
    rintro r w9 ⟨rfl, rfl⟩
    go_wp2_with fail
    refine (wrap_ok _ _ _).mono ?_
    rintro r w10 ⟨rfl, rfl⟩
    go_wp2_with fail
    refine (wrap_nil _ _ _).mono ?_
    rintro r w10 ⟨rfl, rfl⟩
    go_wp2_with fail
    go_ret
    exact ⟨rfl, HBf.out⟩
end Go.Proofs.YtppanjdhfecmpaaDoor
