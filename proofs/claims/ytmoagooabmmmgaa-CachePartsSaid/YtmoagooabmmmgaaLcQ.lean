/-
  platelayerlaw10.CacheParts answers true.
-/
import Derived.Test.YtmoagooabmmmgaaLcP
import Derived.Deep.AppendLies
import Derived.Test.YtmoagooabmmmgaaLcA0
import Derived.Test.YtmoagooabmmmgaaCaH
import Derived.Test.YtmoagooabmmmgaaCaI
namespace Go.Proofs.Ytmoagooabmmmgaa
open Go.RowKit

theorem allD_snoc (L : List CE) (i : Nat) (h : i < L.length) : (L.take (i + 1)).filter (fun e => e.d) = if L[i].d = true then (L.take i).filter (fun e => e.d) ++ [L[i]] else (L.take i).filter (fun e => e.d) := by
  rw [List.take_succ_eq_append_getElem h, List.filter_append]
  by_cases e : L[i].d = true
  · rw [if_pos e, List.filter_cons_of_pos e]
    rfl
  · rw [if_neg e, List.filter_cons_of_neg e]
    simp
def gotL (S : CaS) (j : Nat) : List CE := (S.tabL.take j).flatMap (fun t : Nat => S.dirtyL (t : Int))
theorem gotL_snoc (S : CaS) (j : Nat) (h : j < S.tabL.length) : gotL S (j + 1) = gotL S j ++ S.dirtyL (S.tabL[j] : Int) := by
  unfold gotL
  rw [List.take_succ_eq_append_getElem h, List.flatMap_append]
  simp
theorem gotL_all {S : CaS} (hw : S.WF) : gotL S S.tabL.length = S.allD := by
  unfold gotL
  rw [List.take_length]
  exact CaS.tab_flat hw
theorem gotL_len {S : CaS} (hw : S.WF) (j : Nat) : (gotL S j).length ≤ 64 := by
  have h1 : gotL S S.tabL.length = gotL S j ++ (S.tabL.drop j).flatMap (fun t : Nat => S.dirtyL (t : Int)) := by
    unfold gotL
    rw [← List.flatMap_append, List.take_append_drop, List.take_length]
  have h2 : (gotL S S.tabL.length).length ≤ 64 := by
    rw [gotL_all hw]
    exact Nat.le_trans (List.length_filter_le _ _) (Nat.le_trans hw.le hw.n64)
  rw [h1, List.length_append] at h2
  omega
/-- What is read lies elsewhere. -/
def Away (A : Option Addr) (g : Nat) : Prop := ∀ b o x, A = some ⟨b, o, x⟩ → b ≠ g
theorem RdV.grown {w w' : World} {A : Option Addr} {vs : List Value} {g : Nat} (h : RdV w w.heap.size A vs) (hg : w.grownBy w' (some g)) (ha : 0 < vs.length → Away A g) : RdV w' w'.heap.size A vs :=
  h.keep (F := fun k => k = g) ((Kept.refl _ w).grown hg (fun k e => .inl (Option.some.inj e).symm)) (fun hp b o x e => ha hp b o x e)
theorem OwnK.grown {w w' : World} {base k n c gw g : Nat} {T : TypeId} {cs : List Value} (h : OwnK w base T k (.slice (some ⟨gw, 0, none⟩) n c) n cs) (hg : w.grownBy w' (some g)) (hne : gw ≠ g) : OwnK w' base T k (.slice (some ⟨gw, 0, none⟩) n c) n cs :=
  ⟨h.1, h.2.imp id fun ⟨g', c', cur, hv, hb, hc, r⟩ => ⟨g', c', cur, hv, hb, (hg.block g' (lt_of_block hc) (fun e => by
    injection hv with e1
    have e1 := Option.some.inj e1
    injection e1 with e1
    have e := Option.some.inj e
    omega)).trans hc, r⟩⟩
theorem LcW.grown {w0 w w' : World} {cb kb ib eb g : Nat} {S : CaS} (h : LcW w0 w cb kb ib eb S) (hg : w.grownBy w' (some g)) (hr : cb < g) : LcW w0 w' cb kb ib eb S := by
  have hlt := h.lt
  obtain ⟨⟨σ, hm⟩, h2, h3⟩ := h
  have hk := (Kept.refl (fun k => cb < k) w).grown hg (fun k e => .inl (by have := Option.some.inj e; omega))
  exact ⟨⟨σ, hm.keep hk (by omega) (by omega) (by omega) (by omega)⟩, h2, below_grown h3 hg (fun k e => by have := Option.some.inj e; omega)⟩
theorem RdV.lt {w : World} {B b o : Nat} {x : Option Nat} {vs : List Value} (h : RdV w B (some ⟨b, o, x⟩) vs) (hp : 0 < vs.length) : b < B := by
  obtain ⟨b', o', e, hlt, _⟩ := h hp
  have e := Option.some.inj e
  injection e with e1
  omega
theorem away_next {cb g g' b o : Nat} {w : World} (h : cb < g ∧ Away (some ⟨b, o, none⟩) g) (hg : g' = g ∨ g' = w.heap.size) (hc : cb < w.heap.size) (hb : b < w.heap.size) : cb < g' ∧ Away (some ⟨b, o, none⟩) g' := by
  rcases hg with rfl | rfl
  · exact h
  · refine ⟨hc, fun b' o' x e => ?_⟩
    have e := Option.some.inj e
    injection e with e1
    omega
/-- append of entries onto a row of one's own: where the row lies. -/
theorem appL (w : World) {ops : Array Oper} {rest : List Oper} {o : Oper} {a : Act} {Q : Exit → Act → World → Prop} (hgd : o.guard = none) (s x : Operand) (ho : o.op = .call { callee := .builtin .append, args := #[s, x], argTypes := #[44, 44] })
    (base g cap n m c : Nat) (ys xs : List CE) (ad : Addr) (hs : a.eval s = .slice (some ⟨g, 0, none⟩) n cap) (hown : OwnK w base 46 3 (.slice (some ⟨g, 0, none⟩) n cap) n (cesC ys)) (hx : a.eval x = .slice (some ad) m c) (hm : xs.length = m) (hr : RdV w w.heap.size (some ad) (cesC xs)) (hp : 0 < m)
    (hlen : n + m ≤ 1000000) (hbase : base ≤ w.heap.size)
    (h : ∀ g' cap' w', OwnK w' base 46 3 (.slice (some ⟨g', 0, none⟩) (n + m) cap') (n + m) (cesC (ys ++ xs)) → w.grownBy w' (some g) → (g' = g ∨ g' = w.heap.size) → wpList Try.prog ops Q rest (a.put o.dst (.slice (some ⟨g', 0, none⟩) (n + m) cap')) w') : wpList Try.prog ops Q (o :: rest) a w := by
  obtain ⟨i0, hi, hz0, hz1, hz2⟩ := info_parts ceInfo
  refine wpList_append_lies w hgd s x 44 ho base 46 i0 (.agg #[.int .i64 0, .int .u32 0, .bool false]) 3 16 Try.underlying44 hi hz0 hz1 hz2 rfl (by decide) _ n (cesC ys) hs hown ad m c (cesC xs) hx (by rw [cesC_len, hm]) (srcK hr rfl) (cesC_one xs) hp (by unfold maxLen; omega) (by omega) hbase w.heap.size rfl ?_
  intro g' cap' w' h2 h3 h4 _
  refine h g' cap' w' (by rw [cesC_app]; exact h2) h3 (h4.imp (fun e => (Option.some.inj e).symm) id)
set_option maxHeartbeats 8000000 in
set_option maxRecDepth 100000 in
theorem cparts_true {w : World} (n : Int) (A : Option Addr) (m c : Nat) (l : List CAct) (t : Int) (hl : l.length = m) (hr : RdC w A l) : Calls Try.prog 4 #[.int .i64 n, .slice A m c, .int .i64 t] w (BoolB true w) := by
  have HL := Lib.hid hl
  have HR := Lib.hid hr
  clear hl hr
  go_enter Try.func4, Try.ntmps4
  go_wp2_with fail
  refine (caawake_true w).mono ?_
  rintro r w1 ⟨rfl, hb⟩
  have HB1 := Lib.hid hb
  clear hb
  go_wp2_with fail
  refine (lcnew_at n w1).mono ?_
  rintro r w2 ⟨hb, h⟩
  have HB2 := Lib.hid (below_all HB1.out hb)
  by_cases hnn : 1 ≤ n ∧ n ≤ 64
  · rw [if_pos hnn] at h
    obtain ⟨cb, kb, ib, eb, hge, rfl, hm⟩ := h
    have HW2 : Hid (LcW w w2 cb kb ib eb ⟨[], [], [], n.toNat⟩) := Lib.hid ⟨⟨id, hm⟩, by have := HB1.out.size; omega, HB2.out⟩
    clear hb hge hm
    by_cases hmm : 200 < m
    · go_wp2_with fail
      go_ret
      exact ⟨rfl, HB2.out⟩
    clear HB2 HB1
    go_wp2_with fail
    go_loopg [39] m (fun q x wr => ∃ (i : Nat) (S : CaS), i ≤ m ∧ q = m - i ∧ x = .int .i64 (i : Int) ∧ LcW w wr cb kb ib eb S)
    case atStart => exact ⟨0, _, by omega, rfl, rfl, HW2.out⟩
    case round =>
      clear HW2
      obtain ⟨i, S, hi, hq, rfl, hw⟩ := hrel
      have HQ := Lib.hid hq
      have HW := Lib.hid hw
      clear hq hw
      by_cases hlt : i < m
      · have hll : i < l.length := by rw [HL.out]; exact hlt
        obtain ⟨b, o, rfl, _, hcell⟩ := (HR.out.below HW.out.old) (by omega)
        obtain ⟨c0, c1, c2, c3⟩ := hcell i hll
        obtain ⟨xd, hxd⟩ : ∃ d, l[i].d = d := ⟨_, rfl⟩
        obtain ⟨xb, hxb⟩ : ∃ d, l[i].b = d := ⟨_, rfl⟩
        obtain ⟨xa, hxa⟩ : ∃ d, l[i].a = d := ⟨_, rfl⟩
        obtain ⟨xy, hxy⟩ : ∃ d, l[i].y = d := ⟨_, rfl⟩
        rw [hxd] at c0
        rw [hxb] at c1
        rw [hxa] at c2
        rw [hxy] at c3
        obtain ⟨wa, hwa⟩ : ∃ wa, wr.alloc (.cells #[.int .i64 xd, .int .i64 xb, .int .u32 (xa : Int), .bool xy] 31) = wa := ⟨_, rfl⟩
        have hba : Below wr.heap.size wr wa := by rw [← hwa]; exact (Below.refl _ _).alloc (Nat.le_refl _) _
        have hbk : Blk wa wr.heap.size 31 [.int .i64 xd, .int .i64 xb, .int .u32 (xa : Int), .bool xy] := by rw [← hwa]; exact heap_alloc_new wr _
        have y0 := hbk.cell 0 (by simp)
        have y1 := hbk.cell 1 (by simp)
        have y2 := hbk.cell 2 (by simp)
        have y3 := hbk.cell 3 (by simp)
        simp only [List.getElem_cons_zero, List.getElem_cons_succ] at y0 y1 y2 y3
        have HA := Lib.hid (wdo xd xb xa xy (HW.out.up hba))
        clear hcell hxd hxb hxa hxy hba hbk HW
        go_wp2_with fail
        refine HA.out.mono ?_
        rintro r w5 ⟨rfl, h5, _⟩
        obtain ⟨S', hS'⟩ : ∃ S', S.doS xd xb xa xy = S' := ⟨_, rfl⟩
        rw [hS'] at h5
        have HW5 := Lib.hid h5
        generalize S.toldN xd xb = q1
        generalize S.toldB xd xb = q2
        generalize S.toldM xd xb = q3
        clear h5 hS' HA y0 y1 y2 y3 c0 c1 c2 c3
        go_wp2_with fail
        go_roundg (m - (i + 1))
        case rel => exact ⟨i + 1, S', by omega, rfl, by go_num, HW5.out⟩
        case measure => have := HQ.out; omega
      · have hwf := HW.out.wf
        have hn64 : S.E.length ≤ 64 := Nat.le_trans hwf.le hwf.n64
        have HWF := Lib.hid hwf
        have HN64 := Lib.hid hn64
        obtain ⟨N, hN⟩ : ∃ N, S.E.length = N := ⟨_, rfl⟩
        have HLN := Lib.hid hN
        rw [hN] at hn64
        obtain ⟨wb, hwb⟩ : ∃ wb, wr.alloc (.cells #[] 46) = wb := ⟨_, rfl⟩
        have hbb : Below wr.heap.size wr wb := by rw [← hwb]; exact (Below.refl _ _).alloc (Nat.le_refl _) _
        have HO0 : Hid (OwnK wb w.heap.size 46 3 (.slice (some ⟨wr.heap.size, 0, none⟩) 0 0) 0 []) := Lib.hid (by rw [← hwb]; exact OwnK.new wr _ _ 3 0 [] HW.out.old.size rfl (by omega))
        have HWB := Lib.hid (HW.out.up hbb)
        have HCB : Hid (cb < wr.heap.size) := Lib.hid HW.out.lt.2.2.2.2
        have HSB : Hid (wb.heap.size = wr.heap.size + 1) := Lib.hid (by rw [← hwb]; simp)
        clear hwf hN hbb HW
        go_wp2_with fail
        refine (wall HWB.out).mono ?_
        rintro r w6 ⟨A6, c6, rfl, hr6, hz6, hb6, h6, ha6⟩
        rw [HLN.out]
        have HR6 := Lib.hid hr6
        have HO6 := Lib.hid (HO0.out.up hb6)
        have HW6 := Lib.hid h6
        obtain ⟨g0, hg0⟩ : ∃ g, wr.heap.size = g := ⟨_, rfl⟩
        rw [hg0] at HO6 ⊢
        have HG6 : Hid (cb < g0 ∧ Away A6 g0) := Lib.hid ⟨by rw [← hg0]; exact HCB.out, fun b o x e => by have := ha6 b o x e; rw [HSB.out] at this; omega⟩
        clear hr6 hz6 hb6 h6 ha6 hg0 HO0 HWB
        go_wp2_with fail
        go_loopg [11, 51] N (fun q x y wq => ∃ (i k g cap : Nat), i ≤ N ∧ q = N - i ∧ x = .slice (some ⟨g, 0, none⟩) k cap ∧ y = .int .i64 (i : Int) ∧ ((S.E.take i).filter (fun e => e.d)).length = k ∧ k ≤ i ∧ OwnK wq w.heap.size 46 3 (.slice (some ⟨g, 0, none⟩) k cap) k (cesC ((S.E.take i).filter (fun e => e.d))) ∧ LcW w wq cb kb ib eb S ∧ RdV wq wq.heap.size A6 (cesC S.E) ∧ cb < g ∧ Away A6 g)
        case atStart => exact ⟨0, 0, g0, 0, by omega, rfl, rfl, rfl, by simp, by omega, by simpa [cesC] using HO6.out, HW6.out, HR6.out, HG6.out.1, HG6.out.2⟩
        case round =>
          clear HO6 HW6 HR6 HG6
          obtain ⟨i2, k, g, cap, hi2, hq2, rfl, rfl, hk, hki, ho, hw2, hr2, hcg, haw⟩ := hrel
          have HQ2 := Lib.hid hq2
          have HKL := Lib.hid hk
          have HO := Lib.hid ho
          have HW := Lib.hid hw2
          have HR2 := Lib.hid hr2
          have HAW := Lib.hid (And.intro hcg haw)
          clear hq2 hk ho hw2 hr2 hcg haw
          by_cases hlt2 : i2 < N
          · have hll : i2 < S.E.length := by rw [HLN.out]; exact hlt2
            obtain ⟨b, o, hA6, _, hcell⟩ := HR2.out (by rw [cesC_len, HLN.out]; omega)
            obtain ⟨c0, c1, c2⟩ := ces_cells hcell i2 hll
            have HT := Lib.hid (allD_snoc S.E i2 hll)
            obtain ⟨x, hx⟩ : ∃ x, S.E[i2].b = x := ⟨_, rfl⟩
            obtain ⟨y, hy⟩ : ∃ y, S.E[i2].a = y := ⟨_, rfl⟩
            obtain ⟨d, hd⟩ : ∃ d, S.E[i2].d = d := ⟨_, rfl⟩
            have hxs : S.E[i2] = ⟨x, y, d⟩ := by rw [← hx, ← hy, ← hd]
            rw [hxs] at c0 c1 c2 HT
            obtain ⟨w5, hw5⟩ : ∃ u, wr.alloc (.cells #[.int .i64 (x : Int), .int .u32 (y : Int), .bool d] 33) = u := ⟨_, rfl⟩
            have hb5 : Below wr.heap.size wr w5 := by rw [← hw5]; exact (Below.refl _ _).alloc (Nat.le_refl _) _
            have hx5 : Blk w5 wr.heap.size 33 [.int .i64 (x : Int), .int .u32 (y : Int), .bool d] := by rw [← hw5]; exact heap_alloc_new wr _
            have y0 := hx5.cell 0 (by simp)
            have y1 := hx5.cell 1 (by simp)
            have y2 := hx5.cell 2 (by simp)
            simp only [List.getElem_cons_zero, List.getElem_cons_succ] at y0 y1 y2
            have HO5 := Lib.hid (HO.out.up hb5)
            have HW5 := Lib.hid (HW.out.up hb5)
            have HR5 := Lib.hid (HR2.out.up hb5)
            have HGL := Lib.hid (show g < wr.heap.size from HO.out.blockLt g rfl)
            obtain ⟨a5, ha5⟩ : ∃ a, wr.heap.size = a := ⟨_, rfl⟩
            rw [ha5] at y0 y1 y2
            subst hA6
            clear hcell hx hy hd hxs hb5 hx5 HO HW HR2
            go_upto_region 15 with fail
            clear hw5
            cases d with
            | false =>
              have HT2 : Hid ((S.E.take (i2 + 1)).filter (fun e => e.d) = (S.E.take i2).filter (fun e => e.d)) := Lib.hid (HT.out.trans (if_neg (by simp)))
              clear HT
              go_wp2_with fail
              go_roundg (N - (i2 + 1))
              case rel => exact ⟨i2 + 1, k, g, cap, by omega, rfl, rfl, by go_num, by rw [HT2.out]; exact HKL.out, by omega, by rw [HT2.out]; exact HO5.out, HW5.out, HR5.out, HAW.out.1, HAW.out.2⟩
              case measure => have := HQ2.out; omega
            | true =>
              have HT2 : Hid ((S.E.take (i2 + 1)).filter (fun e => e.d) = (S.E.take i2).filter (fun e => e.d) ++ [⟨x, y, true⟩]) := Lib.hid (HT.out.trans (if_pos rfl))
              obtain ⟨lst, hlst⟩ : ∃ lst, (S.E.take i2).filter (fun e => e.d) = lst := ⟨_, rfl⟩
              rw [hlst] at HT2 HKL HO5
              obtain ⟨w7, hw7⟩ : ∃ u, w5.alloc (.cells #[.int .i64 (x : Int), .int .u32 (y : Int), .bool true] 46) = u := ⟨_, rfl⟩
              have hb7 : Below w5.heap.size w5 w7 := by rw [← hw7]; exact (Below.refl _ _).alloc (Nat.le_refl _) _
              have HO7 := Lib.hid (HO5.out.up hb7)
              have HW7 := Lib.hid (HW5.out.up hb7)
              have HR8 := Lib.hid (HR5.out.up hb7)
              have HR7 : Hid (RdV w7 w7.heap.size (some ⟨w5.heap.size, 0, none⟩) (cesC [⟨x, y, true⟩])) := Lib.hid (fun _ => ⟨w5.heap.size, 0, rfl, by rw [← hw7]; simp, fun i hi => by rw [Nat.zero_add, ← hw7]; exact Blk.cell (T := 46) (cs := [.int .i64 (x : Int), .int .u32 (y : Int), .bool true]) (heap_alloc_new w5 _) i hi⟩)
              clear HT hlst hb7 HO5 HW5 HR5
              go_wp2_with (first
                | (at_builtin; refine appL _ rfl (.tmp 57) (.tmp 59) rfl w.heap.size g cap k 1 1 lst [⟨x, y, true⟩] ⟨w5.heap.size, 0, none⟩ rfl HO7.out rfl rfl HR7.out (by omega) (by omega) HW7.out.old.size ?_; intro g' cap' w8 ho hg hgg; have HO8 : Hid (OwnK w8 w.heap.size 46 3 (.slice (some ⟨g', 0, none⟩) (k + 1) cap') (k + 1) (cesC ((S.E.take (i2 + 1)).filter (fun e => e.d)))) := Lib.hid (by rw [HT2.out]; exact ho); have HW8 := Lib.hid (HW7.out.grown hg HAW.out.1); have HR9 := Lib.hid (HR8.out.grown hg (fun _ => HAW.out.2)); have HAW8 : Hid (cb < g' ∧ Away (some ⟨b, o, none⟩) g') := Lib.hid (away_next HAW.out hgg (by have := HW7.out.lt; omega) (HR8.out.lt (by rw [cesC_len, HLN.out]; omega))); clear ho hg hgg)
                | fail)
              go_roundg (N - (i2 + 1))
              case rel => exact ⟨i2 + 1, k + 1, g', cap', by omega, rfl, rfl, by go_num, by rw [HT2.out, List.length_append, HKL.out]; rfl, by omega, HO8.out, HW8.out, HR9.out, HAW8.out.1, HAW8.out.2⟩
              case measure => have := HQ2.out; omega
          · obtain rfl : i2 = N := by omega
            have hto : S.E.take i2 = S.E := List.take_of_length_le (by rw [HLN.out]; exact Nat.le_refl _)
            rw [hto] at HKL HO
            have HO : Hid (OwnK wr w.heap.size 46 3 (.slice (some ⟨g, 0, none⟩) k cap) k (cesC S.allD)) := HO
            have HKL : Hid (S.allD.length = k) := HKL
            obtain ⟨wc, hwc⟩ : ∃ u, wr.alloc (.cells #[] 46) = u := ⟨_, rfl⟩
            have hbc : Below wr.heap.size wr wc := by rw [← hwc]; exact (Below.refl _ _).alloc (Nat.le_refl _) _
            have HG0 : Hid (OwnK wc w.heap.size 46 3 (.slice (some ⟨wr.heap.size, 0, none⟩) 0 0) 0 []) := Lib.hid (by rw [← hwc]; exact OwnK.new wr _ _ 3 0 [] HW.out.old.size rfl (by omega))
            have HWC := Lib.hid (HW.out.up hbc)
            have HOC := Lib.hid (HO.out.up hbc)
            have HSC : Hid (wc.heap.size = wr.heap.size + 1 ∧ g < wr.heap.size ∧ cb < wr.heap.size) := Lib.hid ⟨by rw [← hwc]; simp, HO.out.blockLt g rfl, HW.out.lt.2.2.2.2⟩
            clear hto hbc HO HW HR2 HAW
            go_wp2_with fail
            refine (wtables HWC.out).mono ?_
            rintro r w8 ⟨A8, c8, rfl, hr8, hb8, h8, ha8⟩
            obtain ⟨M, hM⟩ : ∃ M, S.tabL.length = M := ⟨_, rfl⟩
            have HML := Lib.hid hM
            rw [hM] at ha8 ⊢
            obtain ⟨g0, hg0⟩ : ∃ z, wr.heap.size = z := ⟨_, rfl⟩
            rw [hg0] at HG0 HSC ⊢
            have HR8 := Lib.hid hr8
            have HG8 := Lib.hid (HG0.out.up hb8)
            have HO8 := Lib.hid (HOC.out.up hb8)
            have HW8 := Lib.hid h8
            have HA8 : Hid (cb < g0 ∧ g ≠ g0 ∧ (0 < M → Away A8 g0)) := Lib.hid ⟨HSC.out.2.2, by have := HSC.out.2.1; omega, fun hp b o x e => by have := ha8 hp b o x e; rw [HSC.out.1] at this; omega⟩
            clear hr8 hb8 h8 ha8 hM hg0 HG0 HOC HWC HSC
            have hm16 : M ≤ 16 := by
              rw [← HML.out]
              unfold CaS.tabL
              exact Nat.le_trans (List.length_filter_le _ _) (by simp)
            go_wp2_with fail
            go_loopg [14, 66] M (fun q x y wq => ∃ (j kg gg capg : Nat), j ≤ M ∧ q = M - j ∧ x = .slice (some ⟨gg, 0, none⟩) kg capg ∧ y = .int .i64 (j : Int) ∧ (gotL S j).length = kg ∧ OwnK wq w.heap.size 46 3 (.slice (some ⟨gg, 0, none⟩) kg capg) kg (cesC (gotL S j)) ∧ OwnK wq w.heap.size 46 3 (.slice (some ⟨g, 0, none⟩) k cap) k (cesC S.allD) ∧ LcW w wq cb kb ib eb S ∧ RdV wq wq.heap.size A8 (iCells (nats S.tabL)) ∧ cb < gg ∧ g ≠ gg ∧ (0 < M → Away A8 gg))
            case atStart => exact ⟨0, 0, g0, 0, by omega, rfl, rfl, rfl, rfl, by simpa [cesC, gotL] using HG8.out, HO8.out, HW8.out, HR8.out, HA8.out.1, HA8.out.2.1, HA8.out.2.2⟩
            case round =>
              clear HG8 HO8 HW8 HR8 HA8
              obtain ⟨j, kg, gg, capg, hj, hq3, rfl, rfl, hkg, hog, how, hw3, hr3, hcg, hne, haw⟩ := hrel
              have HQ3 := Lib.hid hq3
              have HKG := Lib.hid hkg
              have HOG := Lib.hid hog
              have HOW := Lib.hid how
              have HW := Lib.hid hw3
              have HR3 := Lib.hid hr3
              have HAW := Lib.hid (And.intro hcg (And.intro hne haw))
              have hkg64 : kg ≤ 64 := by rw [← hkg]; exact gotL_len HWF.out j
              clear hq3 hkg hog how hw3 hr3 hcg hne haw
              by_cases hlt3 : j < M
              · have hjl : j < S.tabL.length := by rw [HML.out]; exact hlt3
                obtain ⟨bt, ot, hA8, hbt, hcell⟩ := HR3.out (by rw [iCells_len, nats_len, HML.out]; omega)
                have c0 := rdv_i (B := wr.heap.size) hcell j (by rw [nats_len]; exact hjl)
                have hnat : (nats S.tabL)[j]'(by rw [nats_len]; exact hjl) = (S.tabL[j] : Int) := by simp [nats]
                rw [hnat] at c0
                have HGS := Lib.hid (gotL_snoc S j hjl)
                have HPOS := Lib.hid (CaS.tab_pos (List.getElem_mem hjl))
                obtain ⟨tv, htv⟩ : ∃ z, S.tabL[j] = z := ⟨_, rfl⟩
                rw [htv] at c0 HGS HPOS
                have HD := Lib.hid (wdirty (tv : Int) HW.out)
                have hdl : (S.dirtyL (tv : Int)).length ≤ 64 := Nat.le_trans (List.length_filter_le _ _) HN64.out
                obtain ⟨D, hD⟩ : ∃ D, S.dirtyL (tv : Int) = D := ⟨_, rfl⟩
                rw [hD] at HGS HPOS HD hdl
                obtain ⟨L, hL⟩ : ∃ L, D.length = L := ⟨_, rfl⟩
                have HLL := Lib.hid hL
                rw [hL] at HPOS hdl
                clear hcell hnat htv hD hL
                subst hA8
                go_wp2_with fail
                refine HD.out.mono ?_
                rintro r w9 ⟨A9, c9, rfl, hr9, _, hb9, h9, _⟩
                rw [HLL.out]
                have HOG9 := Lib.hid (HOG.out.up hb9)
                have HOW9 := Lib.hid (HOW.out.up hb9)
                have HR9 := Lib.hid (HR3.out.up hb9)
                have HW9 := Lib.hid h9
                have HEN := Lib.hid (centries_at (c := c9) D HLL.out hr9 (by omega))
                clear hr9 hb9 h9 HOG HOW HR3 HW HD c0
                go_wp2_with fail
                refine HEN.out.mono ?_
                rintro r w10 ⟨v10, rfl, ho10, hb10⟩
                rw [HLL.out] at ho10
                obtain ⟨A10, c10, rfl, _, _, _⟩ := ho10.form
                have HOG10 := Lib.hid (HOG9.out.up hb10)
                have HOW10 := Lib.hid (HOW9.out.up hb10)
                have HR10 := Lib.hid (HR9.out.up hb10)
                have HW10 := Lib.hid (HW9.out.up hb10)
                have HS10 := Lib.hid ho10.rd
                obtain ⟨b10, o10, rfl, _, _⟩ := ho10.rd (by rw [cesC_len, HLL.out]; have := HPOS.out; omega)
                have q0 : ((L : Int) == 0) = false := by have := HPOS.out; simp; omega
                clear ho10 hb10 HOG9 HOW9 HR9 HW9 HEN
                go_wp2_with (first
                  | (at_builtin; refine appL _ rfl (.tmp 77) (.tmp 78) rfl w.heap.size gg capg kg L c10 (gotL S j) D ⟨b10, o10, none⟩ rfl HOG10.out rfl HLL.out HS10.out HPOS.out (by omega) HW10.out.old.size ?_; intro g' cap' w11 ho hg hgg; have HOG11 : Hid (OwnK w11 w.heap.size 46 3 (.slice (some ⟨g', 0, none⟩) (kg + L) cap') (kg + L) (cesC (gotL S (j + 1)))) := Lib.hid (by rw [HGS.out]; exact ho); have HW11 := Lib.hid (HW10.out.grown hg HAW.out.1); have HOW11 := Lib.hid (HOW10.out.grown hg HAW.out.2.1); have HR11 := Lib.hid (HR10.out.grown hg (fun _ => HAW.out.2.2 (by omega))); have HAW2 : Hid (cb < g' ∧ Away (some ⟨bt, ot, none⟩) g') := Lib.hid (away_next ⟨HAW.out.1, HAW.out.2.2 (by omega)⟩ hgg (by have := HW10.out.lt; omega) (HR10.out.lt (by rw [iCells_len, nats_len, HML.out]; omega))); have HNE2 : Hid (g ≠ g') := Lib.hid (by have := HAW.out.2.1; have := HOW10.out.blockLt g rfl; rcases hgg with e | e <;> omega); clear ho hg hgg)
                  | fail)
                go_roundg (M - (j + 1))
                case rel => exact ⟨j + 1, kg + L, g', cap', by omega, rfl, rfl, by go_num, by rw [HGS.out, List.length_append, HKG.out, HLL.out], HOG11.out, HOW11.out, HW11.out, HR11.out, HAW2.out.1, HNE2.out, fun _ => HAW2.out.2⟩
                case measure => have := HQ3.out; omega
              · obtain rfl : j = M := by omega
                have hga : gotL S j = S.allD := by rw [← HML.out]; exact gotL_all HWF.out
                rw [hga] at HKG HOG
                have hkk : kg = k := by rw [← HKG.out, HKL.out]
                subst hkk
                have HD := Lib.hid (wdirty t HW.out)
                obtain ⟨Dn, hDn⟩ : ∃ z, (S.dirtyL t).length = z := ⟨_, rfl⟩
                have HDN := Lib.hid hDn
                clear hga hDn
                go_wp2_with fail
                refine HD.out.mono ?_
                rintro r w9 ⟨A9, c9, rfl, _, _, hb9, h9, _⟩
                rw [HDN.out]
                have HRG9 := Lib.hid (HOG.out.up hb9).rd
                have HRW9 := Lib.hid (HOW.out.up hb9).rd
                have HW9 := Lib.hid h9
                have HSM := Lib.hid (csame_at (c := cap) (c2 := capg) S.allD HKL.out HRW9.out HRG9.out (by omega))
                clear hb9 h9 HOG HOW HR3 HW HD HAW
                go_wp2_with fail
                refine HSM.out.mono ?_
                rintro r w10 ⟨rfl, hb10⟩
                have HCL := Lib.hid (wclean t (HW9.out.up hb10))
                clear hb10 HSM HRG9 HRW9 HW9
                go_wp2_with fail
                refine HCL.out.mono ?_
                rintro r w11 ⟨rfl, h11, _⟩
                rw [HDN.out]
                have HCC := Lib.hid (CaS.clean_count (S := S) t)
                have HWFC := Lib.hid (CaS.clean_wf HWF.out t)
                have HD2 := Lib.hid (wdirty t h11)
                have HDZ : Hid (((S.cleanS t).dirtyL t).length = 0) := Lib.hid (by rw [CaS.clean_none]; rfl)
                rw [HKL.out, HDN.out] at HCC
                obtain ⟨S', hS'⟩ : ∃ S', S.cleanS t = S' := ⟨_, rfl⟩
                rw [hS'] at HCC HWFC HD2 HDZ
                have q1 : ((Dn : Int) != (Dn : Int)) = false := by simp
                clear h11 hS' HCL
                go_wp2_with fail
                refine HD2.out.mono ?_
                rintro r w12 ⟨A12, c12, rfl, _, _, hb12, h12, _⟩
                rw [HDZ.out]
                have HW12 := Lib.hid h12
                clear hb12 h12 HD2
                go_wp2_with fail
                refine (wall HW12.out).mono ?_
                rintro r w13 ⟨A13, c13, rfl, hr13, _, hb13, h13, _⟩
                obtain ⟨N2, hN2⟩ : ∃ z, S'.E.length = z := ⟨_, rfl⟩
                have HLN2 := Lib.hid hN2
                have hn264 : N2 ≤ 64 := by rw [← hN2]; exact Nat.le_trans HWFC.out.le HWFC.out.n64
                rw [hN2]
                have HR13 := Lib.hid hr13
                have HB13 := Lib.hid h13.old
                clear hr13 hb13 h13 hN2 HW12
                go_wp2_with fail
                go_loopg [20, 108] N2 (fun q x y wq => ∃ (i k2 : Nat), i ≤ N2 ∧ q = N2 - i ∧ x = .int .i64 (k2 : Int) ∧ y = .int .i64 (i : Int) ∧ ((S'.E.take i).filter (fun e => e.d)).length = k2 ∧ k2 ≤ i ∧ RdV wq wq.heap.size A13 (cesC S'.E) ∧ Below w.heap.size w wq)
                case atStart => exact ⟨0, 0, by omega, rfl, rfl, rfl, by simp, by omega, HR13.out, HB13.out⟩
                case round =>
                  clear HR13 HB13
                  obtain ⟨i4, k4, hi4, hq4, rfl, rfl, hk4, hki4, hr4, hb4⟩ := hrel
                  have HQ4 := Lib.hid hq4
                  have HK4 := Lib.hid hk4
                  have HR4 := Lib.hid hr4
                  have HB4 := Lib.hid hb4
                  clear hq4 hk4 hr4 hb4
                  by_cases hlt4 : i4 < N2
                  · have hll : i4 < S'.E.length := by rw [HLN2.out]; exact hlt4
                    obtain ⟨b, o, hA13, _, hcell⟩ := HR4.out (by rw [cesC_len, HLN2.out]; omega)
                    obtain ⟨c0, c1, c2⟩ := ces_cells hcell i4 hll
                    have HT := Lib.hid (allD_snoc S'.E i4 hll)
                    obtain ⟨x, hx⟩ : ∃ x, S'.E[i4].b = x := ⟨_, rfl⟩
                    obtain ⟨y, hy⟩ : ∃ y, S'.E[i4].a = y := ⟨_, rfl⟩
                    obtain ⟨d, hd⟩ : ∃ d, S'.E[i4].d = d := ⟨_, rfl⟩
                    rw [hd] at HT
                    rw [hx] at c0
                    rw [hy] at c1
                    rw [hd] at c2
                    obtain ⟨w5, hw5⟩ : ∃ u, wr.alloc (.cells #[.int .i64 (x : Int), .int .u32 (y : Int), .bool d] 33) = u := ⟨_, rfl⟩
                    have hb5 : Below wr.heap.size wr w5 := by rw [← hw5]; exact (Below.refl _ _).alloc (Nat.le_refl _) _
                    have hx5 : Blk w5 wr.heap.size 33 [.int .i64 (x : Int), .int .u32 (y : Int), .bool d] := by rw [← hw5]; exact heap_alloc_new wr _
                    have y2 := hx5.cell 2 (by simp)
                    simp only [List.getElem_cons_zero, List.getElem_cons_succ] at y2
                    have HR5 := Lib.hid (HR4.out.up hb5)
                    have HB5 := Lib.hid (HB4.out.trans (hb5.mono HB4.out.size))
                    obtain ⟨a5, ha5⟩ : ∃ a, wr.heap.size = a := ⟨_, rfl⟩
                    rw [ha5] at y2
                    subst hA13
                    clear hcell hx hy hd hb5 hx5 HR4 HB4
                    go_upto_region 34 with fail
                    clear hw5
                    cases d with
                    | false =>
                      have HT2 : Hid ((S'.E.take (i4 + 1)).filter (fun e => e.d) = (S'.E.take i4).filter (fun e => e.d)) := Lib.hid (HT.out.trans (if_neg (by simp)))
                      clear HT
                      go_wp2_with fail
                      go_roundg (N2 - (i4 + 1))
                      case rel => exact ⟨i4 + 1, k4, by omega, rfl, rfl, by go_num, by rw [HT2.out]; exact HK4.out, by omega, HR5.out, HB5.out⟩
                      case measure => have := HQ4.out; omega
                    | true =>
                      have HT2 : Hid ((S'.E.take (i4 + 1)).filter (fun e => e.d) = (S'.E.take i4).filter (fun e => e.d) ++ [S'.E[i4]]) := Lib.hid (HT.out.trans (if_pos rfl))
                      clear HT
                      go_wp2_with fail
                      go_roundg (N2 - (i4 + 1))
                      case rel => exact ⟨i4 + 1, k4 + 1, by omega, rfl, by go_num, by go_num, by rw [HT2.out, List.length_append, HK4.out]; rfl, by omega, HR5.out, HB5.out⟩
                      case measure => have := HQ4.out; omega
                  · obtain rfl : i4 = N2 := by omega
                    have hto4 : S'.E.take i4 = S'.E := List.take_of_length_le (by rw [HLN2.out]; exact Nat.le_refl _)
                    rw [hto4] at HK4
                    have hfin : k4 + Dn = kg := by
                      have h1 := HCC.out
                      have h2 : S'.allD.length = k4 := HK4.out
                      omega
                    have hdn : Dn ≤ kg := by omega
                    have hsub : (kg : Int) - (Dn : Int) = (k4 : Int) := by omega
                    have hwr : wrap64 ((kg : Int) - (Dn : Int)) = (k4 : Int) := by
                      rw [hsub]
                      unfold wrap64
                      omega
                    have q4 : ((k4 : Int) == (k4 : Int)) = true := by simp
                    clear HCC HK4 hto4 hfin HR4 hsub hdn
                    go_wp2_with fail
                    go_ret
                    exact ⟨rfl, HB4.out⟩
  · rw [if_neg hnn] at h
    obtain rfl := h
    clear hb
    go_wp2_with fail
    go_ret
    exact ⟨rfl, HB2.out⟩
end Go.Proofs.Ytmoagooabmmmgaa
