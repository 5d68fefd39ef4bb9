/-
  platelayerlaw13.ZonesDo answers true.
-/
import Derived.Test.YteoohafadijkmaaDoorTaPt
import Derived.Test.YteoohafadijkmaaDoorTaN
import Derived.Test.YteoohafadijkmaaDoorTaAw
import Derived.Test.YteoohafadijkmaaDoorHand
import Derived.Test.YteoohafadijkmaaDoorCodeA
namespace Go.Proofs.YteoohafadijkmaaDoor
open Go.RowKit

section
variable {G : Nat → Prop} {w w1 : World} {rt : Nat} {T T' : TaS}
theorem RtF.mono {G' : Nat → Prop} (h : RtF G w rt T) (hg : ∀ k, G k → G' k) (hl : ∀ k, G' k → k < w.heap.size) : RtF G' w rt T := by
  obtain ⟨sb, c, vr, vd, hc, g1, g2, g3, g4, g5, hw⟩ := h
  exact ⟨sb, c, vr, vd, hc, hg _ g1, hg _ g2, fun j e => hg _ (g3 j e), fun j e => hg _ (g4 j e), hl, hw⟩
theorem rtTo_pre {v : Value} {r : Ending} {u : World} (hb : Below w.heap.size w w1) (h : RtTo G rt v T' w1 r u) : RtTo G rt v T' w r u := by
  obtain ⟨h1, h2, h3⟩ := h
  refine ⟨h1, h2.mono (fun k hk => hk.imp id (fun h => ⟨Nat.le_trans hb.size h.1, h.2⟩)) (fun k hk => hk.elim (fun h => h2.lt k (.inl h)) (fun h => h.2)), (Kept.of_below hb).and h3⟩
set_option maxHeartbeats 1000000 in
theorem rown_at (d z : Int) (h : RtF G w rt T) (hn : T.done.length ≤ 100000) : Calls Tryd.prog 9 #[.pointer (some ⟨rt, 0, none⟩), .agg #[.int .i64 d, .int .i64 z]] w (RtTo G rt (.tuple #[.int .i64 (T.doN d), .bool (T.doB d z)]) (T.doS d z) w) := by
  have hb1 : Below w.heap.size w (w.alloc (.cells #[.int .i64 d, .int .i64 z] 35)) := (Below.refl _ _).alloc (Nat.le_refl _) _
  have HX := Lib.hid (h.up hb1)
  have HK := Lib.hid hb1
  have HV := Lib.hid h
  have hbk : Blk (w.alloc (.cells #[.int .i64 d, .int .i64 z] 35)) w.heap.size 35 [.int .i64 d, .int .i64 z] := heap_alloc_new _ _
  have y0 := hbk.cell 0 (by simp)
  have y1 := hbk.cell 1 (by simp)
  simp only [List.getElem_cons_zero, List.getElem_cons_succ] at y0 y1
  obtain ⟨w1, hw1⟩ : ∃ u, w.alloc (.cells #[.int .i64 d, .int .i64 z] 35) = u := ⟨_, rfl⟩
  rw [hw1] at HX HK y0 y1
  clear h hb1 hbk
  by_cases h0 : d = 0
  · have HE : Hid (∀ r u, RtTo G rt (.tuple #[.int .i64 T.takeN, .bool T.takeB]) T.takeS w1 r u → RtTo G rt (.tuple #[.int .i64 (T.doN d), .bool (T.doB d z)]) (T.doS d z) w (.returned (.tuple #[.int .i64 T.takeN, .bool T.takeB])) u) := Lib.hid (fun r u ht => by
      unfold TaS.doN TaS.doB TaS.doS
      rw [if_pos h0, if_pos h0, if_pos h0]
      exact (rtTo_pre HK.out ⟨rfl, ht.2.1, ht.2.2⟩))
    have q0 : (d == 0) = true := by simpa using h0
    have HT := Lib.hid (rttake_at HX.out)
    clear h0
    go_enter Tryd.func9, Tryd.ntmps9
    go_wp2_with fail
    refine HT.out.mono ?_
    rintro r w2 h
    have HE2 := Lib.hid (HE.out _ _ h)
    obtain ⟨rfl, _, _⟩ := h
    clear HE
    obtain ⟨tn, htn⟩ : ∃ x, T.takeN = x := ⟨_, rfl⟩
    obtain ⟨tk, htk⟩ : ∃ x, T.takeB = x := ⟨_, rfl⟩
    rw [htn, htk] at HE2 ⊢
    clear htn htk
    go_wp2_with fail
    go_ret2
    exact HE2.out
  have q0 : (d == 0) = false := by simpa using h0
  by_cases h1 : d = 1
  · have HE : Hid (∀ r u, RtTo G rt (.bool (T.closeB z)) (T.closeS z) w1 r u → RtTo G rt (.tuple #[.int .i64 (T.doN d), .bool (T.doB d z)]) (T.doS d z) w (.returned (.tuple #[.int .i64 (-1), .bool (T.closeB z)])) u) := Lib.hid (fun r u ht => by
      unfold TaS.doN TaS.doB TaS.doS
      rw [if_neg h0, if_neg h0, if_neg h0, if_pos h1, if_pos h1]
      exact (rtTo_pre HK.out ⟨rfl, ht.2.1, ht.2.2⟩))
    have q1 : (d == 1) = true := by simpa using h1
    have HT := Lib.hid (rtclose_at z HX.out hn)
    clear h0 h1
    go_enter Tryd.func9, Tryd.ntmps9
    go_wp2_with fail
    refine HT.out.mono ?_
    rintro r w2 h
    have HE2 := Lib.hid (HE.out _ _ h)
    obtain ⟨rfl, _, _⟩ := h
    clear HE
    obtain ⟨tk, htk⟩ : ∃ x, T.closeB z = x := ⟨_, rfl⟩
    rw [htk] at HE2 ⊢
    clear htk
    go_wp2_with fail
    go_ret2
    exact HE2.out
  have q1 : (d == 1) = false := by simpa using h1
  by_cases h2 : d = 2
  · have HE : Hid (∀ r u, RtTo G rt (.bool (T.giveB z)) (T.giveS z) w1 r u → RtTo G rt (.tuple #[.int .i64 (T.doN d), .bool (T.doB d z)]) (T.doS d z) w (.returned (.tuple #[.int .i64 (-1), .bool (T.giveB z)])) u) := Lib.hid (fun r u ht => by
      unfold TaS.doN TaS.doB TaS.doS
      rw [if_neg h0, if_neg h0, if_neg h0, if_neg h1, if_neg h1, if_pos h2, if_pos h2]
      exact (rtTo_pre HK.out ⟨rfl, ht.2.1, ht.2.2⟩))
    have q2 : (d == 2) = true := by simpa using h2
    have HT := Lib.hid (rtgive_at z HX.out hn)
    clear h0 h1 h2
    go_enter Tryd.func9, Tryd.ntmps9
    go_wp2_with fail
    refine HT.out.mono ?_
    rintro r w2 h
    have HE2 := Lib.hid (HE.out _ _ h)
    obtain ⟨rfl, _, _⟩ := h
    clear HE
    obtain ⟨tk, htk⟩ : ∃ x, T.giveB z = x := ⟨_, rfl⟩
    rw [htk] at HE2 ⊢
    clear htk
    go_wp2_with fail
    go_ret2
    exact HE2.out
  have q2 : (d == 2) = false := by simpa using h2
  have HE : Hid (RtTo G rt (.tuple #[.int .i64 (T.doN d), .bool (T.doB d z)]) (T.doS d z) w (.returned (.tuple #[.int .i64 (-1), .bool false])) w1) := Lib.hid (by
    unfold TaS.doN TaS.doB TaS.doS
    rw [if_neg h0, if_neg h0, if_neg h0, if_neg h1, if_neg h1, if_neg h2, if_neg h2]
    exact ⟨rfl, HV.out.grown HK.out, Kept.of_below HK.out⟩)
  clear h0 h1 h2
  go_enter Tryd.func9, Tryd.ntmps9
  go_wp2_with fail
  go_ret2
  exact HE.out
end
/-- Both tables, of a call's own. -/
structure ZT {E : Value → Prop} (O : TOps E) (w0 w : World) (tb rt : Nat) (T R : TaS) (A G : Nat → Prop) : Prop where
  x : TaX O w0 w tb T A
  r : RtF G w rt R
  ga : ∀ k, G k → A k ∧ w0.heap.size ≤ k
section
variable {E : Value → Prop} {O : TOps E} {w0 w w' : World} {tb rt : Nat} {T T' R R' : TaS} {A G : Nat → Prop}
theorem ZT.up (h : ZT O w0 w tb rt T R A G) (hb : Below w.heap.size w w') : ZT O w0 w' tb rt T R A G := ⟨h.x.up hb, h.r.up hb, h.ga⟩
theorem ZT.fresh (h : ZT O w0 w tb rt T R A G) (hb : Below w.heap.size w w') : ZT O w0 w' tb rt T R (fun k => A k ∨ (w.heap.size ≤ k ∧ k < w'.heap.size)) G := ⟨h.x.fresh hb, h.r.up hb, fun k hk => ⟨.inl (h.ga k hk).1, (h.ga k hk).2⟩⟩
theorem ZT.do {v : Value} {r : Ending} (h : ZT O w0 w tb rt T R A G) (ht : TaXTo O w0 tb A v T' w r w') : ZT O w0 w' tb rt T' R A G := ⟨ht.2.1, h.r.keep ht.2.2 (fun k hk hx => hx.2 (h.ga k hk).1), h.ga⟩
theorem ZT.own {v : Value} {r : Ending} (h : ZT O w0 w tb rt T R A G) (ht : RtTo G rt v R' w r w') : ZT O w0 w' tb rt T R' (fun k => A k ∨ (w.heap.size ≤ k ∧ k < w'.heap.size)) (grow G w w') := by
  have hs := h.x.old.size
  exact ⟨h.x.putf ht.2.2 h.ga, ht.2.1, fun k hk => hk.elim (fun hx => ⟨.inl (h.ga k hx).1, (h.ga k hx).2⟩) (fun hx => ⟨.inr hx, by omega⟩)⟩
end
set_option maxHeartbeats 16000000 in
set_option maxRecDepth 100000 in
theorem zodo_true (O : TOps ErrOne) {w : World} (hg : Gl w) (n : Int) (A : Option Addr) (m c : Nat) (l : List ZAct) (hl : l.length = m) (hr : RdZA w A l) (zone : Int) : Calls Tryd.prog 3 #[.int .i64 n, .slice A m c, .int .i64 zone] w (BoolB true w) := by
  have HG := Lib.hid hg
  have HL := Lib.hid hl
  have HR := Lib.hid hr
  clear hl hr hg
  go_enter Tryd.func3, Tryd.ntmps3
  go_wp2_with fail
  refine (zoawake_true O w).mono ?_
  rintro r w1 ⟨rfl, hb⟩
  have HB1 := Lib.hid hb
  clear hb
  by_cases hmm : 200 < m
  · go_wp2_with fail
    go_ret
    exact ⟨rfl, HB1.out⟩
  go_wp2_with fail
  refine (O.new n).mono ?_
  rintro r w2 ⟨hb, h⟩
  have HB2 := Lib.hid (below_all HB1.out hb)
  by_cases hn : 1 ≤ n ∧ n ≤ 24
  · rw [if_pos hn] at h
    obtain ⟨tb, rfl, hd⟩ := h
    have HX : Hid (TaX O w w2 tb (TaS.new n.toNat) (fun _ => False)) := Lib.hid ⟨_, hd, fun k hk => ⟨by have := HB1.out.size; omega, id⟩, fun k hk => hk.elim, HB2.out⟩
    clear hd hb
    go_wp2_with fail
    refine (rtnew_at n w2).mono ?_
    rintro r w3 ⟨hb, h⟩
    rw [if_pos hn] at h
    obtain ⟨rt, rfl, hrt⟩ := h
    have HZ3 : Hid (∃ A' G, ZT O w w3 tb rt (TaS.new n.toNat) (TaS.new n.toNat) A' G) := Lib.hid ⟨_, _, HX.out.fresh hb, hrt, fun k hk => ⟨.inr hk, by have := HB2.out.size; omega⟩⟩
    have HG3 : Hid (Gl w3) := Lib.hid (((below_all HB2.out hb).cell (p := ⟨0, 0, none⟩) (World.block_lt_of_cell? w _ HG.out)).trans HG.out)
    clear hb hrt HX
    go_wp2_with fail
    refine (code_nil w3).mono ?_
    rintro r w4 ⟨rfl, hb⟩
    have HZ4 : Hid (∃ A' G, ZT O w w4 tb rt (TaS.new n.toNat) (TaS.new n.toNat) A' G) := Lib.hid (by
      obtain ⟨A', G, hz⟩ := HZ3.out
      exact ⟨A', G, hz.up hb⟩)
    clear hb HZ3 HG3
    have HD0 : Hid ((TaS.new n.toNat).done.length ≤ 0) := Lib.hid (Nat.le_refl _)
    go_wp2_with fail
    go_loopg [51] m (fun q y wr => ∃ (i : Nat) (T : TaS) (A' G : Nat → Prop), i ≤ m ∧ q = m - i ∧ y = .int .i64 (i : Int) ∧ T.done.length ≤ i ∧ ZT O w wr tb rt T T A' G)
    case atStart =>
      obtain ⟨A', G, hz⟩ := HZ4.out
      exact ⟨0, _, A', G, by omega, by omega, rfl, HD0.out, hz⟩
    case round =>
      clear HZ4 HD0
      obtain ⟨i, T, A', G, hi, hq, rfl, hdl, hz⟩ := hrel
      have HQ := Lib.hid hq
      have HDL0 := Lib.hid hdl
      have HZ := Lib.hid hz
      clear hq hdl hz
      by_cases hlt : i < m
      · have hll : i < l.length := by rw [HL.out]; exact hlt
        obtain ⟨bl, o, rfl, hbl, hcell⟩ := (HR.out.below HZ.out.x.old) (by omega)
        obtain ⟨c0, c1⟩ := hcell i hll
        obtain ⟨d, hd⟩ : ∃ d, l[i].d = d := ⟨_, rfl⟩
        obtain ⟨z, hz⟩ : ∃ z, l[i].z = z := ⟨_, rfl⟩
        rw [hd] at c0
        rw [hz] at c1
        clear hcell hd hz hll
        have hba : Below wr.heap.size wr (wr.alloc (.cells #[.int .i64 d, .int .i64 z] 35)) := (Below.refl _ _).alloc (Nat.le_refl _) _
        have HACT : Hid (Blk (wr.alloc (.cells #[.int .i64 d, .int .i64 z] 35)) wr.heap.size 35 [.int .i64 d, .int .i64 z]) := Lib.hid (heap_alloc_new _ _)
        have HZA := Lib.hid (HZ.out.fresh hba)
        have HAA : Hid ((fun k => A' k ∨ (wr.heap.size ≤ k ∧ k < (wr.alloc (.cells #[.int .i64 d, .int .i64 z] 35)).heap.size)) wr.heap.size) := Lib.hid (.inr ⟨Nat.le_refl _, by simp⟩)
        have HAG : Hid (¬ G wr.heap.size) := Lib.hid (fun hx => by have := HZ.out.r.lt _ hx; omega)
        obtain ⟨wa, hwa⟩ : ∃ wa, wr.alloc (.cells #[.int .i64 d, .int .i64 z] 35) = wa := ⟨_, rfl⟩
        rw [hwa] at HACT HZA HAA
        obtain ⟨A1, hA1⟩ : ∃ B : Nat → Prop, (fun k => A' k ∨ (wr.heap.size ≤ k ∧ k < wa.heap.size)) = B := ⟨_, rfl⟩
        rw [hA1] at HZA HAA
        obtain ⟨a, ha⟩ : ∃ a, wr.heap.size = a := ⟨_, rfl⟩
        rw [ha] at HACT HAA HAG
        have x0 := HACT.out.cell 0 (by simp)
        have x1 := HACT.out.cell 1 (by simp)
        simp only [List.getElem_cons_zero, List.getElem_cons_succ] at x0 x1
        clear hba hA1 HZ
        have HDO := Lib.hid (xdo d z HZA.out.x (by have := HDL0.out; omega))
        have HOW := Lib.hid (fun (u : World) (hu : RtF G u rt T) => rown_at d z hu (by have := HDL0.out; omega))
        have HDL : Hid ((T.doS d z).done.length ≤ 100000) := Lib.hid (by have := TaS.do_done T d z; have := HDL0.out; omega)
        have HDL2 : Hid ((T.doS d z).done.length ≤ i + 1) := Lib.hid (by have := TaS.do_done T d z; have := HDL0.out; omega)
        obtain ⟨dn, hdn⟩ : ∃ x, T.doN d = x := ⟨_, rfl⟩
        obtain ⟨db, hdb⟩ : ∃ x, T.doB d z = x := ⟨_, rfl⟩
        obtain ⟨T', hT'⟩ : ∃ x, T.doS d z = x := ⟨_, rfl⟩
        rw [hdn, hdb, hT'] at HDO HOW
        rw [hT'] at HDL HDL2
        clear hdn hdb hT'
        go_wp2_with fail
        refine HDO.out.mono ?_
        rintro r w4 h
        have HZ4 := Lib.hid (HZA.out.do h)
        have HACT4 := Lib.hid (h.2.2.blk HACT.out (fun hx => hx.2 HAA.out))
        obtain ⟨rfl, _, _⟩ := h
        clear x0 x1 c0 c1 HDO HACT HZA hwa ha
        have x0 := HACT4.out.cell 0 (by simp)
        have x1 := HACT4.out.cell 1 (by simp)
        simp only [List.getElem_cons_zero, List.getElem_cons_succ] at x0 x1
        go_wp2_with fail
        refine (HOW.out _ HZ4.out.r).mono ?_
        rintro r w5 h
        have HZ5 := Lib.hid (HZ4.out.own h)
        obtain ⟨rfl, _, _⟩ := h
        clear x0 x1 HOW HACT4 HZ4 HAA HAG
        obtain ⟨A5, hA5⟩ : ∃ B : Nat → Prop, (fun k => A1 k ∨ (w4.heap.size ≤ k ∧ k < w5.heap.size)) = B := ⟨_, rfl⟩
        obtain ⟨G5, hG5⟩ : ∃ B : Nat → Prop, grow G w4 w5 = B := ⟨_, rfl⟩
        rw [hA5, hG5] at HZ5
        clear hA5 hG5
        have HS := Lib.hid (xstate zone HZ5.out.x)
        have HS2 := Lib.hid (fun (u : World) (hu : RtF G5 u rt T') => rtstate_at zone hu)
        unfold StIs at HS2
        obtain ⟨s, hs⟩ : ∃ s, T'.stA zone = s := ⟨_, rfl⟩
        obtain ⟨b, hbb⟩ : ∃ s, T'.inB zone = s := ⟨_, rfl⟩
        rw [hs, hbb] at HS HS2
        clear hs hbb
        go_wp2_with fail
        refine HS.out.mono ?_
        rintro r w6 ⟨rfl, hb⟩
        have HZ := Lib.hid (HZ5.out.up hb)
        clear hb HS HZ5
        go_wp2_with fail
        refine (HS2.out _ HZ.out.r).mono ?_
        rintro r w7 ⟨rfl, rfl⟩
        clear HS2
        have hrf := HZ.out.r
        have HC24 := Lib.hid (TaS.closed_len2 hrf.wf)
        have hr24 := TaS.row_len hrf.wf
        obtain ⟨sb, cs, vr, vd, hrc, _⟩ := hrf
        obtain ⟨RA, rc, rfl, _, _, _⟩ := hrc.r.form
        have HRR := Lib.hid hrc.r.rd
        have HY : Hid (∀ u, Below w6.heap.size w6 u → u.cell? ⟨rt, 1, none⟩ = some (.slice RA T'.row.length rc)) := Lib.hid (fun u hu => (hrc.up hu).cells.2.1)
        obtain ⟨rn, hrn⟩ : ∃ x, T'.row.length = x := ⟨_, rfl⟩
        have HRN := Lib.hid hrn
        rw [hrn] at HY hr24
        obtain ⟨cn, hcn⟩ : ∃ x, T'.closedL.length = x := ⟨_, rfl⟩
        have HCN := Lib.hid hcn
        rw [hcn] at HC24
        clear hrc hrn hcn
        go_wp2_with fail
        refine wp_region_held_drew (S := fun u => u.cell? ⟨rt, 1, none⟩ = some (.slice RA rn rc)) (by kernel_rfl) (HY.out _ (Below.refl _ _).drew) (fun hHeld => ?_)
        show wpAnyH _ _ _ _ _ 45 _ _ _
        refine wpAnyH_take (i := 0) (v := ?_) rfl (by kernel_rfl) (by kernel_rfl) (by kernel_rfl) (fun _ _ _ h => h) (Or.inl ⟨by rfl, ?_⟩) hHeld ?_
        rotate_left
        · intro u hSu
          obtain y1 := hSu
          go_simp
          try with_reducible rfl
        try simp only [Act.put, List.setIfInBounds_toArray, List.set_cons_zero, List.set_cons_succ, List.getElem_toArray, List.getElem_cons_zero, List.getElem_cons_succ]
        refine wpAnyH_take (i := 1) (v := ?_) rfl (by kernel_rfl) (by kernel_rfl) (by kernel_rfl) (fun _ _ _ h => h) (Or.inl ⟨by rfl, ?_⟩) hHeld ?_
        rotate_left
        · intro u hSu
          obtain y1 := hSu
          go_simp
          try with_reducible rfl
        try simp only [Act.put, List.setIfInBounds_toArray, List.set_cons_zero, List.set_cons_succ, List.getElem_toArray, List.getElem_cons_zero, List.getElem_cons_succ]
        refine wpAnyH_take (i := 2) (v := ?_) rfl (by kernel_rfl) (by kernel_rfl) (by kernel_rfl) (fun _ _ _ h => h) (Or.inl ⟨by rfl, ?_⟩) hHeld ?_
        rotate_left
        · intro u hSu
          obtain y1 := hSu
          go_simp
          try with_reducible rfl
        try simp only [Act.put, List.setIfInBounds_toArray, List.set_cons_zero, List.set_cons_succ, List.getElem_toArray, List.getElem_cons_zero, List.getElem_cons_succ]
        refine wpAnyH_take (i := 3) (v := ?_) rfl (by kernel_rfl) (by kernel_rfl) (by kernel_rfl) (fun _ _ _ h => h) (Or.inl ⟨by rfl, ?_⟩) hHeld ?_
        rotate_left
        · intro u hSu
          obtain y1 := hSu
          go_simp
          try with_reducible rfl
        try simp only [Act.put, List.setIfInBounds_toArray, List.set_cons_zero, List.set_cons_succ, List.getElem_toArray, List.getElem_cons_zero, List.getElem_cons_succ]
        refine wpAnyH_take (i := 4) (v := ?_) rfl (by kernel_rfl) (by kernel_rfl) (by kernel_rfl) (fun _ _ _ h => h) (Or.inl ⟨by rfl, ?_⟩) hHeld ?_
        rotate_left
        · intro u hSu
          obtain y1 := hSu
          go_simp
          try with_reducible rfl
        try simp only [Act.put, List.setIfInBounds_toArray, List.set_cons_zero, List.set_cons_succ, List.getElem_toArray, List.getElem_cons_zero, List.getElem_cons_succ]
        refine wpAnyH_take (i := 5) (v := ?_) rfl (by kernel_rfl) (by kernel_rfl) (by kernel_rfl) (fun _ _ _ h => h) (Or.inl ⟨by rfl, ?_⟩) hHeld ?_
        rotate_left
        · intro u hSu
          obtain y1 := hSu
          go_simp
          try with_reducible rfl
        try simp only [Act.put, List.setIfInBounds_toArray, List.set_cons_zero, List.set_cons_succ, List.getElem_toArray, List.getElem_cons_zero, List.getElem_cons_succ]
        refine wpAnyH_take (i := 6) (v := ?_) rfl (by kernel_rfl) (by kernel_rfl) (by kernel_rfl) (fun _ _ _ h => h) (Or.inl ⟨by rfl, ?_⟩) hHeld ?_
        rotate_left
        · intro u hSu
          obtain y1 := hSu
          go_simp
          try with_reducible rfl
        try simp only [Act.put, List.setIfInBounds_toArray, List.set_cons_zero, List.set_cons_succ, List.getElem_toArray, List.getElem_cons_zero, List.getElem_cons_succ]
        refine wpAnyH_take (i := 7) (v := ?_) rfl (by kernel_rfl) (by kernel_rfl) (by kernel_rfl) (fun _ _ _ h => h) (Or.inl ⟨by rfl, ?_⟩) hHeld ?_
        rotate_left
        · intro u hSu
          obtain y1 := hSu
          go_simp
          try with_reducible rfl
        try simp only [Act.put, List.setIfInBounds_toArray, List.set_cons_zero, List.set_cons_succ, List.getElem_toArray, List.getElem_cons_zero, List.getElem_cons_succ]
        refine wpAnyH_take (i := 8) (v := ?_) rfl (by kernel_rfl) (by kernel_rfl) (by kernel_rfl) (fun _ _ _ h => h) (Or.inl ⟨by rfl, ?_⟩) hHeld ?_
        rotate_left
        · intro u hSu
          obtain y1 := hSu
          go_simp
          try with_reducible rfl
        try simp only [Act.put, List.setIfInBounds_toArray, List.set_cons_zero, List.set_cons_succ, List.getElem_toArray, List.getElem_cons_zero, List.getElem_cons_succ]
        refine wpAnyH_take (i := 9) (v := ?_) rfl (by kernel_rfl) (by kernel_rfl) (by kernel_rfl) (fun _ _ _ h => h) (Or.inl ⟨by rfl, ?_⟩) hHeld ?_
        rotate_left
        · intro u hSu
          obtain y1 := hSu
          go_simp
          try with_reducible rfl
        try simp only [Act.put, List.setIfInBounds_toArray, List.set_cons_zero, List.set_cons_succ, List.getElem_toArray, List.getElem_cons_zero, List.getElem_cons_succ]
        refine wpAnyH_take (i := 10) (v := ?_) rfl (by kernel_rfl) (by kernel_rfl) (by kernel_rfl) (fun _ _ _ h => h) (Or.inl ⟨by rfl, ?_⟩) hHeld ?_
        rotate_left
        · intro u hSu
          obtain y1 := hSu
          go_simp
          try with_reducible rfl
        try simp only [Act.put, List.setIfInBounds_toArray, List.set_cons_zero, List.set_cons_succ, List.getElem_toArray, List.getElem_cons_zero, List.getElem_cons_succ]
        refine wpAnyH_take (i := 11) (v := ?_) rfl (by kernel_rfl) (by kernel_rfl) (by kernel_rfl) (fun _ _ _ h => h) (Or.inl ⟨by rfl, ?_⟩) hHeld ?_
        rotate_left
        · intro u hSu
          obtain y1 := hSu
          go_simp
          try with_reducible rfl
        try simp only [Act.put, List.setIfInBounds_toArray, List.set_cons_zero, List.set_cons_succ, List.getElem_toArray, List.getElem_cons_zero, List.getElem_cons_succ]
        refine wpAnyH_take (i := 12) (v := ?_) rfl (by kernel_rfl) (by kernel_rfl) (by kernel_rfl) (fun _ _ _ h => h) (Or.inl ⟨by rfl, ?_⟩) hHeld ?_
        rotate_left
        · intro u hSu
          obtain y1 := hSu
          go_simp
          try with_reducible rfl
        try simp only [Act.put, List.setIfInBounds_toArray, List.set_cons_zero, List.set_cons_succ, List.getElem_toArray, List.getElem_cons_zero, List.getElem_cons_succ]
        refine wpAnyH_take (i := 13) (v := ?_) rfl (by kernel_rfl) (by kernel_rfl) (by kernel_rfl) (fun _ _ _ h => h) (Or.inl ⟨by rfl, ?_⟩) hHeld ?_
        rotate_left
        · intro u hSu
          obtain y1 := hSu
          go_simp
          try with_reducible rfl
        try simp only [Act.put, List.setIfInBounds_toArray, List.set_cons_zero, List.set_cons_succ, List.getElem_toArray, List.getElem_cons_zero, List.getElem_cons_succ]
        refine wpAnyH_take (i := 14) (v := ?_) rfl (by kernel_rfl) (by kernel_rfl) (by kernel_rfl) (fun _ _ _ h => h) (Or.inl ⟨by rfl, ?_⟩) hHeld ?_
        rotate_left
        · intro u hSu
          obtain y1 := hSu
          go_simp
          try with_reducible rfl
        try simp only [Act.put, List.setIfInBounds_toArray, List.set_cons_zero, List.set_cons_succ, List.getElem_toArray, List.getElem_cons_zero, List.getElem_cons_succ]
        refine wpAnyH_take (i := 15) (v := ?_) rfl (by kernel_rfl) (by kernel_rfl) (by kernel_rfl) (fun _ _ _ h => h) (Or.inl ⟨by rfl, ?_⟩) hHeld ?_
        rotate_left
        · intro u hSu
          obtain y1 := hSu
          go_simp
          try with_reducible rfl
        try simp only [Act.put, List.setIfInBounds_toArray, List.set_cons_zero, List.set_cons_succ, List.getElem_toArray, List.getElem_cons_zero, List.getElem_cons_succ]
        refine wpAnyH_take (i := 16) (v := ?_) rfl (by kernel_rfl) (by kernel_rfl) (by kernel_rfl) (fun _ _ _ h => h) (Or.inl ⟨by rfl, ?_⟩) hHeld ?_
        rotate_left
        · intro u hSu
          obtain y1 := hSu
          go_simp
          try with_reducible rfl
        try simp only [Act.put, List.setIfInBounds_toArray, List.set_cons_zero, List.set_cons_succ, List.getElem_toArray, List.getElem_cons_zero, List.getElem_cons_succ]
        refine wpAnyH_take (i := 17) (v := ?_) rfl (by kernel_rfl) (by kernel_rfl) (by kernel_rfl) (fun _ _ _ h => h) (Or.inl ⟨by rfl, ?_⟩) hHeld ?_
        rotate_left
        · intro u hSu
          obtain y1 := hSu
          go_simp
          try with_reducible rfl
        try simp only [Act.put, List.setIfInBounds_toArray, List.set_cons_zero, List.set_cons_succ, List.getElem_toArray, List.getElem_cons_zero, List.getElem_cons_succ]
        refine wpAnyH_take (i := 18) (v := ?_) rfl (by kernel_rfl) (by kernel_rfl) (by kernel_rfl) (fun _ _ _ h => h) (Or.inl ⟨by rfl, ?_⟩) hHeld ?_
        rotate_left
        · intro u hSu
          obtain y1 := hSu
          go_simp
          try with_reducible rfl
        try simp only [Act.put, List.setIfInBounds_toArray, List.set_cons_zero, List.set_cons_succ, List.getElem_toArray, List.getElem_cons_zero, List.getElem_cons_succ]
        refine wpAnyH_take (i := 19) (v := ?_) rfl (by kernel_rfl) (by kernel_rfl) (by kernel_rfl) (fun _ _ _ h => h) (Or.inl ⟨by rfl, ?_⟩) hHeld ?_
        rotate_left
        · intro u hSu
          obtain y1 := hSu
          go_simp
          try with_reducible rfl
        try simp only [Act.put, List.setIfInBounds_toArray, List.set_cons_zero, List.set_cons_succ, List.getElem_toArray, List.getElem_cons_zero, List.getElem_cons_succ]
        refine wpAnyH_take (i := 20) (v := ?_) rfl (by kernel_rfl) (by kernel_rfl) (by kernel_rfl) (fun _ _ _ h => h) (Or.inl ⟨by rfl, ?_⟩) hHeld ?_
        rotate_left
        · intro u hSu
          obtain y1 := hSu
          go_simp
          try with_reducible rfl
        try simp only [Act.put, List.setIfInBounds_toArray, List.set_cons_zero, List.set_cons_succ, List.getElem_toArray, List.getElem_cons_zero, List.getElem_cons_succ]
        refine wpAnyH_take (i := 22) (v := ?_) rfl (by kernel_rfl) (by kernel_rfl) (by kernel_rfl) (fun _ _ _ h => h) (Or.inl ⟨by rfl, ?_⟩) hHeld ?_
        rotate_left
        · intro u hSu
          obtain y1 := hSu
          go_simp
          try with_reducible rfl
        try simp only [Act.put, List.setIfInBounds_toArray, List.set_cons_zero, List.set_cons_succ, List.getElem_toArray, List.getElem_cons_zero, List.getElem_cons_succ]
        refine wpAnyH_take (i := 23) (v := ?_) rfl (by kernel_rfl) (by kernel_rfl) (by kernel_rfl) (fun _ _ _ h => h) (Or.inl ⟨by rfl, ?_⟩) hHeld ?_
        rotate_left
        · intro u hSu
          obtain y1 := hSu
          go_simp
          try with_reducible rfl
        try simp only [Act.put, List.setIfInBounds_toArray, List.set_cons_zero, List.set_cons_succ, List.getElem_toArray, List.getElem_cons_zero, List.getElem_cons_succ]
        refine wpAnyH_ready (rs := [21]) (by kernel_rfl) (by simp) ?_
        refine (AllReadyH.cons rfl (fun K hK => ?_) AllReadyH.nil)
        go_simp
        refine (xage zone (HZ.out.x.up (Below.refl _ _).drew) HDL.out).mono ?_
        rintro r w8 ⟨rfl, hb⟩
        have HB8 := Lib.hid (below_all (Below.refl _ _).drew hb)
        clear hb
        refine hK.out _ _ ?_ (fun hHeld2 => ?_)
        · exact HY.out _ HB8.out
        clear hK K hHeld
        have hHeld := hHeld2
        clear hHeld2
        try simp only [Act.put, List.setIfInBounds_toArray, List.set_cons_zero, List.set_cons_succ, List.getElem_toArray, List.getElem_cons_zero, List.getElem_cons_succ]
        refine wpAnyH_ready (rs := [24]) (by kernel_rfl) (by simp) ?_
        refine (AllReadyH.cons rfl (fun K hK => ?_) AllReadyH.nil)
        go_simp
        refine (rtage_at zone (HZ.out.r.up HB8.out) HDL.out).mono ?_
        rintro r w9 ⟨rfl, rfl⟩
        refine hK.out _ _ ?_ (fun hHeld2 => ?_)
        · exact HY.out _ HB8.out
        clear hK K hHeld
        have hHeld := hHeld2
        clear hHeld2
        try simp only [Act.put, List.setIfInBounds_toArray, List.set_cons_zero, List.set_cons_succ, List.getElem_toArray, List.getElem_cons_zero, List.getElem_cons_succ]
        refine wpAnyH_take (i := 25) (v := ?_) rfl (by kernel_rfl) (by kernel_rfl) (by kernel_rfl) (fun _ _ _ h => h) (Or.inl ⟨by rfl, ?_⟩) hHeld ?_
        rotate_left
        · intro u hSu
          obtain y1 := hSu
          go_simp
          try with_reducible rfl
        try simp only [Act.put, List.setIfInBounds_toArray, List.set_cons_zero, List.set_cons_succ, List.getElem_toArray, List.getElem_cons_zero, List.getElem_cons_succ]
        refine wpAnyH_take (i := 26) (v := ?_) rfl (by kernel_rfl) (by kernel_rfl) (by kernel_rfl) (fun _ _ _ h => h) (Or.inl ⟨by rfl, ?_⟩) hHeld ?_
        rotate_left
        · intro u hSu
          obtain y1 := hSu
          go_simp
          try with_reducible rfl
        try simp only [Act.put, List.setIfInBounds_toArray, List.set_cons_zero, List.set_cons_succ, List.getElem_toArray, List.getElem_cons_zero, List.getElem_cons_succ]
        refine wpAnyH_take (i := 27) (v := ?_) rfl (by kernel_rfl) (by kernel_rfl) (by kernel_rfl) (fun _ _ _ h => h) (Or.inl ⟨by rfl, ?_⟩) hHeld ?_
        rotate_left
        · intro u hSu
          obtain y1 := hSu
          go_simp
          try with_reducible rfl
        try simp only [Act.put, List.setIfInBounds_toArray, List.set_cons_zero, List.set_cons_succ, List.getElem_toArray, List.getElem_cons_zero, List.getElem_cons_succ]
        refine wpAnyH_take (i := 28) (v := ?_) rfl (by kernel_rfl) (by kernel_rfl) (by kernel_rfl) (fun _ _ _ h => h) (Or.inl ⟨by rfl, ?_⟩) hHeld ?_
        rotate_left
        · intro u hSu
          obtain y1 := hSu
          go_simp
          try with_reducible rfl
        try simp only [Act.put, List.setIfInBounds_toArray, List.set_cons_zero, List.set_cons_succ, List.getElem_toArray, List.getElem_cons_zero, List.getElem_cons_succ]
        refine wpAnyH_take (i := 30) (v := ?_) rfl (by kernel_rfl) (by kernel_rfl) (by kernel_rfl) (fun _ _ _ h => h) (Or.inl ⟨by rfl, ?_⟩) hHeld ?_
        rotate_left
        · intro u hSu
          obtain y1 := hSu
          go_simp
          try with_reducible rfl
        try simp only [Act.put, List.setIfInBounds_toArray, List.set_cons_zero, List.set_cons_succ, List.getElem_toArray, List.getElem_cons_zero, List.getElem_cons_succ]
        refine wpAnyH_take (i := 31) (v := ?_) rfl (by kernel_rfl) (by kernel_rfl) (by kernel_rfl) (fun _ _ _ h => h) (Or.inl ⟨by rfl, ?_⟩) hHeld ?_
        rotate_left
        · intro u hSu
          obtain y1 := hSu
          go_simp
          try with_reducible rfl
        try simp only [Act.put, List.setIfInBounds_toArray, List.set_cons_zero, List.set_cons_succ, List.getElem_toArray, List.getElem_cons_zero, List.getElem_cons_succ]
        refine wpAnyH_take (i := 32) (v := ?_) rfl (by kernel_rfl) (by kernel_rfl) (by kernel_rfl) (fun _ _ _ h => h) (Or.inl ⟨by rfl, ?_⟩) hHeld ?_
        rotate_left
        · intro u hSu
          obtain y1 := hSu
          go_simp
          try with_reducible rfl
        try simp only [Act.put, List.setIfInBounds_toArray, List.set_cons_zero, List.set_cons_succ, List.getElem_toArray, List.getElem_cons_zero, List.getElem_cons_succ]
        refine wpAnyH_take (i := 33) (v := ?_) rfl (by kernel_rfl) (by kernel_rfl) (by kernel_rfl) (fun _ _ _ h => h) (Or.inl ⟨by rfl, ?_⟩) hHeld ?_
        rotate_left
        · intro u hSu
          obtain y1 := hSu
          go_simp
          try with_reducible rfl
        try simp only [Act.put, List.setIfInBounds_toArray, List.set_cons_zero, List.set_cons_succ, List.getElem_toArray, List.getElem_cons_zero, List.getElem_cons_succ]
        refine wpAnyH_ready (rs := [29]) (by kernel_rfl) (by simp) ?_
        refine (AllReadyH.cons rfl (fun K hK => ?_) AllReadyH.nil)
        go_simp
        refine (xfree (HZ.out.x.up HB8.out)).mono ?_
        rintro r w10 hnn
        obtain ⟨A10, c10, rfl, hrd, _, _, hb⟩ := tr_own hnn
        have HB10 := Lib.hid (below_all HB8.out hb)
        have HF10 := Lib.hid hrd
        clear hb hrd hnn HB8
        rw [HRN.out]
        refine hK.out _ _ ?_ (fun hHeld2 => ?_)
        · exact HY.out _ HB10.out
        clear hK K hHeld
        have hHeld := hHeld2
        clear hHeld2
        try simp only [Act.put, List.setIfInBounds_toArray, List.set_cons_zero, List.set_cons_succ, List.getElem_toArray, List.getElem_cons_zero, List.getElem_cons_succ]
        refine wpAnyH_ready (rs := [34]) (by kernel_rfl) (by simp) ?_
        refine (AllReadyH.cons rfl (fun K hK => ?_) AllReadyH.nil)
        go_simp
        refine (rsame_is (xs := T'.row) (ys := T'.row) (n := rn) (m := rn) HF10.out (HRR.out.up HB10.out) HRN.out HRN.out (by have := HRN.out; omega)).mono ?_
        rw [show decide (T'.row = T'.row) = true by simp]
        rintro r w11 ⟨rfl, hb⟩
        have HB11 := Lib.hid (below_all HB10.out hb)
        clear hb HF10 HB10
        refine hK.out _ _ ?_ (fun hHeld2 => ?_)
        · exact HY.out _ HB11.out
        clear hK K hHeld
        have hHeld := hHeld2
        clear hHeld2
        try simp only [Act.put, List.setIfInBounds_toArray, List.set_cons_zero, List.set_cons_succ, List.getElem_toArray, List.getElem_cons_zero, List.getElem_cons_succ]
        refine wpAnyH_take (i := 35) (v := ?_) rfl (by kernel_rfl) (by kernel_rfl) (by kernel_rfl) (fun _ _ _ h => h) (Or.inl ⟨by rfl, ?_⟩) hHeld ?_
        rotate_left
        · intro u hSu
          obtain y1 := hSu
          go_simp
          try with_reducible rfl
        try simp only [Act.put, List.setIfInBounds_toArray, List.set_cons_zero, List.set_cons_succ, List.getElem_toArray, List.getElem_cons_zero, List.getElem_cons_succ]
        refine wpAnyH_take (i := 36) (v := ?_) rfl (by kernel_rfl) (by kernel_rfl) (by kernel_rfl) (fun _ _ _ h => h) (Or.inl ⟨by rfl, ?_⟩) hHeld ?_
        rotate_left
        · intro u hSu
          obtain y1 := hSu
          go_simp
          try with_reducible rfl
        try simp only [Act.put, List.setIfInBounds_toArray, List.set_cons_zero, List.set_cons_succ, List.getElem_toArray, List.getElem_cons_zero, List.getElem_cons_succ]
        refine wpAnyH_take (i := 37) (v := ?_) rfl (by kernel_rfl) (by kernel_rfl) (by kernel_rfl) (fun _ _ _ h => h) (Or.inl ⟨by rfl, ?_⟩) hHeld ?_
        rotate_left
        · intro u hSu
          obtain y1 := hSu
          go_simp
          try with_reducible rfl
        try simp only [Act.put, List.setIfInBounds_toArray, List.set_cons_zero, List.set_cons_succ, List.getElem_toArray, List.getElem_cons_zero, List.getElem_cons_succ]
        refine wpAnyH_take (i := 38) (v := ?_) rfl (by kernel_rfl) (by kernel_rfl) (by kernel_rfl) (fun _ _ _ h => h) (Or.inl ⟨by rfl, ?_⟩) hHeld ?_
        rotate_left
        · intro u hSu
          obtain y1 := hSu
          go_simp
          try with_reducible rfl
        try simp only [Act.put, List.setIfInBounds_toArray, List.set_cons_zero, List.set_cons_succ, List.getElem_toArray, List.getElem_cons_zero, List.getElem_cons_succ]
        refine wpAnyH_take (i := 40) (v := ?_) rfl (by kernel_rfl) (by kernel_rfl) (by kernel_rfl) (fun _ _ _ h => h) (Or.inl ⟨by rfl, ?_⟩) hHeld ?_
        rotate_left
        · intro u hSu
          obtain y1 := hSu
          go_simp
          try with_reducible rfl
        try simp only [Act.put, List.setIfInBounds_toArray, List.set_cons_zero, List.set_cons_succ, List.getElem_toArray, List.getElem_cons_zero, List.getElem_cons_succ]
        refine wpAnyH_ready (rs := [39]) (by kernel_rfl) (by simp) ?_
        refine (AllReadyH.cons rfl (fun K hK => ?_) AllReadyH.nil)
        go_simp
        refine (xclosed (HZ.out.x.up HB11.out) HDL.out).mono ?_
        rintro r w12 hnn
        obtain ⟨A12, c12, rfl, hrd, _, _, hb⟩ := tr_own hnn
        have HB12 := Lib.hid (below_all HB11.out hb)
        have HF12 := Lib.hid hrd
        clear hb hrd hnn HB11
        rw [HCN.out]
        refine hK.out _ _ ?_ (fun hHeld2 => ?_)
        · exact HY.out _ HB12.out
        clear hK K hHeld
        have hHeld := hHeld2
        clear hHeld2
        try simp only [Act.put, List.setIfInBounds_toArray, List.set_cons_zero, List.set_cons_succ, List.getElem_toArray, List.getElem_cons_zero, List.getElem_cons_succ]
        refine wpAnyH_ready (rs := [41]) (by kernel_rfl) (by simp) ?_
        refine (AllReadyH.cons rfl (fun K hK => ?_) AllReadyH.nil)
        go_simp
        refine (rtclosed_at (HZ.out.r.up HB12.out) HDL.out).mono ?_
        rintro r w13 hnn
        obtain ⟨A13, c13, rfl, hrd, _, _, hb⟩ := tr_own hnn
        have HB13 := Lib.hid (below_all HB12.out hb)
        have HF13 := Lib.hid (HF12.out.up hb)
        have HG13 := Lib.hid hrd
        clear hb hrd hnn HB12 HF12
        rw [HCN.out]
        refine hK.out _ _ ?_ (fun hHeld2 => ?_)
        · exact HY.out _ HB13.out
        clear hK K hHeld
        have hHeld := hHeld2
        clear hHeld2
        try simp only [Act.put, List.setIfInBounds_toArray, List.set_cons_zero, List.set_cons_succ, List.getElem_toArray, List.getElem_cons_zero, List.getElem_cons_succ]
        refine wpAnyH_ready (rs := [42]) (by kernel_rfl) (by simp) ?_
        refine (AllReadyH.cons rfl (fun K hK => ?_) AllReadyH.nil)
        go_simp
        refine (rsame_is (xs := T'.closedL) (ys := T'.closedL) (n := cn) (m := cn) HF13.out HG13.out HCN.out HCN.out (by have := HC24.out; omega)).mono ?_
        rw [show decide (T'.closedL = T'.closedL) = true by simp]
        rintro r w14 ⟨rfl, hb⟩
        have HB14 := Lib.hid (below_all HB13.out hb)
        clear hb HF13 HG13 HB13
        refine hK.out _ _ ?_ (fun hHeld2 => ?_)
        · exact HY.out _ HB14.out
        clear hK K hHeld
        have hHeld := hHeld2
        clear hHeld2
        try simp only [Act.put, List.setIfInBounds_toArray, List.set_cons_zero, List.set_cons_succ, List.getElem_toArray, List.getElem_cons_zero, List.getElem_cons_succ]
        refine wpAnyH_take (i := 43) (v := ?_) rfl (by kernel_rfl) (by kernel_rfl) (by kernel_rfl) (fun _ _ _ h => h) (Or.inl ⟨by rfl, ?_⟩) hHeld ?_
        rotate_left
        · intro u hSu
          obtain y1 := hSu
          go_simp
          try with_reducible rfl
        try simp only [Act.put, List.setIfInBounds_toArray, List.set_cons_zero, List.set_cons_succ, List.getElem_toArray, List.getElem_cons_zero, List.getElem_cons_succ]
        refine wpAnyH_take (i := 44) (v := ?_) rfl (by kernel_rfl) (by kernel_rfl) (by kernel_rfl) (fun _ _ _ h => h) (Or.inl ⟨by rfl, ?_⟩) hHeld ?_
        rotate_left
        · intro u hSu
          obtain y1 := hSu
          go_simp
          try with_reducible rfl
        try simp only [Act.put, List.setIfInBounds_toArray, List.set_cons_zero, List.set_cons_succ, List.getElem_toArray, List.getElem_cons_zero, List.getElem_cons_succ]
        refine wpAnyH_done (by kernel_rfl) ?_ _
        have HZ14 := Lib.hid (HZ.out.up HB14.out)
        clear HZ HY HRR HB14
        go_wp2_with fail
        go_roundg (m - (i + 1))
        case rel => exact ⟨i + 1, T', A5, G5, by omega, rfl, by go_num, HDL2.out, HZ14.out⟩
        case measure => have := HQ.out; omega
      · go_wp2_with fail
        go_ret
        exact ⟨rfl, HZ.out.x.old⟩
  · rw [if_neg hn] at h
    obtain ⟨ev, rfl, rfl⟩ := h
    clear hb
    go_wp2_with fail
    refine (rtnew_at n w2).mono ?_
    rintro r w3 ⟨hb, h⟩
    rw [if_neg hn] at h
    subst h
    have HB3 := Lib.hid (below_all HB2.out hb)
    have HG3 : Hid (Gl w3) := Lib.hid ((HB3.out.cell (p := ⟨0, 0, none⟩) (World.block_lt_of_cell? w _ HG.out)).trans HG.out)
    have HCO := Lib.hid (code_errno (w := w3) 1 HG3.out)
    clear hb hn
    go_wp2_with fail
    refine HCO.out.mono ?_
    rintro r w4 ⟨rfl, hb⟩
    have HB4 := Lib.hid (below_all HB3.out hb)
    clear hb HCO
    go_wp2_with fail
    go_ret
    exact ⟨rfl, HB4.out⟩
end Go.Proofs.YteoohafadijkmaaDoor
