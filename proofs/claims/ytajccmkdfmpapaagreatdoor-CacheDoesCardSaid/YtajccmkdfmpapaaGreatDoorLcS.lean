/-
  platelayerlaw10.CacheDoes answers true.
-/
import Derived.Test.YtajccmkdfmpapaaGreatDoorLcS0
import Derived.Test.YtajccmkdfmpapaaGreatDoorZmP
import Derived.Test.YtajccmkdfmpapaaGreatDoorZmQ
import Derived.Test.YtajccmkdfmpapaaGreatDoorZmQ
import Derived.Test.YtajccmkdfmpapaaGreatDoorZmQ
import Derived.Test.YtajccmkdfmpapaaGreatDoorZmH
import Derived.Test.YtajccmkdfmpapaaGreatDoorZmA
import Derived.Deep.CutBlock
import Derived.Deep.DeepCutAuto
namespace Go.Proofs.YtajccmkdfmpapaaGreatDoor
open Go.RowKit

theorem xcells {u : World} {a : Nat} {xd xb : Int} {xa : Nat} {xy : Bool} (h : Blk u a 36 [.int .i64 xd, .int .i64 xb, .int .u32 (xa : Int), .bool xy]) : u.cell? ⟨a, 0, none⟩ = some (.int .i64 xd) ∧ u.cell? ⟨a, 1, none⟩ = some (.int .i64 xb) ∧ u.cell? ⟨a, 2, none⟩ = some (.int .u32 (xa : Int)) ∧ u.cell? ⟨a, 3, none⟩ = some (.bool xy) := ⟨h.cell 0 (by simp), h.cell 1 (by simp), h.cell 2 (by simp), h.cell 3 (by simp)⟩
set_option maxHeartbeats 4000000 in
set_option maxRecDepth 100000 in
theorem cdoes_true {w : World} (hg : Gl w) (n : Int) (A : Option Addr) (m c : Nat) (l : List CAct) (t : Int) (hl : l.length = m) (hr : RdC w A l) : Calls Tryz.prog 3 #[.int .i64 n, .slice A m c, .int .i64 t] w (BoolB true w) := by
  have HG := Lib.hid hg
  have HL := Lib.hid hl
  have HR := Lib.hid hr
  clear hl hr hg
  go_enter Tryz.func3, Tryz.ntmps3
  go_wp2_with fail
  refine (caawake_true w).mono ?_
  rintro r w1 ⟨rfl, hb⟩
  have HB1 := Lib.hid hb
  clear hb
  by_cases hmm : 200 < m
  · go_wp2_with fail
    go_ret
    exact ⟨rfl, HB1.out⟩
  go_wp2_with fail
  refine (lcnew_at n w1).mono ?_
  rintro r w2 ⟨hb, h⟩
  have HB2 := Lib.hid (below_all HB1.out hb)
  by_cases hnn : 1 ≤ n ∧ n ≤ 64
  · rw [if_pos hnn] at h
    obtain ⟨cb, kb, ib, eb, hge, rfl, hm⟩ := h
    have HM2 := Lib.hid hm
    have HGE := Lib.hid hge
    clear hb hge hm
    go_wp2_with fail
    refine (cnew_at n w2).mono ?_
    rintro r w3 ⟨hb, h⟩
    rw [if_pos hnn] at h
    obtain ⟨rc, hrc, rfl, hm⟩ := h
    have HD3 : Hid (TwC w w3 cb kb ib eb rc w2.heap.size ⟨[], [], [], n.toNat⟩) := Lib.hid (by
      have h1 := HM2.out.lt
      have h2 := HM2.out.ne
      have h3 := HB1.out.size
      have h4 := HB2.out.size
      have h5 := HGE.out
      have h6 := hb.size
      exact ⟨⟨_, HM2.out.up hb⟩, ⟨_, _, _, hm.fresh (fun k hk => by unfold farY; omega), fun j hj => (by cases hj)⟩, by omega, by omega, below_all HB2.out hb⟩)
    obtain ⟨rk, hrk⟩ : ∃ rk, w2.heap.size = rk := ⟨_, rfl⟩
    rw [hrk] at HD3
    clear hb hm hrk HM2 HB2 HB1 HGE hrc
    go_wp2_with fail
    refine (code_nil _).mono ?_
    rintro r w4 ⟨rfl, hb⟩
    have HD4 := Lib.hid (HD3.out.up hb)
    clear hb HD3
    go_wp2_with fail
    go_loopg [47] m (fun q y wr => ∃ (i : Nat) (S : CaS), i ≤ m ∧ q = m - i ∧ y = .int .i64 i ∧ TwC w wr cb kb ib eb rc rk S)
    case atStart => exact ⟨0, _, by omega, by omega, rfl, HD4.out⟩
    case round =>
      clear HD4
      obtain ⟨i, S, hi, hq, rfl, hd⟩ := hrel
      have HQ := Lib.hid hq
      have HD := Lib.hid hd
      clear hq hd
      by_cases hlt : i < m
      · have hll : i < l.length := by rw [HL.out]; exact hlt
        obtain ⟨b, o, rfl, _, hcell⟩ := (HR.out.below HD.out.old) (by omega)
        obtain ⟨c0, c1, c2, c3⟩ := hcell i hll
        obtain ⟨xd, hxd⟩ : ∃ d, l[i].d = d := ⟨_, rfl⟩
        obtain ⟨xb, hxb⟩ : ∃ d, l[i].b = d := ⟨_, rfl⟩
        obtain ⟨xa, hxa⟩ : ∃ d, l[i].a = d := ⟨_, rfl⟩
        obtain ⟨xy, hxy⟩ : ∃ d, l[i].y = d := ⟨_, rfl⟩
        rw [hxd] at c0
        rw [hxb] at c1
        rw [hxa] at c2
        rw [hxy] at c3
        obtain ⟨wa, hwa⟩ : ∃ wa, wr.alloc (.cells #[.int .i64 xd, .int .i64 xb, .int .u32 (xa : Int), .bool xy] 36) = wa := ⟨_, rfl⟩
        have hba : Below wr.heap.size wr wa := by rw [← hwa]; exact (Below.refl _ _).alloc (Nat.le_refl _) _
        have hbk : Blk wa wr.heap.size 36 [.int .i64 xd, .int .i64 xb, .int .u32 (xa : Int), .bool xy] := by rw [← hwa]; exact heap_alloc_new wr _
        obtain ⟨⟨σ1, hc1⟩, ⟨vL, vS, σ2, hr1, ho1⟩, hge1, hfar, hold⟩ := HD.out
        have hlt1 := hr1.lt
        have hltc := hc1.lt
        have hnec := hc1.ne
        have HNA : Hid ((¬ lcF kb ib eb wr.heap.size) ∧ (¬ rcF rc rk vL wr.heap.size) ∧ ∀ k, lcF kb ib eb k → w.heap.size ≤ k) := Lib.hid ⟨by unfold lcF; omega, fun e => by rcases e with e | e | e; omega; omega; (have := hlt1.2.2 _ e; omega), fun k e => by unfold lcF at e; omega⟩
        have HC := Lib.hid (hc1.up hba)
        have HR0 := Lib.hid (hr1.up hba)
        have HNO := Lib.hid ho1
        have HT := Lib.hid (HD.out.up hba)
        obtain ⟨a, ha⟩ : ∃ a, wr.heap.size = a := ⟨_, rfl⟩
        rw [ha] at hbk HNA
        have HX := Lib.hid hbk
        clear hcell hxd hxb hxa hxy hba hbk HD hc1 hr1 ho1 hge1 hfar hold hlt1 hltc hnec
        go_upto_region 14 with fail
        clear hwa ha c0 c1 c2 c3
        refine wp_region_held_drew (S := fun u => u.cell? ⟨a, 0, none⟩ = some (.int .i64 xd) ∧ u.cell? ⟨a, 1, none⟩ = some (.int .i64 xb) ∧ u.cell? ⟨a, 2, none⟩ = some (.int .u32 (xa : Int)) ∧ u.cell? ⟨a, 3, none⟩ = some (.bool xy)) (by kernel_rfl) (xcells (HX.out.up (Below.refl _ _).drew (lt_of_block HX.out))) (fun hHeld => ?_)
        show wpAnyH _ _ _ _ _ 47 _ _ _
        refine wpAnyH_take (i := 0) (v := ?_) rfl (by kernel_rfl) (by kernel_rfl) (by kernel_rfl) (fun _ _ _ h => h) (Or.inl ⟨by rfl, ?_⟩) hHeld ?_
        rotate_left
        · intro u hSu
          obtain ⟨x0, x1, x2, x3⟩ := hSu
          go_simp
          try with_reducible rfl
        try simp only [Act.put, List.setIfInBounds_toArray, List.set_cons_zero, List.set_cons_succ, List.getElem_toArray, List.getElem_cons_zero, List.getElem_cons_succ]
        refine wpAnyH_take (i := 1) (v := ?_) rfl (by kernel_rfl) (by kernel_rfl) (by kernel_rfl) (fun _ _ _ h => h) (Or.inl ⟨by rfl, ?_⟩) hHeld ?_
        rotate_left
        · intro u hSu
          obtain ⟨x0, x1, x2, x3⟩ := hSu
          go_simp
          try with_reducible rfl
        try simp only [Act.put, List.setIfInBounds_toArray, List.set_cons_zero, List.set_cons_succ, List.getElem_toArray, List.getElem_cons_zero, List.getElem_cons_succ]
        refine wpAnyH_take (i := 3) (v := ?_) rfl (by kernel_rfl) (by kernel_rfl) (by kernel_rfl) (fun _ _ _ h => h) (Or.inl ⟨by rfl, ?_⟩) hHeld ?_
        rotate_left
        · intro u hSu
          obtain ⟨x0, x1, x2, x3⟩ := hSu
          go_simp
          try with_reducible rfl
        try simp only [Act.put, List.setIfInBounds_toArray, List.set_cons_zero, List.set_cons_succ, List.getElem_toArray, List.getElem_cons_zero, List.getElem_cons_succ]
        refine wpAnyH_take (i := 4) (v := ?_) rfl (by kernel_rfl) (by kernel_rfl) (by kernel_rfl) (fun _ _ _ h => h) (Or.inl ⟨by rfl, ?_⟩) hHeld ?_
        rotate_left
        · intro u hSu
          obtain ⟨x0, x1, x2, x3⟩ := hSu
          go_simp
          try with_reducible rfl
        try simp only [Act.put, List.setIfInBounds_toArray, List.set_cons_zero, List.set_cons_succ, List.getElem_toArray, List.getElem_cons_zero, List.getElem_cons_succ]
        refine wpAnyH_ready (rs := [2]) (by kernel_rfl) (by simp) ?_
        refine (AllReadyH.cons rfl (fun K hK => ?_) AllReadyH.nil)
        go_simp
        refine (lcdo_at xd xb xa xy (HC.out.up (Below.refl _ _).drew)).mono ?_
        rintro r w4 h
        have HC4 := Lib.hid h.2.1
        have HR4 := Lib.hid (RcC.past (HC.out.up (Below.refl _ _).drew) (HR0.out.up (Below.refl _ _).drew) HT.out.far h)
        have HX4 := Lib.hid (h.2.2.blk (HX.out.up (Below.refl _ _).drew (lt_of_block HX.out)) HNA.out.1)
        have HB4 := Lib.hid ((below_all HT.out.old (Below.refl _ _).drew).trans (h.2.2.below (HT.out.up (Below.refl _ _).drew).old.size HNA.out.2.2))
        obtain rfl := h.1
        clear h
        refine hK.out _ _ ?_ (fun hHeld2 => ?_)
        · exact xcells HX4.out
        clear hK K hHeld
        have hHeld := hHeld2
        clear hHeld2
        try simp only [Act.put, List.setIfInBounds_toArray, List.set_cons_zero, List.set_cons_succ, List.getElem_toArray, List.getElem_cons_zero, List.getElem_cons_succ]
        refine wpAnyH_ready (rs := [5]) (by kernel_rfl) (by simp) ?_
        refine (AllReadyH.cons rfl (fun K hK => ?_) AllReadyH.nil)
        go_simp
        refine (cown_at xd xb xa xy HR4.out).mono ?_
        rintro r w5 h
        have h2 := HT.out.owned HC4.out HR4.out HNO.out HB4.out h
        have HT5 := Lib.hid h2.1
        have HX5 := Lib.hid (h2.2.blk HX4.out HNA.out.2.1)
        obtain rfl := h.1
        clear h h2
        refine hK.out _ _ ?_ (fun hHeld2 => ?_)
        · exact xcells HX5.out
        clear hK K hHeld
        have hHeld := hHeld2
        clear hHeld2
        try simp only [Act.put, List.setIfInBounds_toArray, List.set_cons_zero, List.set_cons_succ, List.getElem_toArray, List.getElem_cons_zero, List.getElem_cons_succ]
        obtain ⟨q1, hq1⟩ : ∃ z, S.toldN xd xb = z := ⟨_, rfl⟩
        obtain ⟨q2, hq2⟩ : ∃ z, S.toldB xd xb = z := ⟨_, rfl⟩
        obtain ⟨q3, hq3⟩ : ∃ z, S.toldM xd xb = z := ⟨_, rfl⟩
        rw [hq1, hq2, hq3]
        obtain ⟨S', hS'⟩ : ∃ S', S.doS xd xb xa xy = S' := ⟨_, rfl⟩
        rw [hS'] at HT5
        clear hS' hq1 hq2 hq3 HC4 HR4 HX4 HB4 HNA HNO HR0 HC HT HX
        obtain ⟨⟨σc, hc5⟩, ⟨vL5, vS5, σr, hr5, _⟩, _, _, ho5⟩ := HT5.out
        have HC5 := Lib.hid hc5
        have HO5 := Lib.hid ho5
        obtain ⟨AL, cL, rfl, _, _, hzL⟩ := hr5.l.form
        have HR5 := Lib.hid hr5
        obtain ⟨N, hN⟩ : ∃ N, S'.E.length = N := ⟨_, rfl⟩
        have HLN : Hid (S'.E.length = N ∧ N ≤ 64) := Lib.hid ⟨hN, by rw [← hN]; exact hr5.lens.1⟩
        have HSS : Hid (∀ u, Below w5.heap.size w5 u → (u.cell? ⟨a, 0, none⟩ = some (.int .i64 xd) ∧ u.cell? ⟨a, 1, none⟩ = some (.int .i64 xb) ∧ u.cell? ⟨a, 2, none⟩ = some (.int .u32 (xa : Int)) ∧ u.cell? ⟨a, 3, none⟩ = some (.bool xy)) ∧ u.cell? ⟨rc, 0, none⟩ = some (.slice AL N cL)) := Lib.hid (fun u hu => by
          have h1 := (HR5.out.up hu).cells.1
          rw [hN] at h1
          exact ⟨xcells (HX5.out.up hu (lt_of_block HX5.out)), h1⟩)
        clear hc5 hr5 ho5 hN hzL
        refine wpAnyH_mono (S2 := fun u => (u.cell? ⟨a, 0, none⟩ = some (.int .i64 xd) ∧ u.cell? ⟨a, 1, none⟩ = some (.int .i64 xb) ∧ u.cell? ⟨a, 2, none⟩ = some (.int .u32 (xa : Int)) ∧ u.cell? ⟨a, 3, none⟩ = some (.bool xy)) ∧ u.cell? ⟨rc, 0, none⟩ = some (.slice AL N cL)) (fun u h => h.1) ?_
        clear hHeld
        have hHeld : (fun u => (u.cell? ⟨a, 0, none⟩ = some (.int .i64 xd) ∧ u.cell? ⟨a, 1, none⟩ = some (.int .i64 xb) ∧ u.cell? ⟨a, 2, none⟩ = some (.int .u32 (xa : Int)) ∧ u.cell? ⟨a, 3, none⟩ = some (.bool xy)) ∧ u.cell? ⟨rc, 0, none⟩ = some (.slice AL N cL)) w5 := HSS.out _ (Below.refl _ _)
        refine wpAnyH_take (i := 6) (v := ?_) rfl (by kernel_rfl) (by kernel_rfl) (by kernel_rfl) (fun _ _ _ h => h) (Or.inl ⟨by rfl, ?_⟩) hHeld ?_
        rotate_left
        · intro u hSu
          obtain ⟨⟨x0, x1, x2, x3⟩, t0⟩ := hSu
          go_simp
          try with_reducible rfl
        try simp only [Act.put, List.setIfInBounds_toArray, List.set_cons_zero, List.set_cons_succ, List.getElem_toArray, List.getElem_cons_zero, List.getElem_cons_succ]
        refine wpAnyH_take (i := 7) (v := ?_) rfl (by kernel_rfl) (by kernel_rfl) (by kernel_rfl) (fun _ _ _ h => h) (Or.inl ⟨by rfl, ?_⟩) hHeld ?_
        rotate_left
        · intro u hSu
          obtain ⟨⟨x0, x1, x2, x3⟩, t0⟩ := hSu
          go_simp
          try with_reducible rfl
        try simp only [Act.put, List.setIfInBounds_toArray, List.set_cons_zero, List.set_cons_succ, List.getElem_toArray, List.getElem_cons_zero, List.getElem_cons_succ]
        refine wpAnyH_take (i := 8) (v := ?_) rfl (by kernel_rfl) (by kernel_rfl) (by kernel_rfl) (fun _ _ _ h => h) (Or.inl ⟨by rfl, ?_⟩) hHeld ?_
        rotate_left
        · intro u hSu
          obtain ⟨⟨x0, x1, x2, x3⟩, t0⟩ := hSu
          go_simp
          try with_reducible rfl
        try simp only [Act.put, List.setIfInBounds_toArray, List.set_cons_zero, List.set_cons_succ, List.getElem_toArray, List.getElem_cons_zero, List.getElem_cons_succ]
        refine wpAnyH_take (i := 10) (v := ?_) rfl (by kernel_rfl) (by kernel_rfl) (by kernel_rfl) (fun _ _ _ h => h) (Or.inl ⟨by rfl, ?_⟩) hHeld ?_
        rotate_left
        · intro u hSu
          obtain ⟨⟨x0, x1, x2, x3⟩, t0⟩ := hSu
          go_simp
          try with_reducible rfl
        try simp only [Act.put, List.setIfInBounds_toArray, List.set_cons_zero, List.set_cons_succ, List.getElem_toArray, List.getElem_cons_zero, List.getElem_cons_succ]
        refine wpAnyH_take (i := 11) (v := ?_) rfl (by kernel_rfl) (by kernel_rfl) (by kernel_rfl) (fun _ _ _ h => h) (Or.inl ⟨by rfl, ?_⟩) hHeld ?_
        rotate_left
        · intro u hSu
          obtain ⟨⟨x0, x1, x2, x3⟩, t0⟩ := hSu
          go_simp
          try with_reducible rfl
        try simp only [Act.put, List.setIfInBounds_toArray, List.set_cons_zero, List.set_cons_succ, List.getElem_toArray, List.getElem_cons_zero, List.getElem_cons_succ]
        refine wpAnyH_take (i := 12) (v := ?_) rfl (by kernel_rfl) (by kernel_rfl) (by kernel_rfl) (fun _ _ _ h => h) (Or.inl ⟨by rfl, ?_⟩) hHeld ?_
        rotate_left
        · intro u hSu
          obtain ⟨⟨x0, x1, x2, x3⟩, t0⟩ := hSu
          go_simp
          try with_reducible rfl
        try simp only [Act.put, List.setIfInBounds_toArray, List.set_cons_zero, List.set_cons_succ, List.getElem_toArray, List.getElem_cons_zero, List.getElem_cons_succ]
        refine wpAnyH_take (i := 13) (v := ?_) rfl (by kernel_rfl) (by kernel_rfl) (by kernel_rfl) (fun _ _ _ h => h) (Or.inl ⟨by rfl, ?_⟩) hHeld ?_
        rotate_left
        · intro u hSu
          obtain ⟨⟨x0, x1, x2, x3⟩, t0⟩ := hSu
          go_simp
          try with_reducible rfl
        try simp only [Act.put, List.setIfInBounds_toArray, List.set_cons_zero, List.set_cons_succ, List.getElem_toArray, List.getElem_cons_zero, List.getElem_cons_succ]
        refine wpAnyH_take (i := 14) (v := ?_) rfl (by kernel_rfl) (by kernel_rfl) (by kernel_rfl) (fun _ _ _ h => h) (Or.inl ⟨by rfl, ?_⟩) hHeld ?_
        rotate_left
        · intro u hSu
          obtain ⟨⟨x0, x1, x2, x3⟩, t0⟩ := hSu
          go_simp
          try with_reducible rfl
        try simp only [Act.put, List.setIfInBounds_toArray, List.set_cons_zero, List.set_cons_succ, List.getElem_toArray, List.getElem_cons_zero, List.getElem_cons_succ]
        refine wpAnyH_ready (rs := [9]) (by kernel_rfl) (by simp) ?_
        refine (AllReadyH.cons rfl (fun K hK => ?_) AllReadyH.nil)
        go_simp
        refine (lclen_at HC5.out).mono ?_
        rintro r w6 ⟨rfl, rfl⟩
        rw [HLN.out.1]
        refine hK.out _ _ ?_ (fun hHeld2 => ?_)
        · exact HSS.out _ (Below.refl _ _)
        clear hK K hHeld
        have hHeld := hHeld2
        clear hHeld2
        try simp only [Act.put, List.setIfInBounds_toArray, List.set_cons_zero, List.set_cons_succ, List.getElem_toArray, List.getElem_cons_zero, List.getElem_cons_succ]
        refine wpAnyH_take (i := 15) (v := ?_) rfl (by kernel_rfl) (by kernel_rfl) (by kernel_rfl) (fun _ _ _ h => h) (Or.inl ⟨by rfl, ?_⟩) hHeld ?_
        rotate_left
        · intro u hSu
          obtain ⟨⟨x0, x1, x2, x3⟩, t0⟩ := hSu
          go_simp
          try with_reducible rfl
        try simp only [Act.put, List.setIfInBounds_toArray, List.set_cons_zero, List.set_cons_succ, List.getElem_toArray, List.getElem_cons_zero, List.getElem_cons_succ]
        refine wpAnyH_take (i := 16) (v := ?_) rfl (by kernel_rfl) (by kernel_rfl) (by kernel_rfl) (fun _ _ _ h => h) (Or.inl ⟨by rfl, ?_⟩) hHeld ?_
        rotate_left
        · intro u hSu
          obtain ⟨⟨x0, x1, x2, x3⟩, t0⟩ := hSu
          go_simp
          try with_reducible rfl
        try simp only [Act.put, List.setIfInBounds_toArray, List.set_cons_zero, List.set_cons_succ, List.getElem_toArray, List.getElem_cons_zero, List.getElem_cons_succ]
        refine wpAnyH_take (i := 17) (v := ?_) rfl (by kernel_rfl) (by kernel_rfl) (by kernel_rfl) (fun _ _ _ h => h) (Or.inl ⟨by rfl, ?_⟩) hHeld ?_
        rotate_left
        · intro u hSu
          obtain ⟨⟨x0, x1, x2, x3⟩, t0⟩ := hSu
          go_simp
          try with_reducible rfl
        try simp only [Act.put, List.setIfInBounds_toArray, List.set_cons_zero, List.set_cons_succ, List.getElem_toArray, List.getElem_cons_zero, List.getElem_cons_succ]
        refine wpAnyH_take (i := 18) (v := ?_) rfl (by kernel_rfl) (by kernel_rfl) (by kernel_rfl) (fun _ _ _ h => h) (Or.inl ⟨by rfl, ?_⟩) hHeld ?_
        rotate_left
        · intro u hSu
          obtain ⟨⟨x0, x1, x2, x3⟩, t0⟩ := hSu
          go_simp
          try with_reducible rfl
        try simp only [Act.put, List.setIfInBounds_toArray, List.set_cons_zero, List.set_cons_succ, List.getElem_toArray, List.getElem_cons_zero, List.getElem_cons_succ]
        refine wpAnyH_take (i := 21) (v := ?_) rfl (by kernel_rfl) (by kernel_rfl) (by kernel_rfl) (fun _ _ _ h => h) (Or.inl ⟨by rfl, ?_⟩) hHeld ?_
        rotate_left
        · intro u hSu
          obtain ⟨⟨x0, x1, x2, x3⟩, t0⟩ := hSu
          go_simp
          try with_reducible rfl
        try simp only [Act.put, List.setIfInBounds_toArray, List.set_cons_zero, List.set_cons_succ, List.getElem_toArray, List.getElem_cons_zero, List.getElem_cons_succ]
        refine wpAnyH_take (i := 22) (v := ?_) rfl (by kernel_rfl) (by kernel_rfl) (by kernel_rfl) (fun _ _ _ h => h) (Or.inl ⟨by rfl, ?_⟩) hHeld ?_
        rotate_left
        · intro u hSu
          obtain ⟨⟨x0, x1, x2, x3⟩, t0⟩ := hSu
          go_simp
          try with_reducible rfl
        try simp only [Act.put, List.setIfInBounds_toArray, List.set_cons_zero, List.set_cons_succ, List.getElem_toArray, List.getElem_cons_zero, List.getElem_cons_succ]
        refine wpAnyH_take (i := 23) (v := ?_) rfl (by kernel_rfl) (by kernel_rfl) (by kernel_rfl) (fun _ _ _ h => h) (Or.inl ⟨by rfl, ?_⟩) hHeld ?_
        rotate_left
        · intro u hSu
          obtain ⟨⟨x0, x1, x2, x3⟩, t0⟩ := hSu
          go_simp
          try with_reducible rfl
        try simp only [Act.put, List.setIfInBounds_toArray, List.set_cons_zero, List.set_cons_succ, List.getElem_toArray, List.getElem_cons_zero, List.getElem_cons_succ]
        refine wpAnyH_take (i := 24) (v := ?_) rfl (by kernel_rfl) (by kernel_rfl) (by kernel_rfl) (fun _ _ _ h => h) (Or.inl ⟨by rfl, ?_⟩) hHeld ?_
        rotate_left
        · intro u hSu
          obtain ⟨⟨x0, x1, x2, x3⟩, t0⟩ := hSu
          go_simp
          try with_reducible rfl
        try simp only [Act.put, List.setIfInBounds_toArray, List.set_cons_zero, List.set_cons_succ, List.getElem_toArray, List.getElem_cons_zero, List.getElem_cons_succ]
        refine wpAnyH_ready (rs := [19]) (by kernel_rfl) (by simp) ?_
        refine (AllReadyH.cons rfl (fun K hK => ?_) AllReadyH.nil)
        go_simp
        refine (lcall_at HC5.out).mono ?_
        rintro r w6 ⟨v6, rfl, ho, hb⟩
        obtain ⟨A6, c6, rfl, _, _, _⟩ := ho.form
        have HE6 := Lib.hid ho.rd
        have HB6 := Lib.hid hb
        clear ho hb
        rw [HLN.out.1]
        refine hK.out _ _ ?_ (fun hHeld2 => ?_)
        · exact HSS.out _ HB6.out
        clear hK K hHeld
        have hHeld := hHeld2
        clear hHeld2
        try simp only [Act.put, List.setIfInBounds_toArray, List.set_cons_zero, List.set_cons_succ, List.getElem_toArray, List.getElem_cons_zero, List.getElem_cons_succ]
        refine wpAnyH_ready (rs := [20]) (by kernel_rfl) (by simp) ?_
        refine (AllReadyH.cons rfl (fun K hK => ?_) AllReadyH.nil)
        go_simp
        refine (centries_at S'.E HLN.out.1 HE6.out (by have := HLN.out.2; omega)).mono ?_
        rintro r w7 ⟨v7, rfl, ho, hb⟩
        obtain ⟨A7, c7, rfl, _, _, _⟩ := ho.form
        have HE7 := Lib.hid ho.rd
        have HB7 := Lib.hid (below_all HB6.out hb)
        clear ho hb HE6
        rw [HLN.out.1]
        refine hK.out _ _ ?_ (fun hHeld2 => ?_)
        · exact HSS.out _ HB7.out
        clear hK K hHeld
        have hHeld := hHeld2
        clear hHeld2
        try simp only [Act.put, List.setIfInBounds_toArray, List.set_cons_zero, List.set_cons_succ, List.getElem_toArray, List.getElem_cons_zero, List.getElem_cons_succ]
        refine wpAnyH_ready (rs := [25]) (by kernel_rfl) (by simp) ?_
        refine (AllReadyH.cons rfl (fun K hK => ?_) AllReadyH.nil)
        go_simp
        refine (csame_at S'.E HLN.out.1 HE7.out ((HR5.out.up HB7.out).l.rd) (by have := HLN.out.2; omega)).mono ?_
        rintro r w8 ⟨rfl, hb⟩
        have HB8 := Lib.hid (below_all HB7.out hb)
        clear hb HE7
        refine hK.out _ _ ?_ (fun hHeld2 => ?_)
        · exact HSS.out _ HB8.out
        clear hK K hHeld
        have hHeld := hHeld2
        clear hHeld2
        try simp only [Act.put, List.setIfInBounds_toArray, List.set_cons_zero, List.set_cons_succ, List.getElem_toArray, List.getElem_cons_zero, List.getElem_cons_succ]
        refine wpAnyH_take (i := 26) (v := ?_) rfl (by kernel_rfl) (by kernel_rfl) (by kernel_rfl) (fun _ _ _ h => h) (Or.inl ⟨by rfl, ?_⟩) hHeld ?_
        rotate_left
        · intro u hSu
          obtain ⟨⟨x0, x1, x2, x3⟩, t0⟩ := hSu
          go_simp
          try with_reducible rfl
        try simp only [Act.put, List.setIfInBounds_toArray, List.set_cons_zero, List.set_cons_succ, List.getElem_toArray, List.getElem_cons_zero, List.getElem_cons_succ]
        refine wpAnyH_take (i := 27) (v := ?_) rfl (by kernel_rfl) (by kernel_rfl) (by kernel_rfl) (fun _ _ _ h => h) (Or.inl ⟨by rfl, ?_⟩) hHeld ?_
        rotate_left
        · intro u hSu
          obtain ⟨⟨x0, x1, x2, x3⟩, t0⟩ := hSu
          go_simp
          try with_reducible rfl
        try simp only [Act.put, List.setIfInBounds_toArray, List.set_cons_zero, List.set_cons_succ, List.getElem_toArray, List.getElem_cons_zero, List.getElem_cons_succ]
        refine wpAnyH_take (i := 28) (v := ?_) rfl (by kernel_rfl) (by kernel_rfl) (by kernel_rfl) (fun _ _ _ h => h) (Or.inl ⟨by rfl, ?_⟩) hHeld ?_
        rotate_left
        · intro u hSu
          obtain ⟨⟨x0, x1, x2, x3⟩, t0⟩ := hSu
          go_simp
          try with_reducible rfl
        try simp only [Act.put, List.setIfInBounds_toArray, List.set_cons_zero, List.set_cons_succ, List.getElem_toArray, List.getElem_cons_zero, List.getElem_cons_succ]
        refine wpAnyH_take (i := 29) (v := ?_) rfl (by kernel_rfl) (by kernel_rfl) (by kernel_rfl) (fun _ _ _ h => h) (Or.inl ⟨by rfl, ?_⟩) hHeld ?_
        rotate_left
        · intro u hSu
          obtain ⟨⟨x0, x1, x2, x3⟩, t0⟩ := hSu
          go_simp
          try with_reducible rfl
        try simp only [Act.put, List.setIfInBounds_toArray, List.set_cons_zero, List.set_cons_succ, List.getElem_toArray, List.getElem_cons_zero, List.getElem_cons_succ]
        refine wpAnyH_take (i := 30) (v := ?_) rfl (by kernel_rfl) (by kernel_rfl) (by kernel_rfl) (fun _ _ _ h => h) (Or.inl ⟨by rfl, ?_⟩) hHeld ?_
        rotate_left
        · intro u hSu
          obtain ⟨⟨x0, x1, x2, x3⟩, t0⟩ := hSu
          go_simp
          try with_reducible rfl
        try simp only [Act.put, List.setIfInBounds_toArray, List.set_cons_zero, List.set_cons_succ, List.getElem_toArray, List.getElem_cons_zero, List.getElem_cons_succ]
        refine wpAnyH_take (i := 33) (v := ?_) rfl (by kernel_rfl) (by kernel_rfl) (by kernel_rfl) (fun _ _ _ h => h) (Or.inl ⟨by rfl, ?_⟩) hHeld ?_
        rotate_left
        · intro u hSu
          obtain ⟨⟨x0, x1, x2, x3⟩, t0⟩ := hSu
          go_simp
          try with_reducible rfl
        try simp only [Act.put, List.setIfInBounds_toArray, List.set_cons_zero, List.set_cons_succ, List.getElem_toArray, List.getElem_cons_zero, List.getElem_cons_succ]
        refine wpAnyH_take (i := 34) (v := ?_) rfl (by kernel_rfl) (by kernel_rfl) (by kernel_rfl) (fun _ _ _ h => h) (Or.inl ⟨by rfl, ?_⟩) hHeld ?_
        rotate_left
        · intro u hSu
          obtain ⟨⟨x0, x1, x2, x3⟩, t0⟩ := hSu
          go_simp
          try with_reducible rfl
        try simp only [Act.put, List.setIfInBounds_toArray, List.set_cons_zero, List.set_cons_succ, List.getElem_toArray, List.getElem_cons_zero, List.getElem_cons_succ]
        refine wpAnyH_ready (rs := [31]) (by kernel_rfl) (by simp) ?_
        refine (AllReadyH.cons rfl (fun K hK => ?_) AllReadyH.nil)
        go_simp
        refine (lcdirty_at t (HC5.out.up HB8.out)).mono ?_
        rintro r w9 ⟨v9, rfl, ho, hb⟩
        obtain ⟨A9, c9, rfl, _, _, _⟩ := ho.form
        have HE9 := Lib.hid ho.rd
        have HB9 := Lib.hid (below_all HB8.out hb)
        clear ho hb
        obtain ⟨D, hD⟩ : ∃ D, S'.dirtyL t = D := ⟨_, rfl⟩
        have HD := Lib.hid hD
        rw [hD] at HE9 ⊢
        obtain ⟨M, hM⟩ : ∃ M, D.length = M := ⟨_, rfl⟩
        have HM : Hid (D.length = M ∧ M ≤ 64) := Lib.hid ⟨hM, by rw [← hM, ← hD]; exact Nat.le_trans (List.length_filter_le _ _) HR5.out.lens.1⟩
        rw [hM]
        clear hD hM
        refine hK.out _ _ ?_ (fun hHeld2 => ?_)
        · exact HSS.out _ HB9.out
        clear hK K hHeld
        have hHeld := hHeld2
        clear hHeld2
        try simp only [Act.put, List.setIfInBounds_toArray, List.set_cons_zero, List.set_cons_succ, List.getElem_toArray, List.getElem_cons_zero, List.getElem_cons_succ]
        refine wpAnyH_ready (rs := [32]) (by kernel_rfl) (by simp) ?_
        refine (AllReadyH.cons rfl (fun K hK => ?_) AllReadyH.nil)
        go_simp
        refine (centries_at D HM.out.1 HE9.out (by have := HM.out.2; omega)).mono ?_
        rintro r w10 ⟨v10, rfl, ho, hb⟩
        obtain ⟨A10, c10, rfl, _, _, _⟩ := ho.form
        have HE10 := Lib.hid ho.rd
        have HB10 := Lib.hid (below_all HB9.out hb)
        clear ho hb HE9
        rw [HM.out.1]
        refine hK.out _ _ ?_ (fun hHeld2 => ?_)
        · exact HSS.out _ HB10.out
        clear hK K hHeld
        have hHeld := hHeld2
        clear hHeld2
        try simp only [Act.put, List.setIfInBounds_toArray, List.set_cons_zero, List.set_cons_succ, List.getElem_toArray, List.getElem_cons_zero, List.getElem_cons_succ]
        refine wpAnyH_ready (rs := [35]) (by kernel_rfl) (by simp) ?_
        refine (AllReadyH.cons rfl (fun K hK => ?_) AllReadyH.nil)
        go_simp
        refine (cdirty_at t (HR5.out.up HB10.out)).mono ?_
        rintro r w11 ⟨v11, rfl, ho, hb⟩
        rw [HD.out] at ho
        obtain ⟨A11, c11, rfl, _, _, _⟩ := ho.form
        have HE11 := Lib.hid ho.rd
        have HE10 := Lib.hid (HE10.out.up hb)
        have HB11 := Lib.hid (below_all HB10.out hb)
        clear ho hb
        rw [HM.out.1]
        refine hK.out _ _ ?_ (fun hHeld2 => ?_)
        · exact HSS.out _ HB11.out
        clear hK K hHeld
        have hHeld := hHeld2
        clear hHeld2
        try simp only [Act.put, List.setIfInBounds_toArray, List.set_cons_zero, List.set_cons_succ, List.getElem_toArray, List.getElem_cons_zero, List.getElem_cons_succ]
        refine wpAnyH_ready (rs := [36]) (by kernel_rfl) (by simp) ?_
        refine (AllReadyH.cons rfl (fun K hK => ?_) AllReadyH.nil)
        go_simp
        refine (csame_at D HM.out.1 HE10.out HE11.out (by have := HM.out.2; omega)).mono ?_
        rintro r w12 ⟨rfl, hb⟩
        have HB12 := Lib.hid (below_all HB11.out hb)
        clear hb HE10 HE11 HM HD
        refine hK.out _ _ ?_ (fun hHeld2 => ?_)
        · exact HSS.out _ HB12.out
        clear hK K hHeld
        have hHeld := hHeld2
        clear hHeld2
        try simp only [Act.put, List.setIfInBounds_toArray, List.set_cons_zero, List.set_cons_succ, List.getElem_toArray, List.getElem_cons_zero, List.getElem_cons_succ]
        refine wpAnyH_take (i := 37) (v := ?_) rfl (by kernel_rfl) (by kernel_rfl) (by kernel_rfl) (fun _ _ _ h => h) (Or.inl ⟨by rfl, ?_⟩) hHeld ?_
        rotate_left
        · intro u hSu
          obtain ⟨⟨x0, x1, x2, x3⟩, t0⟩ := hSu
          go_simp
          try with_reducible rfl
        try simp only [Act.put, List.setIfInBounds_toArray, List.set_cons_zero, List.set_cons_succ, List.getElem_toArray, List.getElem_cons_zero, List.getElem_cons_succ]
        refine wpAnyH_take (i := 38) (v := ?_) rfl (by kernel_rfl) (by kernel_rfl) (by kernel_rfl) (fun _ _ _ h => h) (Or.inl ⟨by rfl, ?_⟩) hHeld ?_
        rotate_left
        · intro u hSu
          obtain ⟨⟨x0, x1, x2, x3⟩, t0⟩ := hSu
          go_simp
          try with_reducible rfl
        try simp only [Act.put, List.setIfInBounds_toArray, List.set_cons_zero, List.set_cons_succ, List.getElem_toArray, List.getElem_cons_zero, List.getElem_cons_succ]
        refine wpAnyH_take (i := 39) (v := ?_) rfl (by kernel_rfl) (by kernel_rfl) (by kernel_rfl) (fun _ _ _ h => h) (Or.inl ⟨by rfl, ?_⟩) hHeld ?_
        rotate_left
        · intro u hSu
          obtain ⟨⟨x0, x1, x2, x3⟩, t0⟩ := hSu
          go_simp
          try with_reducible rfl
        try simp only [Act.put, List.setIfInBounds_toArray, List.set_cons_zero, List.set_cons_succ, List.getElem_toArray, List.getElem_cons_zero, List.getElem_cons_succ]
        refine wpAnyH_take (i := 40) (v := ?_) rfl (by kernel_rfl) (by kernel_rfl) (by kernel_rfl) (fun _ _ _ h => h) (Or.inl ⟨by rfl, ?_⟩) hHeld ?_
        rotate_left
        · intro u hSu
          obtain ⟨⟨x0, x1, x2, x3⟩, t0⟩ := hSu
          go_simp
          try with_reducible rfl
        try simp only [Act.put, List.setIfInBounds_toArray, List.set_cons_zero, List.set_cons_succ, List.getElem_toArray, List.getElem_cons_zero, List.getElem_cons_succ]
        refine wpAnyH_take (i := 42) (v := ?_) rfl (by kernel_rfl) (by kernel_rfl) (by kernel_rfl) (fun _ _ _ h => h) (Or.inl ⟨by rfl, ?_⟩) hHeld ?_
        rotate_left
        · intro u hSu
          obtain ⟨⟨x0, x1, x2, x3⟩, t0⟩ := hSu
          go_simp
          try with_reducible rfl
        try simp only [Act.put, List.setIfInBounds_toArray, List.set_cons_zero, List.set_cons_succ, List.getElem_toArray, List.getElem_cons_zero, List.getElem_cons_succ]
        refine wpAnyH_ready (rs := [41]) (by kernel_rfl) (by simp) ?_
        refine (AllReadyH.cons rfl (fun K hK => ?_) AllReadyH.nil)
        go_simp
        refine (lctables_at (HC5.out.up HB12.out)).mono ?_
        rintro r w13 ⟨A13, c13, rfl, h2, hb⟩
        have HE13 := Lib.hid h2.rdI.1
        have HB13 := Lib.hid (below_all HB12.out hb)
        obtain ⟨L, hL⟩ : ∃ L, S'.tabL.length = L := ⟨_, rfl⟩
        have HLT : Hid (S'.tabL.length = L ∧ L ≤ 16) := Lib.hid ⟨hL, by rw [← hL]; unfold CaS.tabL; exact Nat.le_trans (List.length_filter_le _ _) (by simp)⟩
        rw [hL]
        clear h2 hb hL
        refine hK.out _ _ ?_ (fun hHeld2 => ?_)
        · exact HSS.out _ HB13.out
        clear hK K hHeld
        have hHeld := hHeld2
        clear hHeld2
        try simp only [Act.put, List.setIfInBounds_toArray, List.set_cons_zero, List.set_cons_succ, List.getElem_toArray, List.getElem_cons_zero, List.getElem_cons_succ]
        refine wpAnyH_ready (rs := [43]) (by kernel_rfl) (by simp) ?_
        refine (AllReadyH.cons rfl (fun K hK => ?_) AllReadyH.nil)
        go_simp
        refine (ctables_at (HR5.out.up HB13.out)).mono ?_
        rintro r w14 ⟨g14, c14, rfl, ho, hb⟩
        have HE14 := Lib.hid ho.rd
        have HE13 := Lib.hid (HE13.out.up hb)
        have HB14 := Lib.hid (below_all HB13.out hb)
        rw [HLT.out.1]
        clear ho hb
        refine hK.out _ _ ?_ (fun hHeld2 => ?_)
        · exact HSS.out _ HB14.out
        clear hK K hHeld
        have hHeld := hHeld2
        clear hHeld2
        try simp only [Act.put, List.setIfInBounds_toArray, List.set_cons_zero, List.set_cons_succ, List.getElem_toArray, List.getElem_cons_zero, List.getElem_cons_succ]
        refine wpAnyH_ready (rs := [44]) (by kernel_rfl) (by simp) ?_
        refine (AllReadyH.cons rfl (fun K hK => ?_) AllReadyH.nil)
        go_simp
        refine (rsame_is (n := L) (m := L) HE13.out HE14.out (by rw [nats_len]; exact HLT.out.1) (by rw [nats_len]; exact HLT.out.1) (by have := HLT.out.2; omega)).mono ?_
        rw [show decide (nats S'.tabL = nats S'.tabL) = true by simp]
        rintro r w15 ⟨rfl, hb⟩
        have HB15 := Lib.hid (below_all HB14.out hb)
        clear hb HE13 HE14 HLT
        refine hK.out _ _ ?_ (fun hHeld2 => ?_)
        · exact HSS.out _ HB15.out
        clear hK K hHeld
        have hHeld := hHeld2
        clear hHeld2
        try simp only [Act.put, List.setIfInBounds_toArray, List.set_cons_zero, List.set_cons_succ, List.getElem_toArray, List.getElem_cons_zero, List.getElem_cons_succ]
        refine wpAnyH_take (i := 45) (v := ?_) rfl (by kernel_rfl) (by kernel_rfl) (by kernel_rfl) (fun _ _ _ h => h) (Or.inl ⟨by rfl, ?_⟩) hHeld ?_
        rotate_left
        · intro u hSu
          obtain ⟨⟨x0, x1, x2, x3⟩, t0⟩ := hSu
          go_simp
          try with_reducible rfl
        try simp only [Act.put, List.setIfInBounds_toArray, List.set_cons_zero, List.set_cons_succ, List.getElem_toArray, List.getElem_cons_zero, List.getElem_cons_succ]
        refine wpAnyH_take (i := 46) (v := ?_) rfl (by kernel_rfl) (by kernel_rfl) (by kernel_rfl) (fun _ _ _ h => h) (Or.inl ⟨by rfl, ?_⟩) hHeld ?_
        rotate_left
        · intro u hSu
          obtain ⟨⟨x0, x1, x2, x3⟩, t0⟩ := hSu
          go_simp
          try with_reducible rfl
        try simp only [Act.put, List.setIfInBounds_toArray, List.set_cons_zero, List.set_cons_succ, List.getElem_toArray, List.getElem_cons_zero, List.getElem_cons_succ]
        refine wpAnyH_done (by kernel_rfl) ?_ _
        have HT15 := Lib.hid (HT5.out.up HB15.out)
        clear HT5 HX5 HC5 HO5 HR5 HSS hHeld HB6 HB7 HB8 HB9 HB10 HB11 HB12 HB13 HB14 HB15
        obtain ⟨⟨σd, hcd⟩, ⟨vLd, vSd, σe, hrd, _⟩, _, _, _⟩ := HT15.out
        obtain ⟨⟨vb, va, vd⟩, hv⟩ : ∃ z, vicF S' = z := ⟨_, rfl⟩
        obtain ⟨vi, hvi⟩ : ∃ z, S'.vicE.isSome = z := ⟨_, rfl⟩
        have HV := Lib.hid (lcvictim_at hcd)
        unfold LVicIs ceV at HV
        rw [hv, hvi] at HV
        have HV2 : Hid (∀ u, Below w15.heap.size w15 u → Calls Tryz.prog 20 #[.pointer (some ⟨rc, 0, none⟩)] u (fun r w' => r = .returned (.tuple #[.agg #[.int .i64 (vb : Int), .int .u32 (va : Int), .bool vd], .bool vi]) ∧ Below u.heap.size u w')) := Lib.hid (fun u hu => by
          have h1 := cvictim_at (hrd.up hu)
          unfold RVicIs rceV at h1
          rw [show rvicF S' = ⟨vb, va, vd⟩ from hv, hvi] at h1
          exact h1)
        clear hcd hrd hv hvi
        go_wp2_with fail
        refine HV.out.mono ?_
        rintro r w16 ⟨rfl, hb16⟩
        obtain ⟨w17, hw17⟩ : ∃ u, w16.alloc (.cells #[.int .i64 (vb : Int), .int .u32 (va : Int), .bool vd] 56) = u := ⟨_, rfl⟩
        have hb17 : Below w16.heap.size w16 w17 := by rw [← hw17]; exact (Below.refl _ _).alloc (Nat.le_refl _) _
        have hx17 : Blk w17 w16.heap.size 56 [.int .i64 (vb : Int), .int .u32 (va : Int), .bool vd] := by rw [← hw17]; exact heap_alloc_new w16 _
        obtain ⟨p17, hp17⟩ : ∃ u, w16.heap.size = u := ⟨_, rfl⟩
        rw [hp17] at hx17
        have HX17 := Lib.hid hx17
        have HB17 := Lib.hid (below_all hb16 hb17)
        have HV3 := Lib.hid (HV2.out w17 HB17.out)
        clear hb16 hb17 hx17 HV HV2
        go_wp2_with fail
        refine HV3.out.mono ?_
        rintro r w18 ⟨rfl, hb18⟩
        obtain ⟨w19, hw19⟩ : ∃ u, w18.alloc (.cells #[.int .i64 (vb : Int), .int .u32 (va : Int), .bool vd] 59) = u := ⟨_, rfl⟩
        have hb19 : Below w18.heap.size w18 w19 := by rw [← hw19]; exact (Below.refl _ _).alloc (Nat.le_refl _) _
        have hx19 : Blk w19 w18.heap.size 59 [.int .i64 (vb : Int), .int .u32 (va : Int), .bool vd] := by rw [← hw19]; exact heap_alloc_new w18 _
        have hy19 := (HX17.out.up hb18 (lt_of_block HX17.out)).up hb19 (by have := lt_of_block HX17.out; have := hb18.size; omega)
        obtain ⟨p19, hp19⟩ : ∃ u, w18.heap.size = u := ⟨_, rfl⟩
        rw [hp19] at hx19
        have HT19 := Lib.hid (HT15.out.up (below_all HB17.out (below_all hb18 hb19)))
        have y0 := hy19.cell 0 (by simp)
        have y1 := hy19.cell 1 (by simp)
        have y2 := hy19.cell 2 (by simp)
        have z0 := hx19.cell 0 (by simp)
        have z1 := hx19.cell 1 (by simp)
        have z2 := hx19.cell 2 (by simp)
        simp only [List.getElem_cons_zero, List.getElem_cons_succ] at y0 y1 y2 z0 z1 z2
        clear hb18 hb19 hx19 hy19 HX17 HB17 HV3 HT15
        have qi : (vi != vi) = false := by simp
        go_wp2_with fail
        go_roundg (m - (i + 1))
        case rel => exact ⟨i + 1, S', by omega, rfl, by go_num, HT19.out⟩
        case measure => have := HQ.out; omega
      · go_wp2_with fail
        go_ret
        exact ⟨rfl, HD.out.old⟩
  · rw [if_neg hnn] at h
    obtain rfl := h
    clear hb
    go_wp2_with fail
    refine (cnew_at n w2).mono ?_
    rintro r w3 ⟨hb, h⟩
    rw [if_neg hnn] at h
    obtain rfl := h
    have HB3 := Lib.hid (below_all HB2.out hb)
    clear hb HB2 HB1
    go_wp2_with fail
    refine (code_errno 1 (HG.out.below HB3.out)).mono ?_
    rintro r w4 ⟨rfl, hb⟩
    have HB4 := Lib.hid (below_all HB3.out hb)
    clear hb HB3
    go_wp2_with fail
    go_ret
    exact ⟨rfl, HB4.out⟩
end Go.Proofs.YtajccmkdfmpapaaGreatDoor
