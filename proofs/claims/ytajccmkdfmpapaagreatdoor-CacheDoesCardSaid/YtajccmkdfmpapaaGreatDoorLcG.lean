/-
  The cache in memory: lay, Put.
-/
import Derived.Test.YtajccmkdfmpapaaGreatDoorZmK
namespace Go.Proofs.YtajccmkdfmpapaaGreatDoor
open Go.RowKit

namespace CaS
variable {S : CaS} {b a : Nat} {d : Bool}
def layB (S : CaS) : Bool := decide (S.E.length < S.n)
def layS (S : CaS) (b a : Nat) (d : Bool) : CaS := if S.E.length < S.n then S.newS b a d else S
theorem lay_yes (h : S.E.length < S.n) : S.layS b a d = S.newS b a d := if_pos h
theorem lay_no (h : ¬ S.E.length < S.n) : S.layS b a d = S := if_neg h
theorem layB_yes (h : S.E.length < S.n) : S.layB = true := decide_eq_true h
theorem layB_no (h : ¬ S.E.length < S.n) : S.layB = false := decide_eq_false h
end CaS
section
variable {w : World} {cb kb ib eb : Nat} {σ : Nat → Nat} {S : CaS}
theorem LcC.onE {F : Nat → Prop} {w0 w' : World} {v : Value} {S' : CaS} {r : Ending} (hk : Kept (lcF kb ib eb) w0 w) (h : LcTo cb kb ib eb v S' w r w') : LcTo cb kb ib eb v S' w0 r w' := ⟨h.1, h.2.1, hk.and h.2.2⟩
theorem LcTo.drew {v : Value} {S' : CaS} {r : Ending} {w' : World} (h : LcTo cb kb ib eb v S' w r w') : LcTo cb kb ib eb v S' w r w'.drew := by
  obtain ⟨h1, ⟨s, h2⟩, h3⟩ := h
  exact ⟨h1, ⟨s, h2.drew⟩, h3.drew⟩
set_option maxHeartbeats 4000000 in
set_option maxRecDepth 100000 in
theorem lclay_at (b a : Nat) (d : Bool) (h : LcC w cb kb ib eb σ S) (hh : S.has (b : Int) = false) (h64 : b < 64) : Calls Tryz.prog 46 #[.pointer (some ⟨cb, 0, none⟩), .agg #[.int .i64 (b : Int), .int .u32 (a : Int), .bool d]] w (LcTo cb kb ib eb (.bool S.layB) (S.layS b a d) w) := by
  obtain ⟨xb, hxb⟩ : ∃ xb, w.heap.size = xb := ⟨_, rfl⟩
  obtain ⟨w0, hw0⟩ : ∃ w0, w.alloc (.cells #[.int .i64 (b : Int), .int .u32 (a : Int), .bool d] 56) = w0 := ⟨_, rfl⟩
  have hb0 : Below w.heap.size w w0 := by rw [← hw0]; exact (Below.refl _ _).alloc (Nat.le_refl _) _
  have hx0 : Blk w0 xb 56 [.int .i64 (b : Int), .int .u32 (a : Int), .bool d] := by rw [← hw0, ← hxb]; exact heap_alloc_new w _
  have HK0 : Hid (Kept (lcF kb ib eb) w w0) := Lib.hid (Kept.of_below hb0)
  have HH := Lib.hid (h.up hb0)
  have HX0 := Lib.hid hx0
  have hltc := h.lt
  have hne := h.ne
  have HNE := Lib.hid (show cb < xb ∧ kb < ib ∧ ib < eb ∧ eb < cb by rw [← hxb]; exact ⟨hltc, hne⟩)
  have HHH := Lib.hid hh
  have H64 := Lib.hid h64
  have c20 := (h.up hb0).cells.2.2
  have hn64 := h.wf.n64
  obtain ⟨n, hn⟩ : ∃ n, S.n = n := ⟨_, rfl⟩
  have HN := Lib.hid hn
  rw [hn] at c20 hn64
  have hw : IntKind.u32.wrap (b : Int) = (b : Int) := by
    rw [IntKind.wrap_u32]
    omega
  clear h hh h64 hb0 hx0 hltc hne hn
  go_enter Tryz.func46, Tryz.ntmps46
  go_wp2_with fail
  go_loopg [5, 11] n (fun q z x wr => ∃ i : Nat, i ≤ n ∧ q = n - i ∧ x = .int .i64 (i : Int) ∧ LcC wr cb kb ib eb σ S ∧ (∀ t, t < i → (S.rk.map σ).has (t : Int) = true) ∧ Kept (lcF kb ib eb) w wr ∧ Blk wr xb 56 [.int .i64 (b : Int), .int .u32 (a : Int), .bool d])
  case atStart => exact ⟨0, by omega, rfl, rfl, HH.out, fun t ht => by omega, HK0.out, HX0.out⟩
  case round =>
    clear HH HX0 HK0
    obtain ⟨i, hi, hq, rfl, hc, hall, hk, hx⟩ := hrel
    have HQ := Lib.hid hq
    have HC := Lib.hid hc
    have HA := Lib.hid hall
    have HK := Lib.hid hk
    have HX0 := Lib.hid hx
    have c0 := hc.cells.1
    clear hq hc hall hk hx
    by_cases hlt : i < n
    · have hin : i < S.n := by rw [HN.out]; exact hlt
      have HI := Lib.hid (linsert_at (i : Int) HC.out.k)
      cases hno : (S.rk.map σ).has (i : Int) with
      | true =>
        have hb : (S.rk.map σ).insB (i : Int) = false := by rw [insB_slot (R := S.rk.map σ) hin, hno]; rfl
        have HE : Hid (∀ w', RkM w' kb ((S.rk.map σ).insS (i : Int)) → Kept (fun k => k = kb) wr w' → LcC w' cb kb ib eb σ S ∧ Kept (lcF kb ib eb) w w' ∧ Blk w' xb 56 [.int .i64 (b : Int), .int .u32 (a : Int), .bool d]) := Lib.hid (fun w' hr hk => ⟨HC.out.no_ins hin hno hr hk, HK.out.and (hk.mono (fun k _ e => .inl e)), hk.blk HX0.out (by have := HNE.out; omega)⟩)
        have HA2 : Hid (∀ t, t < i + 1 → (S.rk.map σ).has (t : Int) = true) := Lib.hid (fun t ht => by
          by_cases e : t = i
          · subst e
            exact hno
          · exact HA.out t (by omega))
        rw [hb] at HI
        clear hb hno
        go_wp2_with fail
        refine HI.out.mono ?_
        rintro r w4 ⟨rfl, hr, hk⟩
        obtain ⟨h1, h2, h3⟩ := HE.out _ hr hk
        have H1 := Lib.hid h1
        have H2 := Lib.hid h2
        have H3 := Lib.hid h3
        clear hr hk h1 h2 h3 HE HI HC HK HX0
        go_wp2_with fail
        go_roundg (n - (i + 1))
        case rel => exact ⟨i + 1, by omega, rfl, by go_num, H1.out, HA2.out, H2.out, H3.out⟩
        case measure => have := HQ.out; omega
      | false =>
        have hb : (S.rk.map σ).insB (i : Int) = true := by rw [insB_slot (R := S.rk.map σ) hin, hno]; rfl
        rw [hb] at HI
        have HE : Hid (∀ w4, RkM w4 kb ((S.rk.map σ).insS (i : Int)) → Kept (fun k => k = kb) wr w4 → ∀ w5, IxM w5 ib ((ixs σ S).putS b (i : Int)) → Kept (fun k => k = ib) w4 w5 → LcTo cb kb ib eb (.bool S.layB) (S.layS b a d) w (.returned (.bool true)) (put3 w5 eb i (.int .i64 (b : Int)) (.int .u32 (a : Int)) (.bool d))) := Lib.hid (fun w4 hr hk1 w5 hx hk2 => by
          have hl := CaS.free_room HC.out.wf HC.out.k.2 hin hno
          rw [CaS.lay_yes hl, CaS.layB_yes hl]
          have := HC.out.put_in (a := a) (d := d) HHH.out H64.out hin hno hr hk1 hx hk2
          exact ⟨rfl, ⟨_, this.1⟩, HK.out.and this.2⟩)
        clear hb hno
        go_wp2_with fail
        refine HI.out.mono ?_
        rintro r w4 ⟨rfl, hr, hk⟩
        have HR4 := Lib.hid hr
        have HK4 := Lib.hid hk
        have HX : Hid (IxM w4.drew ib (ixs σ S)) := Lib.hid ((HC.out.x.keep hk (by have := HNE.out; omega)).up (Below.refl _ _).drew)
        have HSS : Hid (∀ u, Kept (fun k => k = ib) w4 u → u.cell? ⟨cb, 1, none⟩ = some (.pointer (some ⟨ib, 0, none⟩)) ∧ u.cell? ⟨xb, 0, none⟩ = some (.int .i64 (b : Int))) := Lib.hid (fun u hu => by
          have h0 := HNE.out
          have h4 : Kept (fun k => k = kb ∨ k = ib) wr u := (HK4.out.mono (fun k _ e => .inl e)).and (hu.mono (fun k _ e => .inr e))
          exact ⟨h4.cell HC.out.cells.2.1 (show ¬ (cb = kb ∨ cb = ib) by omega), h4.cell (HX0.out.cell 0 (by simp)) (show ¬ (xb = kb ∨ xb = ib) by omega)⟩)
        have HS6 : Hid (∀ u, Kept (fun k => k = ib) w4 u → u.cell? ⟨cb, 2, none⟩ = some (.slice (some ⟨eb, 0, none⟩) n n) ∧ Blk u xb 56 [.int .i64 (b : Int), .int .u32 (a : Int), .bool d] ∧ ∃ cs, Blk u eb 56 cs ∧ cs.length = n * 3) := Lib.hid (fun u hu => by
          have h0 := HNE.out
          have h4 : Kept (fun k => k = kb ∨ k = ib) wr u := (HK4.out.mono (fun k _ e => .inl e)).and (hu.mono (fun k _ e => .inr e))
          obtain ⟨cs, hbk, hl, _⟩ := HC.out.e
          have h2 := h4.cell HC.out.cells.2.2 (show ¬ (cb = kb ∨ cb = ib) by omega)
          rw [HN.out] at h2 hl
          exact ⟨h2, h4.blk HX0.out (by omega), cs, h4.blk hbk (by omega), hl⟩)
        clear hr hk HI c0
        go_wp2_with fail
        refine wp_region_held_drew (S := fun u => u.cell? ⟨cb, 1, none⟩ = some (.pointer (some ⟨ib, 0, none⟩)) ∧ u.cell? ⟨xb, 0, none⟩ = some (.int .i64 (b : Int))) (by kernel_rfl) (HSS.out _ (Kept.refl _ _).drew) (fun hHeld => ?_)
        show wpAnyH _ _ _ _ _ 9 _ _ _
        refine wpAnyH_take (i := 0) (v := ?_) rfl (by kernel_rfl) (by kernel_rfl) (by kernel_rfl) (fun _ _ _ h => h) (Or.inl ⟨by rfl, ?_⟩) hHeld ?_
        rotate_left
        · intro u hSu
          obtain ⟨x0, x1⟩ := hSu
          go_simp
          try with_reducible rfl
        try simp only [Act.put, List.setIfInBounds_toArray, List.set_cons_zero, List.set_cons_succ, List.getElem_toArray, List.getElem_cons_zero, List.getElem_cons_succ]
        refine wpAnyH_take (i := 1) (v := ?_) rfl (by kernel_rfl) (by kernel_rfl) (by kernel_rfl) (fun _ _ _ h => h) (Or.inl ⟨by rfl, ?_⟩) hHeld ?_
        rotate_left
        · intro u hSu
          obtain ⟨x0, x1⟩ := hSu
          go_simp
          try with_reducible rfl
        try simp only [Act.put, List.setIfInBounds_toArray, List.set_cons_zero, List.set_cons_succ, List.getElem_toArray, List.getElem_cons_zero, List.getElem_cons_succ]
        refine wpAnyH_take (i := 2) (v := ?_) rfl (by kernel_rfl) (by kernel_rfl) (by kernel_rfl) (fun _ _ _ h => h) (Or.inl ⟨by rfl, ?_⟩) hHeld ?_
        rotate_left
        · intro u hSu
          obtain ⟨x0, x1⟩ := hSu
          go_simp
          try with_reducible rfl
        try simp only [Act.put, List.setIfInBounds_toArray, List.set_cons_zero, List.set_cons_succ, List.getElem_toArray, List.getElem_cons_zero, List.getElem_cons_succ]
        refine wpAnyH_take (i := 3) (v := ?_) rfl (by kernel_rfl) (by kernel_rfl) (by kernel_rfl) (fun _ _ _ h => h) (Or.inl ⟨by rfl, ?_⟩) hHeld ?_
        rotate_left
        · intro u hSu
          obtain ⟨x0, x1⟩ := hSu
          go_simp
          try with_reducible rfl
        try simp only [Act.put, List.setIfInBounds_toArray, List.set_cons_zero, List.set_cons_succ, List.getElem_toArray, List.getElem_cons_zero, List.getElem_cons_succ]
        refine wpAnyH_take (i := 4) (v := ?_) rfl (by kernel_rfl) (by kernel_rfl) (by kernel_rfl) (fun _ _ _ h => h) (Or.inl ⟨by rfl, ?_⟩) hHeld ?_
        rotate_left
        · intro u hSu
          obtain ⟨x0, x1⟩ := hSu
          go_simp
          try with_reducible rfl
        try simp only [Act.put, List.setIfInBounds_toArray, List.set_cons_zero, List.set_cons_succ, List.getElem_toArray, List.getElem_cons_zero, List.getElem_cons_succ]
        refine wpAnyH_take (i := 5) (v := ?_) rfl (by kernel_rfl) (by kernel_rfl) (by kernel_rfl) (fun _ _ _ h => h) (Or.inl ⟨by rfl, ?_⟩) hHeld ?_
        rotate_left
        · intro u hSu
          obtain ⟨x0, x1⟩ := hSu
          go_simp
          try with_reducible rfl
        try simp only [Act.put, List.setIfInBounds_toArray, List.set_cons_zero, List.set_cons_succ, List.getElem_toArray, List.getElem_cons_zero, List.getElem_cons_succ]
        refine wpAnyH_take (i := 6) (v := ?_) rfl (by kernel_rfl) (by kernel_rfl) (by kernel_rfl) (fun _ _ _ h => h) (Or.inl ⟨by rfl, ?_⟩) hHeld ?_
        rotate_left
        · intro u hSu
          obtain ⟨x0, x1⟩ := hSu
          go_simp
          try with_reducible rfl
        try simp only [Act.put, List.setIfInBounds_toArray, List.set_cons_zero, List.set_cons_succ, List.getElem_toArray, List.getElem_cons_zero, List.getElem_cons_succ]
        refine wpAnyH_take (i := 7) (v := ?_) rfl (by kernel_rfl) (by kernel_rfl) (by kernel_rfl) (fun _ _ _ h => h) (Or.inl ⟨by rfl, ?_⟩) hHeld ?_
        rotate_left
        · intro u hSu
          obtain ⟨x0, x1⟩ := hSu
          go_simp
          try with_reducible rfl
        try simp only [Act.put, List.setIfInBounds_toArray, List.set_cons_zero, List.set_cons_succ, List.getElem_toArray, List.getElem_cons_zero, List.getElem_cons_succ]
        refine wpAnyH_ready (rs := [8]) (by kernel_rfl) (by simp) ?_
        refine (AllReadyH.cons rfl (fun K hK => ?_) AllReadyH.nil)
        go_simp
        refine (xput_at b (i : Int) HX.out).mono ?_
        rintro r w5 h
        obtain ⟨rfl, hx5, hk5⟩ := h
        have HX5 := Lib.hid hx5
        have HK5 := Lib.hid ((Kept.refl (fun k => k = ib) w4).drew.and hk5)
        clear hx5 hk5
        refine hK.out _ _ ?_ (fun hHeld2 => ?_)
        · exact HSS.out _ HK5.out
        clear hK K hHeld
        have hHeld := hHeld2
        clear hHeld2
        try simp only [Act.put, List.setIfInBounds_toArray, List.set_cons_zero, List.set_cons_succ, List.getElem_toArray, List.getElem_cons_zero, List.getElem_cons_succ]
        refine wpAnyH_done (by kernel_rfl) ?_ _
        have HE5 := Lib.hid (HE.out _ HR4.out HK4.out _ HX5.out HK5.out)
        obtain ⟨c2, hbx, cs, hbe, hcl⟩ := HS6.out _ HK5.out
        have y0 := hbx.cell 0 (by simp)
        have y1 := hbx.cell 1 (by simp)
        have y2 := hbx.cell 2 (by simp)
        obtain ⟨v0, e0⟩ : ∃ v, w5.cell? ⟨eb, i * 3, none⟩ = some v := ⟨_, hbe.cell (i * 3) (by omega)⟩
        obtain ⟨v1, e1⟩ : ∃ v, w5.cell? ⟨eb, i * 3 + 1, none⟩ = some v := ⟨_, hbe.cell (i * 3 + 1) (by omega)⟩
        obtain ⟨v2, e2⟩ : ∃ v, w5.cell? ⟨eb, i * 3 + 2, none⟩ = some v := ⟨_, hbe.cell (i * 3 + 2) (by omega)⟩
        have f0 := hbe.free (i * 3)
        have f1 := hbe.free (i * 3 + 1)
        have f2 := hbe.free (i * 3 + 2)
        unfold put3 at HE5
        clear HE HR4 HK4 HX5 HK5 HSS HS6 HX hbx hbe hcl HC HK HX0 HA
        go_wp2_with fail
        go_region
        go_wp2_with fail
        go_ret
        exact HE5.out.drew
    · obtain rfl : i = n := by omega
      have HE : Hid (LcTo cb kb ib eb (.bool S.layB) (S.layS b a d) w (.returned (.bool false)) wr) := Lib.hid (by
        have hl : ¬ S.E.length < S.n := fun hl => by
          have := CaS.free_lt HC.out.wf HC.out.inj hl (i := i) HA.out
          have := HN.out
          omega
        rw [CaS.lay_no hl, CaS.layB_no hl]
        exact ⟨rfl, ⟨σ, HC.out⟩, HK.out⟩)
      clear HC HA HK HX0
      go_wp2_with fail
      go_ret
      exact HE.out
set_option maxHeartbeats 2000000 in
set_option maxRecDepth 100000 in
theorem lcput_at (x : Int) (a : Nat) (d : Bool) (h : LcC w cb kb ib eb σ S) : Calls Tryz.prog 21 #[.pointer (some ⟨cb, 0, none⟩), .int .i64 x, .int .u32 (a : Int), .bool d] w (LcTo cb kb ib eb (.bool (S.putB x)) (S.putS x a d) w) := by
  have HF := Lib.hid (lfindc_at x h)
  have HH := Lib.hid h
  cases hh : S.has x with
  | false =>
    unfold FindIs at HF
    rw [slotOf_no hh, hh] at HF
    by_cases hm : 0 ≤ x ∧ x < 64
    · obtain ⟨b, rfl⟩ := Int.eq_ofNat_of_zero_le hm.1
      have HM : Hid ((decide (0 ≤ (b : Int)) && decide ((b : Int) < 64)) = true) := Lib.hid (by simp [hm.2])
      have HB : Hid (S.putB (b : Int) = S.layB ∧ S.putS (b : Int) a d = S.layS b a d) := Lib.hid (by
        by_cases hl : S.E.length < S.n
        · have := CaS.put_new (a := a) (d := d) hh (by omega) hl
          rw [CaS.layB_yes hl, CaS.lay_yes hl]
          exact ⟨this.2, this.1⟩
        · have hp : S.putB (b : Int) = false := by
            unfold CaS.putB
            rw [hh]
            simp [hl]
          rw [CaS.layB_no hl, CaS.lay_no hl]
          exact ⟨hp, CaS.put_no hh hp⟩)
      have HL : Hid (∀ w1, Below w.heap.size w w1 → Calls Tryz.prog 46 #[.pointer (some ⟨cb, 0, none⟩), .agg #[.int .i64 (b : Int), .int .u32 (a : Int), .bool d]] w1 (LcTo cb kb ib eb (.bool S.layB) (S.layS b a d) w1)) := Lib.hid (fun w1 hb => lclay_at b a d (h.up hb) hh (by omega))
      rw [HB.out.1, HB.out.2]
      clear h hh hm
      go_enter Tryz.func21, Tryz.ntmps21
      go_wp2_with fail
      refine HF.out.mono ?_
      rintro r w1 ⟨rfl, hb⟩
      have HB1 := Lib.hid hb
      clear hb
      go_wp2_with fail
      refine (lmay_at (b : Int) w1).mono ?_
      rintro r w2 ⟨rfl, rfl⟩
      rw [HM.out]
      go_wp2_with fail
      refine (HL.out _ HB1.out).mono ?_
      rintro r w3 h
      obtain ⟨rfl, h2, h3⟩ := h
      have HE : Hid (LcTo cb kb ib eb (.bool S.layB) (S.layS b a d) w (.returned (.bool S.layB)) w3) := Lib.hid ⟨rfl, h2, (Kept.of_below HB1.out).and h3⟩
      clear h2 h3 HL HB HF HB1
      generalize S.layB = lb at *
      go_wp2_with fail
      go_ret
      exact HE.out
    · have HM : Hid ((decide (0 ≤ x) && decide (x < 64)) = false) := Lib.hid (by
        by_cases h0 : 0 ≤ x
        · have : ¬ x < 64 := fun h1 => hm ⟨h0, h1⟩
          simp [this]
        · simp [h0])
      have HE : Hid (∀ w1, Below w.heap.size w w1 → LcTo cb kb ib eb (.bool (S.putB x)) (S.putS x a d) w (.returned (.bool false)) w1) := Lib.hid (fun w1 hb => by
        have hp : S.putB x = false := by
          unfold CaS.putB
          rw [hh]
          by_cases h0 : 0 ≤ x
          · have : ¬ x ≤ 63 := fun h1 => hm ⟨h0, by omega⟩
            simp [this]
          · simp [h0]
        rw [hp, CaS.put_no hh hp]
        exact ⟨rfl, ⟨σ, h.up hb⟩, Kept.of_below hb⟩)
      clear h hh hm
      go_enter Tryz.func21, Tryz.ntmps21
      go_wp2_with fail
      refine HF.out.mono ?_
      rintro r w1 ⟨rfl, hb⟩
      have HB1 := Lib.hid hb
      clear hb
      go_wp2_with fail
      refine (lmay_at x w1).mono ?_
      rintro r w2 ⟨rfl, rfl⟩
      rw [HM.out]
      go_wp2_with fail
      go_ret
      exact HE.out _ HB1.out
  | true =>
    obtain ⟨e, he, hb, ha, hn⟩ := has_at hh
    unfold FindIs at HF
    rw [slotOf_yes hh hn, hh] at HF
    obtain ⟨hlt, _⟩ := h.slot he
    have hne := h.ne
    have hpb : S.putB x = true := by unfold CaS.putB; rw [hh]; rfl
    obtain ⟨s, hs⟩ : ∃ s, σ e.b = s := ⟨_, rfl⟩
    have HC : Hid (∀ w1, Below w.heap.size w w1 → w1.cell? ⟨cb, 0, none⟩ = some (.pointer (some ⟨kb, 0, none⟩)) ∧ w1.cell? ⟨cb, 2, none⟩ = some (.slice (some ⟨eb, 0, none⟩) S.n S.n) ∧ w1.cell? ⟨eb, s * 3 + 1, none⟩ = some (.int .u32 (e.a : Int)) ∧ w1.cell? ⟨eb, s * 3 + 2, none⟩ = some (.bool e.d) ∧ ∀ i, w1.frozen? ⟨eb, i, none⟩ = false) := Lib.hid (fun w1 hb1 => by
      have h1 := h.up hb1
      obtain ⟨_, c0, c1, c2⟩ := h1.slot he
      rw [hs] at c0 c1 c2
      exact ⟨h1.cells.1, h1.cells.2.2, c1, c2, h1.free⟩)
    have HE : Hid (∀ w1, Below w.heap.size w w1 → ∃ S1 : CaS, LcC ((w1.setCell ⟨eb, s * 3 + 1, none⟩ (.int .u32 (a : Int))).setCell ⟨eb, s * 3 + 2, none⟩ (.bool (e.d || d))) cb kb ib eb σ S1 ∧ S1.rk = S.rk ∧ (∀ w', LcTo cb kb ib eb (.bool true) (S.putS x a d) ((w1.setCell ⟨eb, s * 3 + 1, none⟩ (.int .u32 (a : Int))).setCell ⟨eb, s * 3 + 2, none⟩ (.bool (e.d || d))) (.returned (.bool true)) w' → LcTo cb kb ib eb (.bool true) (S.putS x a d) w (.returned (.bool true)) w') ∧ ∀ w', RkM w' kb ((S.rk.map σ).touS (s : Int)) → Kept (fun k => k = kb) ((w1.setCell ⟨eb, s * 3 + 1, none⟩ (.int .u32 (a : Int))).setCell ⟨eb, s * 3 + 2, none⟩ (.bool (e.d || d))) w' → LcC w' cb kb ib eb σ (S.putS x a d)) := Lib.hid (fun w1 hb1 => by
      have h1 := h.up hb1
      obtain ⟨cs, hbk, hl, hc⟩ := h1.e
      have hi : ∀ z ∈ S.E, σ z.b = σ e.b → z.b = e.b := fun z hz e2 => h1.inj z hz e he e2
      have hs1 := hc.set1 (y := a) hi ⟨e, he, rfl⟩
      have hm1 : ∀ z ∈ setE S.E (e.b : Int) (fun e => { e with a := a }), ∃ z0 ∈ S.E, z0.b = z.b ∧ z0.d = z.d := fun z hz => by
        obtain ⟨z0, h0, rfl⟩ := List.mem_map.1 hz
        refine ⟨z0, h0, ?_⟩
        split <;> exact ⟨rfl, rfl⟩
      have hs2 := hs1.set2 (b := e.b) (f := fun z => z.d || d) (v := e.d || d) (fun z hz e2 => by
        obtain ⟨z0, h0, hb0, _⟩ := hm1 z hz
        rw [← hb0] at e2 ⊢
        exact hi z0 h0 e2) (fun z hz e2 => by
        obtain ⟨z0, h0, hb0, hd0⟩ := hm1 z hz
        obtain ⟨i, hi1, rfl⟩ := List.getElem_of_mem h0
        obtain ⟨j, hj1, hj⟩ := List.getElem_of_mem he
        have : i = j := asc_inj h.wf.asc hi1 hj1 (by rw [hj, hb0, e2])
        subst this
        rw [← hd0, hj])
      rw [setE_twice (L := S.E) (x := (e.b : Int)) (f := fun z => { z with a := a }) (g := fun z => { z with d := z.d || d }) (fun _ => rfl), hb, hs] at hs2
      have hk : Kept (fun k => k = eb) w1 ((w1.setCell ⟨eb, s * 3 + 1, none⟩ (.int .u32 (a : Int))).setCell ⟨eb, s * 3 + 2, none⟩ (.bool (e.d || d))) := ((Kept.refl (fun k => k = eb) w1).put (.inl rfl) _ _).put (.inl rfl) _ _
      have hc1 := h1.entries (L := setE S.E x (fun e => { e with a := a, d := e.d || d })) hk ((hbk.put _ _).put _ _) (by simpa using hl) hs2 (setE_b x (f := fun e => { e with a := a, d := e.d || d }) (fun _ => rfl))
      have hput : S.putS x a d = ({ S with E := setE S.E x (fun e => { e with a := a, d := e.d || d }) } : CaS).useS x := by
        unfold CaS.putS
        rw [if_pos hh]
      refine ⟨_, hc1, rfl, fun w' ht => ⟨rfl, ht.2.1, (Kept.of_below hb1).and ((hk.mono (fun k _ e => .inr (.inr e))).and ht.2.2)⟩, fun w' hm hk2 => ?_⟩
      rw [hput]
      have hat : atE (setE S.E x (fun e => { e with a := a, d := e.d || d })) x = some { e with a := a, d := e.d || d } := by
        rw [atE_set (f := fun e => { e with a := a, d := e.d || d }) (fun _ => rfl), if_pos rfl, ha]
        rfl
      obtain ⟨hm1, hb1⟩ := atE_some hat
      refine hc1.use (e := { e with a := a, d := e.d || d }) (by unfold CaS.has; rw [hat]; rfl) hm1 hb1 ?_ hk2
      show RkM w' kb ((S.rk.map σ).touS (σ e.b : Int))
      rw [hs]
      exact hm)
    rw [hs] at HF hlt
    have hn64 := h.wf.n64
    obtain ⟨n, hn'⟩ : ∃ n, S.n = n := ⟨_, rfl⟩
    rw [hn'] at hlt HC hn64
    obtain ⟨a0, ha0⟩ : ∃ y, e.a = y := ⟨_, rfl⟩
    obtain ⟨d0, hd0⟩ : ∃ y, e.d = y := ⟨_, rfl⟩
    rw [ha0, hd0] at HC
    rw [hd0] at HE
    rw [hpb]
    clear h hh hb ha hn hs hn' he hne ha0 hd0 hpb HH
    go_enter Tryz.func21, Tryz.ntmps21
    go_wp2_with fail
    refine HF.out.mono ?_
    rintro r w1 ⟨rfl, hb⟩
    have HB := Lib.hid hb
    obtain ⟨g0, g2, c1, c2, cf⟩ := HC.out _ hb
    have f1 := cf (s * 3 + 1)
    have f2 := cf (s * 3 + 2)
    obtain ⟨S1, hc1, hr1, hto, huse⟩ := HE.out _ hb
    have HT := Lib.hid (ltouch_at (s : Int) hc1.k)
    rw [hr1] at HT
    have HU := Lib.hid (And.intro hto huse)
    have z0 := hc1.cells.1
    clear hb cf HE HC HF hc1 hr1 hto huse
    cases d0 with
    | false =>
      rw [Bool.false_or] at HT HU z0
      go_wp2_with fail
      refine HT.out.mono ?_
      rintro r w2 ⟨rfl, hm, hk⟩
      have HR := Lib.hid (HU.out.1 _ ⟨rfl, ⟨σ, HU.out.2 _ hm hk⟩, hk.mono (fun k _ e => .inl e)⟩)
      clear hm hk HT HU z0 g0 g2 c1 c2
      generalize (S.rk.map σ).has (s : Int) = q2
      go_wp2_with fail
      go_ret
      exact HR.out
    | true =>
      rw [Bool.true_or] at HT HU z0
      go_wp2_with fail
      refine HT.out.mono ?_
      rintro r w2 ⟨rfl, hm, hk⟩
      have HR := Lib.hid (HU.out.1 _ ⟨rfl, ⟨σ, HU.out.2 _ hm hk⟩, hk.mono (fun k _ e => .inl e)⟩)
      clear hm hk HT HU z0 g0 g2 c1 c2
      generalize (S.rk.map σ).has (s : Int) = q2
      go_wp2_with fail
      go_ret
      exact HR.out
end
end Go.Proofs.YtajccmkdfmpapaaGreatDoor
